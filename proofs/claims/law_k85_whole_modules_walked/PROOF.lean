import PyProof.Rows.All
import Wide.All
import OpenK.AllK
import Wide.FinOn
import HandS.ForMost
import HandS.More
import HandS.SortRule
import HandS.SortInts
import HandS.TupSets
import HandS.Deep
import HandS.IsInst
import HandS.DictComp
import HandS.Style
import HandS.Flow
import HandS.TupAny
import HandS.Walk
import HandS.AnyAll
import HandS.GenOver
import PyProof.GenQ
import PyProof.GenComp
import PyProof.ConsumeS
import HandS.Zip
import HandS.Defaults
import PySem.Challenge.RW_pointedties_k85_whole_modules_walked
import KE.KDictCopyH
import KE.KDictPairs
import HandS.HeadWalk
import PyProof.ReprRoads
import HandS.SetFor
import HandS.Strs
import HandS.Conv
import HandS.Small
import KE.KStateDown
import HandS.Head0
import HandS.Head1
import HandS.Head2
import HandS.HeadEnd
import HandS.HeadHook1
import HandS.HeadHook2
import HandS.HeadHook3
import HandS.HeadHook4
set_option Elab.async false
set_option linter.all false
set_option maxRecDepth 100000
namespace My
open PySem PySem.Spec PyProof.Rows L2

/-! ### a def that may be called by its name -/
structure Cl (P : Program) (w : World) (K : PySem.W.Frag) (mg : Str → Option Value) (base : Heap)
    (k : Nat) (x : Str) (sp : Sp) : Prop where
  ex : ∃ (f : Addr) (fd : FuncData) (ps : List Str), FnOk P w K mg base CX0 k f fd ps sp ∧
    mg x = some (.ref f) ∧ PySem.W.keepIn K (.ref f) = true ∧ Binds K fd ps []
theorem Cl.mk' {P : Program} {w : World} {K : PySem.W.Frag} {mg : Str → Option Value} {base : Heap} {k : Nat} {x : Str} {sp : Sp}
    {st : Stmt} {f : Addr} {fd : FuncData} {ps : List Str} (F : Fun K x x st f fd) (hm : mg x = some (.ref f))
    (hb : Binds K fd ps []) (ok : FnOk P w K mg base CX0 k f fd ps sp) : Cl P w K mg base k x sp := ⟨f, fd, ps, ok, hm, F.kp, hb⟩
theorem pe_c {X : Cx} {k j : Nat} {x : Str} {sp : Sp} {p pos : Pos} {e : Expr} {es : List Expr} {t : TA}
    (c : Cl X.prog X.w X.K X.mg X.base k x sp) (hr : Room j X.A) (hk : k ≤ j) (hg : Gl X x) (ha : PA X (e :: es) t)
    (h1 : (x == ("__debug__" : Str)) = false := by decide)
    (h2 : starEach (e :: es) X.env = (false, eval e X.env) :: starEach es X.env := by rfl)
    (h3 : (backTo pos (starEach es X.env)).any (·.1) = false := by rfl) :
    PE X (.Call (.Name x p) (e :: es) [] pos) (tCall sp [] E0 t) := by
  obtain ⟨f, fd, ps, F, hm, kp, b⟩ := c.ex
  exact pe_call F (hr.mono hk) hg hm kp b .nil pass0 ha h1 h2 h3

/-! ### heaps: all stays but the list of draws at L -/
def Fr (L : Addr) (H H' : Hp) : Prop := ∀ b o, b ≠ L → H b = some o → H' b = some o
theorem Fr.refl (L : Addr) (H : Hp) : Fr L H H := fun _ _ _ h => h
theorem Fr.trans {L : Addr} {H H1 H2 : Hp} (a : Fr L H H1) (b : Fr L H1 H2) : Fr L H H2 :=
  fun c o n h => b c o n (a c o n h)
theorem Fr.of {L : Addr} {H H' : Hp} (a : Same H H') : Fr L H H' := fun b o _ h => a b o h
theorem same_new {H : Hp} {p : Addr} {o : HO} (h : H p = none) : Same H (upd H p o) := fun b x e => by
  rw [upd_ne (ne_of_none e h)]; exact e
theorem Fr.new {L : Addr} {H : Hp} {p : Addr} {o : HO} (h : H p = none) : Fr L H (upd H p o) := Fr.of (same_new h)
/-- what is new to the first heap may change -/
theorem Fr.put {L : Addr} {H H' : Hp} {p : Addr} {o : HO} (a : Fr L H H') (h : H p = none) : Fr L H (upd H' p o) :=
  fun b x n e => by rw [upd_ne (ne_of_none e h)]; exact a b x n e
theorem Same.put {H H' : Hp} {p : Addr} {o : HO} (a : Same H H') (h : H p = none) : Same H (upd H' p o) :=
  fun b x e => by rw [upd_ne (ne_of_none e h)]; exact a b x e
theorem Fr.putL {L : Addr} {H H' : Hp} {o : HO} (a : Fr L H H') : Fr L H (upd H' L o) :=
  fun b x n e => by rw [upd_ne n]; exact a b x n e

/-! ### the list of draws -/
def Lf (H : Hp) (L : Addr) (c : Int) : Prop :=
  ∃ x y z : Int, H L = some (.lst [.int x, .int y, .int z]) ∧ 0 ≤ x ∧ 0 ≤ z ∧ z ≤ c
theorem Lf.mono {H : Hp} {L : Addr} {c d : Int} (h : Lf H L c) (e : c ≤ d) : Lf H L d := by
  obtain ⟨x, y, z, h1, h2, h3, h4⟩ := h
  exact ⟨x, y, z, h1, h2, h3, Int.le_trans h4 e⟩
theorem Lf.same {H H' : Hp} {L : Addr} {c : Int} (h : Lf H L c) (e : Same H H') : Lf H' L c := by
  obtain ⟨x, y, z, h1, h2⟩ := h
  exact ⟨x, y, z, e _ _ h1, h2⟩
theorem Lf.new {H : Hp} {L p : Addr} {c : Int} {o : HO} (h : Lf H L c) (e : H p = none) : Lf (upd H p o) L c := h.same (same_new e)
theorem Lf.ne {H : Hp} {L p : Addr} {c : Int} (h : Lf H L c) (e : H p = none) : p ≠ L := by
  obtain ⟨x, y, z, h1, h2⟩ := h
  rintro rfl; rw [h1] at e; cases e
theorem Lf.put {H : Hp} {L p : Addr} {c : Int} {o : HO} (h : Lf H L c) (e : p ≠ L) : Lf (upd H p o) L c := by
  obtain ⟨x, y, z, h1, h2⟩ := h
  exact ⟨x, y, z, by rw [upd_ne (Ne.symm e)]; exact h1, h2⟩
theorem Lf.free {H H' : Hp} {L p : Addr} {c' : Int} (a : Fr L H H') (h' : Lf H' L c') (e : H' p = none) : H p = none := by
  have n := h'.ne e
  cases q : H p with
  | none => rfl
  | some o => rw [a p o n q] at e; cases e
theorem Lf.tup {H H' : Hp} {L p : Addr} {c : Int} {xs : List V} (a : Fr L H H') (h : Lf H L c) (e : H p = some (.tup xs)) : H' p = some (.tup xs) := by
  refine a p _ ?_ e
  obtain ⟨x, y, z, h1, h2⟩ := h
  rintro rfl; rw [h1] at e; cases e

/-! ### ties, rows of ties, webs -/
def Tie (H : Hp) (v : V) (t : Int × Int) : Prop := ∃ p, v = .ref p ∧ H p = some (.tup [.int t.1, .int t.2])
def Ties (H : Hp) : List V → List (Int × Int) → Prop
  | [], [] => True
  | v :: vs, t :: ts => Tie H v t ∧ Ties H vs ts
  | _, _ => False
/-- tuples stay -/
def Tst (H H' : Hp) : Prop := ∀ b xs, H b = some (.tup xs) → H' b = some (.tup xs)
theorem Tst.refl (H : Hp) : Tst H H := fun _ _ h => h
theorem Tst.trans {H H1 H2 : Hp} (a : Tst H H1) (b : Tst H1 H2) : Tst H H2 := fun c o h => b c o (a c o h)
theorem Same.tst {H H' : Hp} (a : Same H H') : Tst H H' := fun b xs h => a b _ h
theorem Lf.tst {H H' : Hp} {L : Addr} {c : Int} (h : Lf H L c) (a : Fr L H H') : Tst H H' := fun b xs e => Lf.tup a h e
theorem tst_new {H : Hp} {p : Addr} {o : HO} (h : H p = none) : Tst H (upd H p o) := Same.tst (same_new h)
theorem tst_put {H : Hp} {p : Addr} {o : HO} {xs : List V} (h : H p = some (.lst xs)) : Tst H (upd H p o) := fun b ys e => by
  rw [upd_ne]
  · exact e
  · rintro rfl; rw [h] at e; cases e
theorem Tie.mono {H H' : Hp} {v : V} {t : Int × Int} (a : Tst H H') (h : Tie H v t) : Tie H' v t := by
  obtain ⟨p, e, h⟩ := h
  exact ⟨p, e, a _ _ h⟩
theorem Ties.mono {H H' : Hp} (a : Tst H H') : ∀ {vs : List V} {ts : List (Int × Int)}, Ties H vs ts → Ties H' vs ts
  | [], [], _ => trivial
  | _ :: _, _ :: _, h => ⟨h.1.mono a, Ties.mono a h.2⟩
  | [], _ :: _, h => h.elim
  | _ :: _, [], h => h.elim
theorem Ties.app {H : Hp} : ∀ {vs : List V} {ts : List (Int × Int)} {us : List V} {rs : List (Int × Int)}, Ties H vs ts → Ties H us rs → Ties H (vs ++ us) (ts ++ rs)
  | [], [], _, _, _, k => k
  | _ :: _, _ :: _, _, _, h, k => ⟨h.1, Ties.app h.2 k⟩
  | [], _ :: _, _, _, h, _ => h.elim
  | _ :: _, [], _, _, h, _ => h.elim
theorem Ties.len {H : Hp} : ∀ {vs : List V} {ts : List (Int × Int)}, Ties H vs ts → vs.length = ts.length
  | [], [], _ => rfl
  | _ :: _, _ :: _, h => congrArg (· + 1) (Ties.len h.2)
  | [], _ :: _, h => h.elim
  | _ :: _, [], h => h.elim
theorem Ties.at {H : Hp} : ∀ {vs : List V} {ts : List (Int × Int)} {i : Nat} {v : V}, Ties H vs ts → vs[i]? = some v → ∃ t, ts[i]? = some t ∧ Tie H v t
  | [], [], _, _, _, e => by cases e
  | _ :: _, t :: _, 0, _, h, e => by cases e; exact ⟨t, rfl, h.1⟩
  | _ :: _, _ :: _, i + 1, _, h, e => Ties.at (i := i) h.2 e
  | [], _ :: _, _, _, h, _ => h.elim
  | _ :: _, [], _, _, h, _ => h.elim
theorem Ties.one {H : Hp} {v : V} {t : Int × Int} (h : Tie H v t) : Ties H [v] [t] := ⟨h, trivial⟩
theorem Tie.new {H : Hp} {p : Addr} {a b : Int} : Tie (upd H p (.tup [.int a, .int b])) (.ref p) (a, b) := ⟨p, rfl, upd_same⟩

/-! ### what a web is -/
def ltT (s t : Int × Int) : Prop := s.1 < t.1 ∨ (s.1 = t.1 ∧ s.2 < t.2)
def WOk (n : Nat) (ts : List (Int × Int)) : Prop := ts.Pairwise ltT ∧ ∀ t ∈ ts, 0 ≤ t.1 ∧ t.1 < t.2 ∧ t.2 < (n : Int)
def Web (H : Hp) (v : V) (n : Nat) (ts : List (Int × Int)) : Prop :=
  ∃ p q vs, v = .ref p ∧ H p = some (.tup [.int (n : Int), .ref q]) ∧ H q = some (.tup vs) ∧ Ties H vs ts
theorem Web.mono {H H' : Hp} {v : V} {n : Nat} {ts : List (Int × Int)} (a : Tst H H') (h : Web H v n ts) : Web H' v n ts := by
  obtain ⟨p, q, vs, e, h1, h2, h3⟩ := h
  exact ⟨p, q, vs, e, a _ _ h1, a _ _ h2, h3.mono a⟩

theorem sz {n : Nat} (h : n ≤ 100000) : n ≤ sizeLine := Nat.le_trans h (by decide)
theorem sz' {n : Nat} (h : n < 100000) : n < sizeLine := Nat.lt_of_lt_of_le h (by decide)

theorem bi (b : Bool) : -(2 ^ 64) < (if b = true then (1 : Int) else 0) ∧ (if b = true then (1 : Int) else 0) < 2 ^ 64 ∧ 0 ≤ (if b = true then (1 : Int) else 0) := by
  cases b <;> decide

theorem yes {σ : L2.St} {H : Hp} {R N : Hp → Prop} (h : R H) : tYes σ H (fun b H3 => if b = true then R H3 else N H3) := by
  show (if true = true then R H else N H)
  exact iteT h

/-! ### all pairs, rising -/
def prow (a : Nat) (j : Nat) : List (Int × Int) := (List.range j).map fun (i : Nat) => ((a : Int), (a : Int) + 1 + (i : Int))
def pup (n i : Nat) : List (Int × Int) := (List.range i).flatMap fun a => prow a (n - (a + 1))
theorem prow_succ (a j : Nat) : prow a (j + 1) = prow a j ++ [((a : Int), (a : Int) + 1 + (j : Int))] := by
  unfold prow; rw [List.range_succ, List.map_append]; rfl
theorem pup_succ (n i : Nat) : pup n (i + 1) = pup n i ++ prow i (n - (i + 1)) := by
  unfold pup; rw [List.range_succ, List.flatMap_append, List.flatMap_singleton]
theorem prow_len (a j : Nat) : (prow a j).length = j := by unfold prow; rw [List.length_map, List.length_range]
theorem mem_prow {a j : Nat} {t : Int × Int} : t ∈ prow a j ↔ t.1 = a ∧ (a : Int) < t.2 ∧ t.2 < (a : Int) + 1 + j := by
  unfold prow
  rw [List.mem_map]
  constructor
  · rintro ⟨i, hi, rfl⟩
    have := List.mem_range.mp hi
    refine ⟨rfl, ?_, ?_⟩ <;> dsimp only <;> omega
  · rintro ⟨h1, h2, h3⟩
    refine ⟨(t.2 - a - 1).toNat, List.mem_range.mpr (by omega), ?_⟩
    cases t with
    | mk x y =>
      dsimp only at h1 h2 h3
      rw [h1]
      congr 1
      omega
theorem mem_pup {n i : Nat} {t : Int × Int} (hi : i ≤ n) : t ∈ pup n i ↔ 0 ≤ t.1 ∧ t.1 < i ∧ t.1 < t.2 ∧ t.2 < n := by
  unfold pup
  rw [List.mem_flatMap]
  constructor
  · rintro ⟨a, ha, h⟩
    have := List.mem_range.mp ha
    have := mem_prow.mp h
    omega
  · rintro ⟨h1, h2, h3, h4⟩
    refine ⟨t.1.toNat, List.mem_range.mpr (by omega), mem_prow.mpr ?_⟩
    omega
theorem prow_pw (a : Nat) : ∀ j, (prow a j).Pairwise ltT
  | 0 => by exact List.Pairwise.nil
  | j + 1 => by
    rw [prow_succ, List.pairwise_append]
    refine ⟨prow_pw a j, List.pairwise_singleton _ _, fun s hs t ht => ?_⟩
    have h := mem_prow.mp hs
    have e := List.mem_singleton.mp ht
    subst e
    refine .inr ⟨h.1, ?_⟩
    show s.2 < (a : Int) + 1 + j
    omega
theorem pup_pw (n : Nat) : ∀ i, i ≤ n → (pup n i).Pairwise ltT
  | 0, _ => by exact List.Pairwise.nil
  | i + 1, h => by
    rw [pup_succ, List.pairwise_append]
    refine ⟨pup_pw n i (by omega), prow_pw i _, fun s hs t ht => ?_⟩
    have h1 := (mem_pup (by omega)).mp hs
    have h2 := mem_prow.mp ht
    refine .inl ?_
    omega
theorem pup_len (n : Nat) : ∀ i, (pup n i).length ≤ i * n
  | 0 => Nat.zero_le _
  | i + 1 => by
    rw [pup_succ, List.length_append, prow_len, Nat.succ_mul]
    have := pup_len n i
    omega
theorem pup_len' {n i : Nat} (hn : n ≤ 100) (hi : i ≤ n) : (pup n i).length ≤ 10000 :=
  Nat.le_trans (pup_len n i) (Nat.le_trans (Nat.mul_le_mul (Nat.le_trans hi hn) hn) (by decide))
theorem wok_sub {n : Nat} {ts : List (Int × Int)} (h : ts.Sublist (pup n n)) : WOk n ts :=
  ⟨(pup_pw n n (Nat.le_refl n)).sublist h, fun t ht => by
    have := (mem_pup (Nat.le_refl n)).mp (h.subset ht)
    omega⟩

/-! ### the numbers below n -/
def up (n : Nat) : List Int := (List.range n).map fun (i : Nat) => (i : Int)
theorem up_succ (n : Nat) : up (n + 1) = up n ++ [(n : Int)] := by unfold up; rw [List.range_succ, List.map_append]; rfl
theorem up_len (n : Nat) : (up n).length = n := by unfold up; rw [List.length_map, List.length_range]
theorem mem_up {n : Nat} {x : Int} : x ∈ up n ↔ 0 ≤ x ∧ x < n := by
  unfold up
  rw [List.mem_map]
  constructor
  · rintro ⟨i, hi, rfl⟩
    have := List.mem_range.mp hi
    omega
  · intro h
    exact ⟨x.toNat, List.mem_range.mpr (by omega), by omega⟩
theorem up_nodup (n : Nat) : (up n).Nodup := by
  unfold up
  rw [List.nodup_iff_pairwise_ne, List.pairwise_map]
  exact (List.nodup_iff_pairwise_ne.mp List.nodup_range).imp fun h e => h (by omega)
theorem ins_perm {α : Type} (l : List α) (x : α) (k : Nat) : (l.take k ++ [x] ++ l.drop k).Perm (l ++ [x]) := by
  have h : (l.take k ++ [x] ++ l.drop k).Perm (l.take k ++ (l.drop k ++ [x])) := by
    rw [List.append_assoc]
    exact List.Perm.append_left _ List.perm_append_comm
  refine h.trans ?_
  rw [← List.append_assoc, List.take_append_drop]

/-! ### where a number stands in a list -/
theorem all_flat (ns : List Int) : (ns.map V.int).all flatV = true := by
  rw [List.all_map, List.all_eq_true]; intro x _; rfl
theorem idx_at {ns : List Int} {x : Int} (h : x ∈ ns) : (ns.map V.int)[ns.idxOf x]? = some (.int x) := by
  have hl := List.idxOf_lt_length_of_mem h
  rw [List.getElem?_map, List.getElem?_eq_getElem hl, List.getElem_idxOf hl]; rfl
theorem idx_first {ns : List Int} {x : Int} : ∀ (m : Nat) (z : V), m < ns.idxOf x → (ns.map V.int)[m]? = some z → eqV z (.int x) = false := by
  intro m z hm hz
  rw [List.getElem?_map] at hz
  have hml : m < ns.length := Nat.lt_of_lt_of_le hm List.idxOf_le_length
  rw [List.getElem?_eq_getElem hml] at hz
  cases hz
  have : ns[m] ≠ x := fun e => by
    have := List.not_of_lt_findIdx (xs := ns) (p := fun y => y == x) hm
    rw [e] at this
    simp at this
  exact beq_eq_false_iff_ne.mpr this

/-! ### readings by name -/
abbrev rLenK (K : PySem.W.Frag) : List V → Hp → VK → Prop :=
  fun xs H Q => ∃ p ys, xs = [.ref p] ∧ (SqL K H p ys ∨ SqT K H p ys) ∧ Q (.int ys.length) H
abbrev rTupK (K : PySem.W.Frag) : List V → Hp → VK → Prop :=
  fun xs H Q => ∃ p ys, xs = [.ref p] ∧ ((SqL K H p ys ∧ ∀ l, H l = none → Q (.ref l) (upd H l (.tup ys))) ∨ (SqT K H p ys ∧ Q (.ref p) H))
abbrev rLstK (K : PySem.W.Frag) : List V → Hp → VK → Prop :=
  fun xs H Q => ∃ p ys, xs = [.ref p] ∧ (SqL K H p ys ∨ SqT K H p ys) ∧ ∀ l, H l = none → Q (.ref l) (upd H l (.lst ys))

/-! ### the built-in names -/
structure Bts (mg : Str → Option Value) : Prop where
  len : mg "len" = none
  range : mg "range" = none
  tuple : mg "tuple" = none
  list : mg "list" = none
  int : mg "int" = none
  abs : mg "abs" = none
  min : mg "min" = none
  sorted : mg "sorted" = none
  set : mg "set" = none
  all : mg "all" = none
  any : mg "any" = none
  enumerate : mg "enumerate" = none
  zip : mg "zip" = none
  isinstance : mg "isinstance" = none
  bool : mg "bool" = none
  str : mg "str" = none
  dict : mg "dict" = none
  max : mg "max" = none
  reversed : mg "reversed" = none
  sum : mg "sum" = none
end My

set_option Elab.async false
set_option linter.all false
set_option maxRecDepth 100000
namespace My
open PySem PySem.Spec PyProof.Rows L2

/-! ### the pair that a value tells -/
theorem Tie.inj {H : Hp} {v : V} {s t : Int × Int} (h : Tie H v s) (k : Tie H v t) : s = t := by
  obtain ⟨p, rfl, h⟩ := h
  obtain ⟨q, e, k⟩ := k
  cases e
  rw [h] at k
  cases s; cases t
  cases k
  rfl
open Classical in
noncomputable def key (H : Hp) (v : V) : Int × Int := if h : ∃ t, Tie H v t then h.choose else (0, 0)
theorem key_of {H : Hp} {v : V} {t : Int × Int} (h : Tie H v t) : key H v = t := by
  unfold key
  rw [dif_pos ⟨t, h⟩]
  exact (Exists.choose_spec (⟨t, h⟩ : ∃ t, Tie H v t)).inj h
theorem Ties.key {H : Hp} : ∀ {vs : List V} {ts : List (Int × Int)}, Ties H vs ts → ts = vs.map (My.key H)
  | [], [], _ => rfl
  | _ :: _, _ :: _, h => by rw [List.map_cons, key_of h.1, ← Ties.key h.2]
  | [], _ :: _, h => h.elim
  | _ :: _, [], h => h.elim
theorem Ties.all {H : Hp} : ∀ {vs : List V} {ts : List (Int × Int)}, Ties H vs ts → ∀ v ∈ vs, Tie H v (My.key H v)
  | [], [], _, _, hv => by cases hv
  | _ :: _, _ :: _, h, v, hv => by
    rcases List.mem_cons.mp hv with rfl | hv
    · rw [key_of h.1]; exact h.1
    · exact Ties.all h.2 v hv
  | [], _ :: _, h, _, _ => h.elim
  | _ :: _, [], h, _, _ => h.elim
theorem ties_mk {H : Hp} : ∀ {vs : List V}, (∀ v ∈ vs, Tie H v (My.key H v)) → Ties H vs (vs.map (My.key H))
  | [], _ => trivial
  | v :: vs, h => ⟨h v List.mem_cons_self, ties_mk fun u hu => h u (List.mem_cons_of_mem _ hu)⟩

/-! ### a list of ties, sorted -/
theorem srt_ties {H : Hp} {xs ys : List V} {ts : List (Int × Int)} (hs : SrtO.Srtd (ltP (My.key H)) ys) (hb : ys.Perm xs) (hT : Ties H xs ts) :
    ∃ ts', Ties H ys ts' ∧ ts'.Perm ts ∧ ts'.Pairwise (fun s t => ¬ ltT t s) := by
  refine ⟨ys.map (My.key H), ties_mk fun v hv => hT.all v (hb.mem_iff.mp hv), ?_, ?_⟩
  · rw [hT.key]; exact hb.map _
  · rw [List.pairwise_map]
    refine hs.imp fun {a b} h l => ?_
    have : ltP (My.key H) b a = true := SrtO.lexB_iff.mpr l
    rw [this] at h
    cases h
theorem ltT_tri (s t : Int × Int) : ltT s t ∨ s = t ∨ ltT t s := by
  cases s with | mk a b =>
  cases t with | mk c d =>
  unfold ltT
  by_cases h1 : a < c
  · exact .inl (.inl h1)
  · by_cases h2 : c < a
    · exact .inr (.inr (.inl h2))
    · have e : a = c := by omega
      subst e
      by_cases h3 : b < d
      · exact .inl (.inr ⟨rfl, h3⟩)
      · by_cases h4 : d < b
        · exact .inr (.inr (.inr ⟨rfl, h4⟩))
        · have e : b = d := by omega
          subst e
          exact .inr (.inl rfl)
theorem ltT_irr {s : Int × Int} : ¬ ltT s s := by unfold ltT; omega
theorem ltT_tr {s t u : Int × Int} (h : ltT s t) (k : ltT t u) : ltT s u := by unfold ltT at *; omega
theorem pw_lt {ts : List (Int × Int)} (h : ts.Pairwise (fun s t => ¬ ltT t s)) (nd : ts.Nodup) : ts.Pairwise ltT := by
  refine (h.and (List.nodup_iff_pairwise_ne.mp nd)).imp ?_
  rintro s t ⟨h1, h2⟩
  rcases ltT_tri s t with h | h | h
  · exact h
  · exact absurd h h2
  · exact absurd h h1
/-- two rising lists with the same items are one -/
theorem pw_eq : ∀ {as bs : List (Int × Int)}, as.Pairwise ltT → bs.Pairwise ltT → (∀ t, t ∈ as ↔ t ∈ bs) → as = bs
  | [], [], _, _, _ => rfl
  | [], b :: bs, _, _, h => by have := (h b).mpr List.mem_cons_self; cases this
  | a :: as, [], _, _, h => by have := (h a).mp List.mem_cons_self; cases this
  | a :: as, b :: bs, ha, hb, h => by
    have ha' := List.pairwise_cons.mp ha
    have hb' := List.pairwise_cons.mp hb
    have e : a = b := by
      rcases List.mem_cons.mp ((h a).mp List.mem_cons_self) with e | m1
      · exact e
      · rcases List.mem_cons.mp ((h b).mpr List.mem_cons_self) with e | m2
        · exact e.symm
        · exact absurd (ltT_tr (ha'.1 b m2) (hb'.1 a m1)) ltT_irr
    subst e
    rw [pw_eq ha'.2 hb'.2 fun t => ⟨fun m => ?_, fun m => ?_⟩]
    · rcases List.mem_cons.mp ((h t).mp (List.mem_cons_of_mem _ m)) with e | m'
      · subst e; exact absurd (ha'.1 t m) ltT_irr
      · exact m'
    · rcases List.mem_cons.mp ((h t).mpr (List.mem_cons_of_mem _ m)) with e | m'
      · subst e; exact absurd (hb'.1 t m) ltT_irr
      · exact m'

/-! ### ties as data -/
def dT (t : Int × Int) : PyData := .tuple [.int t.1, .int t.2]
theorem Tie.dp {K : PySem.W.Frag} {H : Hp} {v : V} {t : Int × Int} (h : Tie H v t) : Dp K H v (dT t) := by
  obtain ⟨p, rfl, h⟩ := h
  exact .tup (Or.inl (Or.inl h)) (.cons (.int _) (.cons (.int _) .nil))
theorem Ties.dp {K : PySem.W.Frag} {H : Hp} : ∀ {vs : List V} {ts : List (Int × Int)}, Ties H vs ts → DpAll K H vs (ts.map dT)
  | [], [], _ => .nil
  | _ :: _, _ :: _, h => .cons h.1.dp (Ties.dp h.2)
  | [], _ :: _, h => h.elim
  | _ :: _, [], h => h.elim
theorem shaped_dT (t : Int × Int) : SeqAt.shaped (dT t) = true := rfl
theorem can_ties (ts : List (Int × Int)) : PyData.canLayAll0 (ts.map dT) = true := by
  induction ts with
  | nil => rfl
  | cons t ts ih => rw [List.map_cons, PyData.canLayAll0, ih]; rfl
theorem dep_ties (ts : List (Int × Int)) : PyData.depthAll (ts.map dT) ≤ 1 := by
  induction ts with
  | nil => exact Nat.zero_le _
  | cons t ts ih =>
    rw [List.map_cons, PyData.depthAll]
    exact Nat.max_le.mpr ⟨Nat.le_refl _, ih⟩
theorem shaped_ties (ts : List (Int × Int)) : SeqAt.shaped (.list (ts.map dT)) = true := by
  unfold SeqAt.shaped
  rw [Bool.and_eq_true, decide_eq_true_eq]
  refine ⟨can_ties ts, ?_⟩
  show PyData.depthAll (ts.map dT) + 1 ≤ 64
  have := dep_ties ts
  omega
theorem eqv_dT (s t : Int × Int) : PyData.eqv (dT s) (dT t) = decide (s = t) := by
  cases s with | mk a b =>
  cases t with | mk c d =>
  show ((a == c) && ((b == d) && true)) = _
  by_cases h : a = c <;> by_cases k : b = d <;> simp [h, k]
theorem two {A : Hp → Prop} {C : Prop} (R : Hp → Prop) (k : (∀ H, R H → A H) → C) (h : ∀ H, R H → A H) : C := k h
theorem at_mem {ns : List Int} {j : Int} (h1 : -(ns.length : Int) ≤ j) (h2 : j < ns.length) : ∃ x, atI (ns.map V.int) j = some (.int x) ∧ x ∈ ns := by
  unfold atI ixN
  rw [List.length_map]
  by_cases h0 : 0 ≤ j
  · have hl : j.toNat < ns.length := by omega
    rw [if_pos h0, if_pos h2]
    refine ⟨ns[j.toNat], ?_, List.getElem_mem hl⟩
    show (ns.map V.int)[j.toNat]? = _
    rw [List.getElem?_map, List.getElem?_eq_getElem hl]; rfl
  · have hl : (j + ns.length).toNat < ns.length := by omega
    rw [if_neg h0, if_pos h1]
    refine ⟨ns[(j + ns.length).toNat], ?_, List.getElem_mem hl⟩
    show (ns.map V.int)[(j + ns.length).toNat]? = _
    rw [List.getElem?_map, List.getElem?_eq_getElem hl]; rfl
theorem perm2 {ns : List Int} {x y : Int} (h : ns.Perm [x, y]) (s : ns.Pairwise (· ≤ ·)) : ns = [if x ≤ y then x else y, if x ≤ y then y else x] := by
  match ns, h.length_eq with
  | [a, b], _ =>
    have ab : a ≤ b := (List.pairwise_cons.mp s).1 b (List.mem_singleton.mpr rfl)
    have ha := h.mem_iff (a := a) |>.mp List.mem_cons_self
    have hb := h.mem_iff (a := b) |>.mp (List.mem_cons_of_mem _ List.mem_cons_self)
    have hx := h.mem_iff (a := x) |>.mpr List.mem_cons_self
    have hy := h.mem_iff (a := y) |>.mpr (List.mem_cons_of_mem _ List.mem_cons_self)
    simp only [List.mem_cons, List.not_mem_nil, or_false] at ha hb hx hy
    by_cases c : x ≤ y
    · rw [if_pos c, if_pos c]
      have : a = x ∧ b = y := by omega
      rw [this.1, this.2]
    · rw [if_neg c, if_neg c]
      have : a = y ∧ b = x := by omega
      rw [this.1, this.2]
/-! ### ties by their places, for sets -/
def prT (p : Addr × List Int) : Int × Int := (p.2.getD 0 0, p.2.getD 1 0)
theorem Ties.addr {H : Hp} : ∀ {vs : List V} {ts : List (Int × Int)}, Ties H vs ts → ∃ ks : List (Addr × List Int), vs = (ks.map fun p => V.ref p.1) ∧
    (∀ p ∈ ks, H p.1 = some (.tup (p.2.map V.int)) ∧ ∃ t ∈ ts, p.2 = [t.1, t.2]) ∧ ks.map prT = ts
  | [], [], _ => ⟨[], rfl, (fun _ h => by cases h), rfl⟩
  | v :: vs, t :: ts, h => by
    obtain ⟨ks, e1, e2, e3⟩ := Ties.addr h.2
    obtain ⟨p, rfl, hp⟩ := h.1
    refine ⟨(p, [t.1, t.2]) :: ks, by rw [e1]; rfl, fun q hq => ?_, by rw [List.map_cons, e3]; rfl⟩
    rcases List.mem_cons.mp hq with rfl | hq
    · exact ⟨hp, t, List.mem_cons_self, rfl⟩
    · obtain ⟨g1, t', g2, g3⟩ := e2 q hq
      exact ⟨g1, t', List.mem_cons_of_mem _ g2, g3⟩
  | [], _ :: _, h => h.elim
  | _ :: _, [], h => h.elim
theorem ties_addr {H : Hp} : ∀ {ks : List (Addr × List Int)}, (∀ p ∈ ks, H p.1 = some (.tup (p.2.map V.int)) ∧ ∃ t : Int × Int, p.2 = [t.1, t.2]) → Ties H (ks.map fun p => V.ref p.1) (ks.map prT)
  | [], _ => trivial
  | p :: ks, h => by
    refine ⟨?_, ties_addr fun q hq => h q (List.mem_cons_of_mem _ hq)⟩
    obtain ⟨g1, t, g2⟩ := h p List.mem_cons_self
    refine ⟨p.1, rfl, ?_⟩
    unfold prT
    rw [g1, g2]; rfl
theorem u65 {k : Nat} {A : Around} (r : Room k A) : A.units + 65 < cLine := by have := r.un; omega
end My

set_option Elab.async false
set_option linter.all false
set_option maxRecDepth 100000
namespace My
open PySem PySem.Spec PyProof.Rows L2

/-! ### lists side by side -/
def All2 {α : Type} (R : V → α → Prop) : List V → List α → Prop
  | [], [] => True
  | v :: vs, t :: ts => R v t ∧ All2 R vs ts
  | _, _ => False
section
variable {α : Type} {R S : V → α → Prop}
theorem All2.imp (a : ∀ v t, R v t → S v t) : ∀ {vs : List V} {ts : List α}, All2 R vs ts → All2 S vs ts
  | [], [], _ => trivial
  | _ :: _, _ :: _, h => ⟨a _ _ h.1, All2.imp a h.2⟩
  | [], _ :: _, h => h.elim
  | _ :: _, [], h => h.elim
theorem All2.app : ∀ {vs us : List V} {ts rs : List α}, All2 R vs ts → All2 R us rs → All2 R (vs ++ us) (ts ++ rs)
  | [], _, [], _, _, k => k
  | _ :: _, _, _ :: _, _, h, k => ⟨h.1, All2.app h.2 k⟩
  | [], _, _ :: _, _, h, _ => h.elim
  | _ :: _, _, [], _, h, _ => h.elim
theorem All2.len : ∀ {vs : List V} {ts : List α}, All2 R vs ts → vs.length = ts.length
  | [], [], _ => rfl
  | _ :: _, _ :: _, h => congrArg (· + 1) (All2.len h.2)
  | [], _ :: _, h => h.elim
  | _ :: _, [], h => h.elim
theorem All2.at : ∀ {vs : List V} {ts : List α} {i : Nat} {v : V}, All2 R vs ts → vs[i]? = some v → ∃ t, ts[i]? = some t ∧ R v t
  | [], [], _, _, _, e => by cases e
  | _ :: _, t :: _, 0, _, h, e => by cases e; exact ⟨t, rfl, h.1⟩
  | _ :: _, _ :: _, i + 1, _, h, e => All2.at (i := i) h.2 e
  | [], _ :: _, _, _, h, _ => h.elim
  | _ :: _, [], _, _, h, _ => h.elim
theorem All2.at' : ∀ {vs : List V} {ts : List α} {i : Nat} {t : α}, All2 R vs ts → ts[i]? = some t → ∃ v, vs[i]? = some v ∧ R v t
  | [], [], _, _, _, e => by cases e
  | v :: _, _ :: _, 0, _, h, e => by cases e; exact ⟨v, rfl, h.1⟩
  | _ :: _, _ :: _, i + 1, _, h, e => All2.at' (i := i) h.2 e
  | [], _ :: _, _, _, h, _ => h.elim
  | _ :: _, [], _, _, h, _ => h.elim
theorem All2.erase : ∀ {vs : List V} {ts : List α} (k : Nat), All2 R vs ts → All2 R (vs.eraseIdx k) (ts.eraseIdx k)
  | [], [], _, _ => trivial
  | _ :: _, _ :: _, 0, h => h.2
  | _ :: _, _ :: _, k + 1, h => ⟨h.1, All2.erase k h.2⟩
  | [], _ :: _, _, h => h.elim
  | _ :: _, [], _, h => h.elim
end

/-! ### pairs of places of unlike groups -/
def norm (a b : Int) : Int × Int := (if a ≤ b then a else b, if a ≤ b then b else a)
theorem norm_inj {a b c d : Int} (h : norm a b = norm c d) : (a = c ∧ b = d) ∨ (a = d ∧ b = c) := by
  unfold norm at h
  have h1 := congrArg Prod.fst h
  have h2 := congrArg Prod.snd h
  dsimp only at h1 h2
  by_cases x : a ≤ b <;> by_cases y : c ≤ d
  · rw [if_pos x, if_pos y] at h1 h2; omega
  · rw [if_pos x, if_neg y] at h1 h2; omega
  · rw [if_neg x, if_pos y] at h1 h2; omega
  · rw [if_neg x, if_neg y] at h1 h2; omega
def newA (g h : List Int) : List (Int × Int) := g.flatMap fun a => h.map fun b => norm a b
def newK (s : List (List Int)) (cd : Nat → Nat → Bool) (k j : Nat) : List (Int × Int) :=
  (List.range j).flatMap fun j => newA (if cd k j = true then s.getD k [] else []) (s.getD j [])
def news (s : List (List Int)) (cd : Nat → Nat → Bool) (m : Nat) : List (Int × Int) := (List.range m).flatMap fun k => newK s cd k k
theorem newA_app (g g' h : List Int) : newA (g ++ g') h = newA g h ++ newA g' h := by unfold newA; rw [List.flatMap_append]
theorem newA_one (a : Int) (h : List Int) : newA [a] h = h.map fun b => norm a b := by unfold newA; rw [List.flatMap_singleton]
theorem newK_succ (s : List (List Int)) (cd : Nat → Nat → Bool) (k j : Nat) : newK s cd k (j + 1) = newK s cd k j ++ newA (if cd k j = true then s.getD k [] else []) (s.getD j []) := by
  unfold newK; rw [List.range_succ, List.flatMap_append, List.flatMap_singleton]
theorem news_succ (s : List (List Int)) (cd : Nat → Nat → Bool) (m : Nat) : news s cd (m + 1) = news s cd m ++ newK s cd m m := by
  unfold news; rw [List.range_succ, List.flatMap_append, List.flatMap_singleton]
theorem mem_newA {g h : List Int} {t : Int × Int} : t ∈ newA g h ↔ ∃ a ∈ g, ∃ b ∈ h, t = norm a b := by
  unfold newA
  simp only [List.mem_flatMap, List.mem_map]
  constructor
  · rintro ⟨a, ha, b, hb, rfl⟩; exact ⟨a, ha, b, hb, rfl⟩
  · rintro ⟨a, ha, b, hb, rfl⟩; exact ⟨a, ha, b, hb, rfl⟩
theorem mem_newK {s : List (List Int)} {cd : Nat → Nat → Bool} {k j : Nat} {t : Int × Int} (h : t ∈ newK s cd k j) :
    ∃ j' < j, ∃ a ∈ s.getD k [], ∃ b ∈ s.getD j' [], t = norm a b := by
  unfold newK at h
  obtain ⟨j', hj, h⟩ := List.mem_flatMap.mp h
  obtain ⟨a, ha, b, hb, e⟩ := mem_newA.mp h
  refine ⟨j', List.mem_range.mp hj, a, ?_, b, hb, e⟩
  split at ha
  · exact ha
  · cases ha
theorem mem_news {s : List (List Int)} {cd : Nat → Nat → Bool} {m : Nat} {t : Int × Int} (h : t ∈ news s cd m) :
    ∃ k < m, ∃ j < k, ∃ a ∈ s.getD k [], ∃ b ∈ s.getD j [], t = norm a b := by
  unfold news at h
  obtain ⟨k, hk, h⟩ := List.mem_flatMap.mp h
  obtain ⟨j, hj, r⟩ := mem_newK h
  exact ⟨k, List.mem_range.mp hk, j, hj, r⟩
/-- a place is in one group alone -/
theorem grp_one {s : List (List Int)} (nd : s.flatten.Nodup) {a : Int} {i j : Nat} (hi : a ∈ s.getD i []) (hj : a ∈ s.getD j []) : i = j := by
  have li : i < s.length := by
    rcases Nat.lt_or_ge i s.length with h | h
    · exact h
    · rw [List.getD_eq_getElem?_getD, List.getElem?_eq_none h] at hi; cases hi
  have lj : j < s.length := by
    rcases Nat.lt_or_ge j s.length with h | h
    · exact h
    · rw [List.getD_eq_getElem?_getD, List.getElem?_eq_none h] at hj; cases hj
  rw [List.getD_eq_getElem?_getD, List.getElem?_eq_getElem li] at hi
  rw [List.getD_eq_getElem?_getD, List.getElem?_eq_getElem lj] at hj
  dsimp only [Option.getD_some] at hi hj
  have pw := (List.pairwise_flatten.mp (List.nodup_iff_pairwise_ne.mp nd)).2
  rw [List.pairwise_iff_getElem] at pw
  rcases Nat.lt_trichotomy i j with h | h | h
  · exact absurd rfl (pw i j li lj h a hi a hj)
  · exact h
  · exact absurd rfl (pw j i lj li h a hj a hi)
theorem grp_nd {s : List (List Int)} (nd : s.flatten.Nodup) (i : Nat) : (s.getD i []).Nodup := by
  rcases Nat.lt_or_ge i s.length with h | h
  · rw [List.getD_eq_getElem?_getD, List.getElem?_eq_getElem h]
    exact List.nodup_iff_pairwise_ne.mpr ((List.pairwise_flatten.mp (List.nodup_iff_pairwise_ne.mp nd)).1 _ (List.getElem_mem h))
  · rw [List.getD_eq_getElem?_getD, List.getElem?_eq_none h]; exact List.nodup_nil
theorem four_inj {s : List (List Int)} (nd : s.flatten.Nodup) {k j k' j' : Nat} {a b a' b' : Int} (hj : j < k) (hj' : j' < k') (ha : a ∈ s.getD k []) (hb : b ∈ s.getD j [])
    (ha' : a' ∈ s.getD k' []) (hb' : b' ∈ s.getD j' []) (e : norm a b = norm a' b') : k = k' ∧ j = j' ∧ a = a' ∧ b = b' := by
  rcases norm_inj e with ⟨rfl, rfl⟩ | ⟨rfl, rfl⟩
  · exact ⟨grp_one nd ha ha', grp_one nd hb hb', rfl, rfl⟩
  · have e1 := grp_one nd ha hb'
    have e2 := grp_one nd hb ha'
    omega
theorem news_nd {s : List (List Int)} (nd : s.flatten.Nodup) (cd : Nat → Nat → Bool) (m : Nat) : (news s cd m).Nodup := by
  unfold news
  rw [List.nodup_iff_pairwise_ne, List.pairwise_flatMap]
  refine ⟨fun k hk => ?_, ?_⟩
  · unfold newK
    rw [List.pairwise_flatMap]
    refine ⟨fun j hj => ?_, ?_⟩
    · have hj := List.mem_range.mp hj
      unfold newA
      rw [List.pairwise_flatMap]
      refine ⟨fun a ha => ?_, ?_⟩
      · rw [List.pairwise_map]
        refine (List.nodup_iff_pairwise_ne.mp (grp_nd nd j)).imp_of_mem fun {b b'} hb hb' ne e => ?_
        have ha : a ∈ s.getD k [] := by split at ha; exact ha; cases ha
        exact ne (four_inj nd hj hj ha hb ha hb' e).2.2.2
      · have nda : (if cd k j = true then s.getD k [] else []).Nodup := by split; exact grp_nd nd k; exact List.nodup_nil
        refine (List.nodup_iff_pairwise_ne.mp nda).imp_of_mem fun {a a'} ha ha' ne x hx y hy e => ?_
        have ha : a ∈ s.getD k [] := by split at ha; exact ha; cases ha
        have ha' : a' ∈ s.getD k [] := by split at ha'; exact ha'; cases ha'
        obtain ⟨b, hb, rfl⟩ := List.mem_map.mp hx
        obtain ⟨b', hb', rfl⟩ := List.mem_map.mp hy
        exact ne (four_inj nd hj hj ha hb ha' hb' e).2.2.1
    · refine (List.nodup_iff_pairwise_ne.mp List.nodup_range).imp_of_mem fun {j j'} hj hj' ne x hx y hy e => ?_
      have hj := List.mem_range.mp hj
      have hj' := List.mem_range.mp hj'
      obtain ⟨a, ha, b, hb, rfl⟩ := mem_newA.mp hx
      obtain ⟨a', ha', b', hb', rfl⟩ := mem_newA.mp hy
      have ha : a ∈ s.getD k [] := by split at ha; exact ha; cases ha
      have ha' : a' ∈ s.getD k [] := by split at ha'; exact ha'; cases ha'
      exact ne (four_inj nd hj hj' ha hb ha' hb' e).2.1
  · refine (List.nodup_iff_pairwise_ne.mp List.nodup_range).imp_of_mem fun {k k'} hk hk' ne x hx y hy e => ?_
    obtain ⟨j, hj, a, ha, b, hb, rfl⟩ := mem_newK hx
    obtain ⟨j', hj', a', ha', b', hb', rfl⟩ := mem_newK hy
    exact ne (four_inj nd hj hj' ha hb ha' hb' e).1

/-- what holds of groups and ties between two turns -/
structure PInv (n : Nat) (gs : List (List Int)) (ts : List (Int × Int)) : Prop where
  fl : gs.flatten.Perm (up n)
  nd : ts.Nodup
  bd : ∀ t ∈ ts, 0 ≤ t.1 ∧ t.1 < t.2 ∧ t.2 < (n : Int)
  one : ∀ t ∈ ts, ∃ g ∈ gs, t.1 ∈ g ∧ t.2 ∈ g
theorem nd_len {α : Type} [DecidableEq α] : ∀ {l m : List α}, l.Nodup → (∀ x ∈ l, x ∈ m) → l.length ≤ m.length
  | [], _, _, _ => Nat.zero_le _
  | a :: l, m, nd, h => by
    have nd' := List.nodup_cons.mp nd
    have ha := h a List.mem_cons_self
    have := nd_len (l := l) (m := m.erase a) nd'.2 fun x hx => (List.mem_erase_of_ne (fun (e : x = a) => nd'.1 (by rw [← e]; exact hx))).mpr (h x (List.mem_cons_of_mem _ hx))
    rw [List.length_erase_of_mem ha] at this
    have := List.length_pos_of_mem ha
    rw [List.length_cons]
    omega
theorem PInv.len {n : Nat} {gs : List (List Int)} {ts : List (Int × Int)} (h : PInv n gs ts) (hn : n ≤ 100) : ts.length ≤ 10000 := by
  refine Nat.le_trans (nd_len (m := pup n n) h.nd fun t ht => ?_) (pup_len' hn (Nat.le_refl n))
  have := h.bd t ht
  exact (mem_pup (Nat.le_refl n)).mpr (by omega)
theorem norm_ends {a b : Int} {g : List Int} (h1 : (norm a b).1 ∈ g) (h2 : (norm a b).2 ∈ g) : a ∈ g ∧ b ∈ g := by
  unfold norm at h1 h2
  dsimp only at h1 h2
  by_cases x : a ≤ b
  · rw [if_pos x] at h1 h2; exact ⟨h1, h2⟩
  · rw [if_neg x] at h1 h2; exact ⟨h2, h1⟩
theorem PInv.next {n : Nat} {gs s r : List (List Int)} {ts : List (Int × Int)} (h : PInv n gs ts) (pm : gs.Perm (s ++ r)) (cd : Nat → Nat → Bool) :
    PInv n (r ++ [s.flatten]) (ts ++ news s cd s.length) := by
  have pf : (s ++ r).flatten.Perm (up n) := pm.flatten.symm.trans h.fl
  have ndf : (s ++ r).flatten.Nodup := pf.nodup_iff.mpr (up_nodup n)
  have nds : s.flatten.Nodup := by
    rw [List.flatten_append] at ndf
    exact (List.nodup_append.mp ndf).1
  have gd : ∀ i, i < s.length → (s ++ r).getD i [] = s.getD i [] := fun i hi => by
    rw [List.getD_eq_getElem?_getD, List.getD_eq_getElem?_getD, List.getElem?_append_left hi]
  have inS : ∀ {a : Int} {k : Nat}, a ∈ s.getD k [] → a ∈ s.flatten ∧ k < s.length := fun {a k} ha => by
    rcases Nat.lt_or_ge k s.length with hk | hk
    · rw [List.getD_eq_getElem?_getD, List.getElem?_eq_getElem hk] at ha
      exact ⟨List.mem_flatten.mpr ⟨_, List.getElem_mem hk, ha⟩, hk⟩
    · rw [List.getD_eq_getElem?_getD, List.getElem?_eq_none hk] at ha; cases ha
  have bd : ∀ {a : Int}, a ∈ s.flatten → 0 ≤ a ∧ a < (n : Int) := fun {a} ha =>
    mem_up.mp (pf.mem_iff.mp (by rw [List.flatten_append]; exact List.mem_append_left _ ha))
  refine ⟨?_, ?_, ?_, ?_⟩
  · refine List.Perm.trans ?_ pf
    rw [List.flatten_append, List.flatten_append]
    have : [s.flatten].flatten = s.flatten := by simp
    rw [this]
    exact List.perm_append_comm
  · rw [List.nodup_append]
    refine ⟨h.nd, news_nd nds cd _, fun t ht t' ht' e => ?_⟩
    subst e
    obtain ⟨k, hk, j, hj, a, ha, b, hb, rfl⟩ := mem_news ht'
    obtain ⟨g, hg, g1, g2⟩ := h.one _ ht
    obtain ⟨ga, gb⟩ := norm_ends g1 g2
    obtain ⟨i, hi, e⟩ := List.getElem_of_mem (pm.mem_iff.mp hg)
    have gi : (s ++ r).getD i [] = g := by rw [List.getD_eq_getElem?_getD, List.getElem?_eq_getElem hi, e]; rfl
    have e1 := grp_one ndf (i := i) (j := k) (by rw [gi]; exact ga) (by rw [gd k hk]; exact ha)
    have e2 := grp_one ndf (i := i) (j := j) (by rw [gi]; exact gb) (by rw [gd j (by omega)]; exact hb)
    omega
  · intro t ht
    rcases List.mem_append.mp ht with ht | ht
    · exact h.bd t ht
    · obtain ⟨k, hk, j, hj, a, ha, b, hb, rfl⟩ := mem_news ht
      have b1 := bd (inS ha).1
      have b2 := bd (inS hb).1
      have ne : a ≠ b := fun e => by subst e; have := grp_one nds ha hb; omega
      unfold norm
      dsimp only
      split <;> omega
  · intro t ht
    rcases List.mem_append.mp ht with ht | ht
    · obtain ⟨g, hg, g1, g2⟩ := h.one t ht
      rcases List.mem_append.mp (pm.mem_iff.mp hg) with m | m
      · exact ⟨s.flatten, List.mem_append_right _ (List.mem_singleton.mpr rfl), List.mem_flatten.mpr ⟨g, m, g1⟩, List.mem_flatten.mpr ⟨g, m, g2⟩⟩
      · exact ⟨g, List.mem_append_left _ m, g1, g2⟩
    · obtain ⟨k, hk, j, hj, a, ha, b, hb, rfl⟩ := mem_news ht
      refine ⟨s.flatten, List.mem_append_right _ (List.mem_singleton.mpr rfl), ?_, ?_⟩
      · unfold norm; dsimp only; split
        · exact (inS ha).1
        · exact (inS hb).1
      · unfold norm; dsimp only; split
        · exact (inS hb).1
        · exact (inS ha).1
theorem flat_one : ∀ ns : List Int, (ns.map fun x => [x]).flatten = ns
  | [] => rfl
  | a :: l => by rw [List.map_cons, List.flatten_cons, flat_one l]; rfl
theorem erase_perm {α : Type} : ∀ {l : List α} {i : Nat} (h : i < l.length), (l[i] :: l.eraseIdx i).Perm l
  | _ :: _, 0, _ => .refl _
  | a :: l, i + 1, h => by
    show (l[i]'(Nat.lt_of_succ_lt_succ h) :: a :: l.eraseIdx i).Perm (a :: l)
    exact (List.Perm.swap _ _ _).trans ((erase_perm (Nat.lt_of_succ_lt_succ h)).cons a)
/-! ### lengths -/
theorem newA_len {g h : List Int} {x y : Nat} (hg : g.length ≤ x) (hh : h.length ≤ y) : (newA g h).length ≤ x * y := by
  have : ∀ g : List Int, (newA g h).length = g.length * h.length := by
    intro g
    induction g with
    | nil => simp [newA]
    | cons a g ih =>
      have e : newA (a :: g) h = newA [a] h ++ newA g h := newA_app [a] g h
      rw [e, List.length_append, ih, newA_one, List.length_map, List.length_cons, Nat.succ_mul, Nat.add_comm]
  rw [this]
  exact Nat.mul_le_mul hg hh
theorem newK_len {s : List (List Int)} {cd : Nat → Nat → Bool} {k : Nat} (hs : ∀ i, (s.getD i []).length ≤ 12) : ∀ j, (newK s cd k j).length ≤ j * 144
  | 0 => Nat.zero_le _
  | j + 1 => by
    rw [newK_succ, List.length_append]
    have h1 := newK_len (s := s) (cd := cd) (k := k) hs j
    have h2 : (newA (if cd k j = true then s.getD k [] else []) (s.getD j [])).length ≤ 12 * 12 := newA_len (by split; exact hs k; exact Nat.zero_le _) (hs j)
    omega
theorem news_len {s : List (List Int)} {cd : Nat → Nat → Bool} (hs : ∀ i, (s.getD i []).length ≤ 12) : ∀ m, m ≤ 10 → (news s cd m).length ≤ m * 1440
  | 0, _ => Nat.zero_le _
  | m + 1, h => by
    rw [news_succ, List.length_append]
    have h1 := news_len (s := s) (cd := cd) hs m (by omega)
    have h2 := newK_len (s := s) (cd := cd) (k := m) hs m
    omega
theorem grp_len {n : Nat} {s : List (List Int)} {r : List (List Int)} (h : (s ++ r).flatten.Perm (up n)) (i : Nat) : (s.getD i []).length ≤ n := by
  rcases Nat.lt_or_ge i s.length with hi | hi
  · rw [List.getD_eq_getElem?_getD, List.getElem?_eq_getElem hi]
    have e := h.length_eq
    rw [up_len, List.flatten_append, List.length_append] at e
    have : ∀ (l : List (List Int)) (g : List Int), g ∈ l → g.length ≤ l.flatten.length := by
      intro l g hg
      induction l with
      | nil => cases hg
      | cons x l ih =>
        rw [List.flatten_cons, List.length_append]
        rcases List.mem_cons.mp hg with rfl | hg
        · omega
        · have := ih hg; omega
    have := this s _ (List.getElem_mem hi)
    show s[i].length ≤ n
    omega
  · rw [List.getD_eq_getElem?_getD, List.getElem?_eq_none hi]; exact Nat.zero_le _
end My

set_option Elab.async false
set_option linter.all false
set_option maxRecDepth 100000
set_option maxHeartbeats 2000000
namespace My
open PySem PySem.Spec PyProof.Rows L2 GxR

/-! ### the frame of a generator expression -/
abbrev gcx (X : Cx) (A' : Around) (s : Shared) (H : Hp) (cenv : Env) (fp : List Addr) (pn : List (Addr × Obj)) : Cx :=
  { X with A := A', s_0 := s, H_0 := H, env := cenv, outer := X.stack, stack := cenv :: X.stack, ex := fp, fn := fun _ => false, calm := true, pn := pn, xe := fun _ _ => False }
structure GsOk (scope : Scope) : Prop where
  co : scope.isCoroutine = false
  cell : ∀ y ∈ scope.names, y.2 ≠ .cell
  dot : scope.names.lookup (".0" : Str) = some NameKind.local

section
variable {X : Cx} {pins : List (Addr × Obj)} {σ : L2.St} {H : Hp} {s : Shared}
abbrev gEnv (X : Cx) (scope : Scope) (C : Addr) (code : Value) : Env :=
  genEnv scope (cloFrom X.env.cells scope.names []) C code builtinsNs X.env
theorem gen_inv {scope : Scope} {own : List (Str × Nat)} {fp : List Addr} {A' : Around} {C : Addr} {code : Value} {s5 : Shared}
    {m : Str → Option Value} {pn : List (Addr × Obj)} (I : Inv X pins σ H s) (ok : BlkOk X.N X.env.scope scope own) (hN : X.N.Nodup)
    (S : GsOk scope) (hfp : ∀ b ∈ fp, FpOk X pins H b ∧ b < s.heap.objs.size) (hC : C = s.heap.objs.size) (hA : A'.handled = none)
    (hF : A'.frames = some (gEnv X scope C code :: X.stack)) (kp : ∀ b o, s.heap.get? b = some o → s5.heap.get? b = some o)
    (hns : s5.heap.Ns C m) (hos : s5.os = s.os) (hb : AllBare s5.gens)
    (hpn : ∀ p ∈ pn, s5.heap.get? p.1 = some p.2 ∧ s.heap.objs.size < p.1 ∧ ∀ v, p.2.data ≠ .cell v) :
    Inv (gcx X A' s H (gEnv X scope C code) fp pn) [] (wipe σ (own.map (·.2))) H s5 := by
  have cm : ∀ {y : Str} {c : Addr}, (cloFrom X.env.cells scope.names []).lookup y = some c → X.env.cells.lookup y = some c ∧ c < s.heap.objs.size := fun {y c} e => by
    rcases cloFrom_mem (PySem.mem_of_lookup e) with z | ⟨h1, rfl⟩
    · cases z
    · have : ∃ c, X.env.cells.lookup y = some c := by
        rcases ok.free _ h1 rfl with k | k
        · exact I.ok.has _ (.inl k)
        · exact I.ok.has _ (.inr k)
      obtain ⟨c, hc⟩ := this
      rw [hc]
      obtain ⟨w, z⟩ := I.cell _ _ hc
      exact ⟨rfl, z.lt⟩
  have look : ∀ {y : Str}, scope.names.lookup y = some .free → ∃ c, (cloFrom X.env.cells scope.names []).lookup y = some c ∧ X.env.cells.lookup y = some c := fun {y} hl => by
    obtain ⟨c, e⟩ := mem_lookup (cloFrom_has (cells := X.env.cells) (acc := []) (PySem.mem_of_lookup hl))
    exact ⟨c, e, (cm e).1⟩
  have hCs : s.heap.objs.size ≤ C := Nat.le_of_eq hC.symm
  have okB : (gcx X A' s H (gEnv X scope C code) fp pn).Ok := by
    refine ⟨I.ok.mod, ok.kind, I.ok.glob, rfl, hCs, fun y z c e1 e2 => I.ok.inj y z c (cm e1).1 (cm e2).1, fun y hy => ?_, (fun y c z e => by cases z), fun _ => hA, hF, .inr ⟨rfl, rfl⟩,
      fun b hb => ⟨?_, fun y c e => (hfp b hb).1.2.2.2.2.1 y c (cm e).1⟩, I.bs, Nat.le_trans I.ok.bsz I.sz, fun b o e hb => ?_, fun b hb z => ?_, I.stack, I.stkFree⟩
    · rcases hy with hy | hy
      · exact absurd rfl (S.cell _ (PySem.mem_of_lookup (show scope.names.lookup y = some .cell from hy)))
      · obtain ⟨c, e, _⟩ := look (show scope.names.lookup y = some .free from hy)
        exact ⟨c, e⟩
    · show b ≠ C
      rw [hC]; exact Nat.ne_of_lt (hfp b hb).2
    · rcases (hfp b hb).1.2.2.2.1 with z | z
      · exact I.ok.noex b o e z
      · exact absurd (Nat.lt_of_lt_of_le (Heap.lt_size e) (Nat.le_trans I.ok.bsz z)) (Nat.lt_irrefl _)
    · rcases List.mem_cons.mp (I.stkSub b z) with z | z
      · exact (hfp b hb).1.2.1 z
      · exact (hfp b hb).1.2.2.1 z
  refine ⟨okB, hos, hb, Un.kept kp, ⟨m, hns, fun i y v e1 e2 e3 => ?_⟩, fun y c e => ?_, ?_, fun y c e => I.freeC y c (cm e).1, fun p hp => ?_, I.hok.kept kp, by rw [wipe_length]; exact I.len⟩
  · obtain ⟨e2, hne⟩ := wipe_some e2
    have no : ∀ k, scope.names.lookup y = some k → ¬ (k = .local ∨ k = .cell) := fun k e hh => by
      rcases ok.own _ (PySem.mem_of_lookup e) hh with z | z
      · obtain ⟨p, hp, hpy⟩ := List.mem_map.mp z
        have e4 := ok.ix p hp
        have hpy : p.1 = y := hpy
        rw [hpy] at e4
        exact hne (List.mem_map.mpr ⟨p, hp, nodup_ix hN e4 e1⟩)
      · exact z (List.mem_of_getElem? e1)
    have e3 : Vis scope y := e3
    have fr : scope.names.lookup y = some .free := by
      rcases e3 with e3 | e3 | e3
      · exact absurd (.inl rfl) (no _ e3)
      · exact absurd (.inr rfl) (no _ e3)
      · exact e3
    obtain ⟨m', hn, hl⟩ := I.loc
    have k := ok.free _ (PySem.mem_of_lookup fr) rfl
    have hv : Vis X.env.scope y := by
      rcases k with k | k
      · exact .inr (.inl k)
      · exact .inr (.inr k)
    obtain ⟨w, r, q⟩ := hl i y v e1 e2 hv
    refine ⟨w, r, .inr ⟨.inr fr, ?_⟩⟩
    obtain ⟨c, h1, h2⟩ := look fr
    rcases q with ⟨z, _⟩ | ⟨_, c', e', z⟩
    · have z : X.env.scope.names.lookup y = some .local := z
      rcases k with k | k <;> (have k : X.env.scope.names.lookup y = _ := k; rw [k] at z; cases z)
    · rw [h2] at e'; cases e'
      exact ⟨c, h1, z.keeps kp⟩
  · obtain ⟨w, z⟩ := I.cell y c (cm e).1
    exact ⟨w, z.keeps kp⟩
  · exact I.hok.fresh hCs
  · rw [List.append_nil] at hp
    obtain ⟨h1, h2, h3⟩ := hpn p hp
    refine ⟨h1, I.hok.fresh (Nat.le_of_lt h2), ?_, fun z => ?_, h3⟩
    · show p.1 ≠ C
      rw [hC]; exact Nat.ne_of_gt h2
    · rcases List.mem_cons.mp (I.stkSub p.1 z) with z | z
      · have := I.lt
        rw [← z] at this
        exact absurd (Nat.lt_trans h2 this) (Nat.lt_irrefl _)
      · exact I.nofs (Nat.le_of_lt h2) z
theorem inv_gens {gs : Array GenState} (I : Inv X pins σ H s) (hb : AllBare gs) : Inv X pins σ H { s with gens := gs } :=
  ⟨I.ok, I.os, hb, I.base, I.loc, I.cell, I.free, I.freeC, I.pin, I.hok, I.len⟩
theorem inv_setGen {g : Nat} {x : GenState} (I : Inv X pins σ H s) (hx : x.bare = true) : Inv X pins σ H (s.setGen g x) := by
  refine inv_gens I fun y hy => ?_
  rcases Array.mem_or_eq_of_mem_setIfInBounds hy with h | h
  · exact I.bare y h
  · rw [h]; exact hx
end

/-! ### the loop of a generator expression -/
section
variable {prog : Program} {w : World} {A : Around}
/-- n: how many more may come; Yl m v s: v is handed out, fewer than m turns are left; St m s: ready for the next turn -/
def protoG (St : Nat → Shared → Prop) (Yl : Nat → Value → Shared → Prop) : Protocol := fun n _ v s kap =>
  (∃ m, m ≤ n ∧ Yl m v s) ∧ ∀ s'' m', m' < n → St m' s'' → kap (.send .none) s''
theorem seg_loopG {elt tg iter : Expr} {scope : Scope} {pos : Pos} {it : Addr} {cenv : Env} (hco : cenv.scope.isCoroutine = false)
    (St : Nat → Shared → Prop) (En : Shared → Prop) (Yl : Nat → Value → Shared → Prop)
    (turn : ∀ m s, St m s → wpAny (model prog w) (A.over (.compLoop (.GeneratorExp elt [⟨tg, iter, [], 0⟩] scope pos) 0 (.ref it) .none cenv) []) (pyNext (.ref it)) (fun r s1 => match r with
      | none => En s1
      | some u => wpAny (model prog w) (A.over (.compLoop (.GeneratorExp elt [⟨tg, iter, [], 0⟩] scope pos) 0 (.ref it) .none cenv) []) (letOwnedTupleGo tg (.ref it) u) (fun _ s2 =>
          wpAny (model prog w) (A.over (.compLoop (.GeneratorExp elt [⟨tg, iter, [], 0⟩] scope pos) 0 (.ref it) .none cenv) []) (assign tg cenv u) (fun _ s3 =>
            wpAny (model prog w) (A.over (.compLoop (.GeneratorExp elt [⟨tg, iter, [], 0⟩] scope pos) 0 (.ref it) .none cenv) []) (eval elt cenv) (fun v s4 => Yl m v s4) (fun _ _ => False) s3) (fun _ _ => False) s2) (fun _ _ => False) s1) (fun _ _ => False) s) :
    ∀ (n m : Nat) (s₀ s : Shared), m < n → St m s →
      Seg (model prog w) A (fun _ _ r s₁ => r = .ok .next ∧ En s₁) (protoG St Yl) n s₀
        (.compLoop (.GeneratorExp elt [⟨tg, iter, [], 0⟩] scope pos) 0 (.ref it) .none cenv)
        ((model prog w).den (.compLoop (.GeneratorExp elt [⟨tg, iter, [], 0⟩] scope pos) 0 (.ref it) .none cenv)) [] s := by
  intro n
  induction n with
  | zero => intro m _ _ h; exact absurd h (Nat.not_lt_zero _)
  | succ n ih =>
    intro m s₀ s hm hst
    show Seg _ A _ _ _ s₀ _ ((compTurn (.GeneratorExp elt [⟨tg, iter, [], 0⟩] scope pos) 0 (.ref it) .none cenv).onRaise (leaving cenv)) [] s
    rw [compTurn_gen, Sem.onRaise_eq_wrap]
    refine seg_bind_wrap (wpAny_standAt ?_)
    refine seg_bind_wrap (wpAny_mono (turn m s hst) (fun r s1 h1 => ?_) fun _ _ e => e.elim)
    cases r with
    | none => exact seg_end (.ok .next) ⟨rfl, h1⟩
    | some u =>
      refine seg_bind_wrap (wpAny_mono h1 (fun _ s2 h2 => ?_) fun _ _ e => e.elim)
      refine seg_bind_wrap (wpAny_mono h2 (fun _ s3 h3 => ?_) fun _ _ e => e.elim)
      refine seg_bind_wrap ?_
      simp only [List.forIn_nil]
      refine wpAny_pure ?_
      simp only [if_true]
      have hy : ∀ v, yieldOut cenv v = yieldValue v := fun v => by simp only [yieldOut, hco, Bool.false_eq_true, if_false]
      simp only [hy]
      rw [Sem.bind_eq_wrap', Sem.bind_eq_wrap', Sem.wrap_wrap, Sem.wrap_wrap]
      refine seg_wrap (wpAny_mono h3 (fun v s4 h4 => ?_) fun _ _ e => e.elim)
      refine seg_at (seg_yield rfl rfl rfl ⟨⟨m, Nat.le_of_lt_succ hm, h4⟩, fun s'' m' hm' hst' => ?_⟩)
      exact seg_again rfl (ih m' s'' s'' hm' hst')
end
end My

set_option Elab.async false
set_option linter.all false
set_option maxRecDepth 100000
set_option maxHeartbeats 2000000
namespace My
open PySem PySem.Spec PyProof.Rows L2 GxR GenW

abbrev genObj (g : Nat) (x y : Value) : Obj := { cls := .type "generator", data := .fields #[.int g 0, x, y] }
/-- a generator expression is made: what stands then -/
structure Made (X : Cx) (pins : List (Addr × Obj)) (σ : L2.St) (elt tg iter : Expr) (scope : Scope) (gpos : Pos) (P : Addr) (J : It) (H1 H2 : Hp)
    (it : Addr) (fp : List Addr) (tn : Nat → Heap → Prop) (s4 s5 : Shared) (C a : Addr) (code : Value) (g : Nat) (x y : Value) : Prop where
  tab : Tabbed P H1 H2
  inv : Inv X pins σ H2 s4
  tu : Turn X.prog X.w X.K tg J fp it tn
  st : tn 0 s4.heap
  fp : ∀ b ∈ fp, FpOk X pins H2 b ∧ b < s4.heap.objs.size
  c : C = s4.heap.objs.size
  kp : ∀ b o, s4.heap.get? b = some o → s5.heap.get? b = some o
  ns : s5.heap.Ns C (fun y => if y = (".0" : Str) then some (.ref it) else none)
  os : s5.os = s4.os
  bare : AllBare s5.gens
  obj : s5.heap.get? a = some (genObj g x y)
  lt : s4.heap.objs.size < a
  gs : s5.gens[g]? = some (.fresh (.compStart (.GeneratorExp elt [⟨tg, iter, [], 0⟩] scope gpos) 0 (.ref it) .none (gEnv X scope C code)))

section
variable {X : Cx} {pins : List (Addr × Obj)} {σ : L2.St} {H : Hp} {s : Shared}
theorem gen_mk {c P : Addr} {elt tg iter : Expr} {gpos : Pos} {scope : Scope} {own : List (Str × Nat)} {wi : TI} {k : Nat} {Q' : Value → Shared → Prop} {R : It → Hp → Prop}
    (hr : Room k X.A) (TB : TabB X.base X.mg c P) (hcode : X.env.code = .ref c) (S : GsOk scope) (ok : BlkOk X.N X.env.scope scope own) (hi : PI X tg iter wi)
    (hs : ∀ v, genFold iter X.env v = pure v) (I : Inv X pins σ H s) (h : wi σ H fun J H1 => TabG H1 P ∧ R J H1)
    (hQ : ∀ J H1 H2 it fp tn s4 s5 C a code g x y, R J H1 → Made X pins σ elt tg iter scope gpos P J H1 H2 it fp tn s4 s5 C a code g x y → Q' (.ref a) s5) :
    wpAny (model X.prog X.w) X.A (eval (.GeneratorExp elt [⟨tg, iter, [], 0⟩] scope gpos) X.env) Q' X.xe s := by
  have hfree : ∀ y ∈ scope.names, y.2 = .free → ∃ c, X.env.cells.lookup y.1 = some c := fun y hy e => (ok.free y hy e).elim (fun k => I.ok.has _ (.inl k)) fun k => I.ok.has _ (.inr k)
  refine wpAny_GeneratorExp_make S.co (closure_ok hfree) S.cell S.dot ok.kind (by have := hr.dp; omega) ?_ hs
  refine thn (hi.run pins s σ H _ I h) fun xv s1 hx => thn hx fun itv s2 h2 => ?_
  obtain ⟨it, fp, tn, J, H1, rfl, I2, T, st2, f2, ⟨ps, hP, ht⟩, q⟩ := h2
  have hPs : s2.heap.get? P = some { cls := .none, data := .fields ps } := I2.hok P _ hP
  have cd : PySem.W.CodeHd s2.heap c P := TB.code.keeps fun b u e => I2.bk b u e
  have cont : ∀ (code : Value) (h3 : Heap) (tk : Nat) (more : Array Value), Heap.ExtBut P s2.heap h3 → s2.heap.objs.size ≤ h3.objs.size → h3.get? P = some { cls := .none, data := .fields (ps ++ more) } → TriplesOk (ps ++ more).toList →
      wpAny (model X.prog X.w) X.A (builtinsFor X.env.globals X.env.builtins) (fun bi s₄ =>
        ∀ h', h'.Ns s₄.heap.objs.size (fun y => if y = ".0" then some (Value.ref it) else none) → Heap.SameBut s₄.heap.objs.size (s₄.heap.push { cls := .type "frame", data := .dict #[] }) h' →
          Q' (.ref h'.objs.size) { s₄ with
            gens := s₄.gens.push (.fresh (.compStart (.GeneratorExp elt [⟨tg, iter, [], 0⟩] scope gpos) 0 (.ref it) .none (genEnv scope (cloFrom X.env.cells scope.names []) s₄.heap.objs.size code bi X.env))),
            toks := s₄.toks + 1 + 1 + 1,
            heap := h'.push { cls := .type "generator", data := .fields #[.int s₄.gens.size 0, .str "<genexpr>" (s₄.toks + 1), .str (X.env.qual ++ "<genexpr>") (s₄.toks + 1 + 1)] } }) X.xe { s2 with heap := h3, toks := tk } := by
    intro code h3 tk more hx hsz hP3 ht3
    obtain ⟨bm, ob, e1, e2, e3, e4, e5, e6, e7, e8⟩ := TB.bm
    have keep3 : ∀ b u, b ≠ P → s2.heap.get? b = some u → h3.get? b = some u := fun b u hb e => hx b u hb e
    refine wpAny_builtinsFor (m := X.mg) (by rw [I2.ok.glob]; exact (I2.mod.glob.keeps I2.bk).extBut hx TB.gP) e1 e2 (keep3 _ _ e4 (I2.bk _ _ e5)) e6 e7 e8 ?_
    intro h' hns hsb
    have I4 := inv_tab (more := more) (h' := h3) (g' := s2.gens) (d' := s2.drawn) (t' := tk) I2 hP keep3 hP3 I2.bare
    have old : ∀ b u, h3.get? b = some u → h'.get? b = some u := fun b u e => hsb.extBut b u (Nat.ne_of_lt (Heap.lt_size e)) (Heap.get?_push_of_some _ e)
    have hsz' : h'.objs.size = h3.objs.size + 1 := by rw [hsb.1, Heap.size_push]
    refine hQ J H1 (upd H1 P (.tbl (ps ++ more))) it fp tn { s2 with heap := h3, toks := tk } _ h3.objs.size _ code s2.gens.size _ _ q
      ⟨⟨⟨_, upd_same, ht3⟩, fun b hb => upd_ne hb⟩, I4, T, ?_, fun b hb => ⟨?_, ?_⟩, rfl, fun b o e => Heap.get?_push_of_some _ (old b o e), hns.keeps fun b o e => Heap.get?_push_of_some _ e, rfl, I2.bare.push rfl, Heap.get?_push_size _ rfl, ?_, ?_⟩
    · refine T.keep _ _ _ st2 fun b hb o e => keep3 b o (fun z => ?_) e
      have z2 := (f2 b hb).1
      rw [z, hP] at z2; cases z2
    · refine ⟨?_, (f2 b hb).2⟩
      have nb : b ≠ P := fun z => by
        have z2 := (f2 b hb).1
        rw [z, hP] at z2; cases z2
      rw [upd_ne nb]; exact (f2 b hb).1
    · obtain ⟨o, e, _⟩ := T.obj _ _ st2 b hb
      exact Nat.lt_of_lt_of_le (Heap.lt_size e) hsz
    · show h3.objs.size < h'.objs.size
      omega
    · show (s2.gens.push _)[s2.gens.size]? = _
      rw [Array.getElem?_push_size]
  refine ⟨I2.nolimit, ?_⟩
  cases hf : codeAmong gpos ps.toList with
  | none =>
    refine wpAny_genexprCodeX hcode (cd.code hPs ht) (cd.tab hPs) hf fun c' h' tk hx hge hlt hco' _ htab' _ => ?_
    obtain ⟨o1, vs, f1, tf, fl, tg', inF, tx, tt, op, _, _, _, _, _, _, _, _, _, htr, _⟩ := hco'
    exact cont _ h' tk _ hx (Nat.le_trans hge (Nat.le_of_lt hlt)) htab'.2 htr
  | some cv =>
    refine wpAny_genexprCode_hit hcode (cd.code hPs ht) hf ?_
    have z : ps ++ #[] = ps := by simp
    exact cont cv s2.heap s2.toks #[] (Heap.ExtBut.refl _ _) (Nat.le_refl _) (by rw [z]; exact hPs) (by rw [z]; exact ht)
end

/-! ### all, any: one item after another -/
section
variable {prog : Program} {w : World} {A : Around} {R : Result → Shared → Prop} {a : Addr} {g : Nat} {St : Nat → Shared → Prop} {En : Shared → Prop} {Yl : Nat → Value → Shared → Prop}
theorem allG_loop (hh : A.handled = none) (hd : A.in1.depth < recursionLimit)
    (hen : ∀ s₁ h', En s₁ → (∀ b o, s₁.heap.get? b = some o → h'.get? b = some o) → R (.ok (.ret (.bool true))) { s₁.setGen g .finished with heap := h' })
    (hyl : ∀ m v s₁ gs', gs'.bare = true → Yl m v s₁ → (v = .bool false ∧ R (.ok (.ret (.bool false))) (s₁.setGen g gs')) ∨
      (v = .bool true ∧ (s₁.setGen g gs').heap.NoLimit ∧ (s₁.setGen g gs').heap.IsGen a g ∧ ∃ m', m' < m ∧ St m' ((s₁.setGen g gs').setGen g .running))) :
    ∀ (n : Nat) (s : Shared), s.heap.NoLimit → s.heap.IsGen a g →
      (∃ gs, s.gens[g]? = some gs ∧ gs.Goes (model prog w) A.in1.in1 (fun _ _ r s₁ => r = .ok .next ∧ En s₁) (protoG St Yl) n (.send .none) (s.setGen g .running)) →
      codeAny (model prog w) A (.builtin "all.loop" ⟨[.ref a], []⟩) R s := by
  intro n
  induction n with
  | zero =>
    rintro s hl hg ⟨gs, hgs, hgo⟩
    refine codeAny_builtin F.entry_all_loop ?_
    rw [Around.under_plainId F.plain_all_loop _]
    show wpAny _ A.in1 (pyNext (.ref a) >>= _) _ _ s
    refine wpAny_bind (wpAny_pyNext_genexpQ (P := fun _ _ s₁ => En s₁) hh hl hd hg hgs hgo (fun v s₁ gs' hb hY => ?_) (fun s₁ hP h' hk => ?_))
    · obtain ⟨⟨m, hm, hy⟩, _⟩ := hY
      rcases hyl m v s₁ gs' hb hy with ⟨rfl, hR⟩ | ⟨_, _, _, m', hm', _⟩
      · refine wpAny_bind (wpAny_holding (wpAny_truthy_bool ?_))
        refine wpAny_bind (wpAny_letGo ?_)
        simp only [Bool.false_eq_true, if_false]
        exact wpAny_bind (wpAny_rule (wpAny_pure hR))
      · omega
    · exact wpAny_bind (wpAny_rule (wpAny_pure (hen s₁ h' hP hk)))
  | succ n ih =>
    rintro s hl hg ⟨gs, hgs, hgo⟩
    refine codeAny_builtin F.entry_all_loop ?_
    rw [Around.under_plainId F.plain_all_loop _]
    show wpAny _ A.in1 (pyNext (.ref a) >>= _) _ _ s
    have hsz : g + 1 ≤ s.gens.size := by
      rcases Nat.lt_or_ge g s.gens.size with z | z
      · exact z
      · rw [Array.getElem?_eq_none z] at hgs; cases hgs
    refine wpAny_bind (wpAny_gsz hsz (wpAny_pyNext_genexpQ (P := fun _ _ s₁ => En s₁) hh hl hd hg hgs hgo (fun v s₁ gs' hb hY hn => ?_) (fun s₁ hP h' hk _ => ?_)))
    · obtain ⟨⟨m, hm, hy⟩, hres⟩ := hY
      rcases hyl m v s₁ gs' hb hy with ⟨rfl, hR⟩ | ⟨rfl, hl', hg', m', hm', hst⟩
      · refine wpAny_bind (wpAny_holding (wpAny_truthy_bool ?_))
        refine wpAny_bind (wpAny_letGo ?_)
        simp only [Bool.false_eq_true, if_false]
        exact wpAny_bind (wpAny_rule (wpAny_pure hR))
      · refine wpAny_bind (wpAny_holding (wpAny_truthy_bool ?_))
        refine wpAny_bind (wpAny_letGo ?_)
        simp only [if_true]
        have hm : m ≤ n := hm
        refine wpAny_pure ⟨plainId_quiet F.plain_all_loop _, ih _ hl' hg' ⟨gs', ?_, hres _ m' (by omega) hst⟩⟩
        have hn' : g < s₁.gens.size := by
          rw [setGen_size] at hn; exact hn
        show (s₁.gens.setIfInBounds g gs')[g]? = some gs'
        rw [Array.getElem?_setIfInBounds_self, if_pos hn']
    · exact wpAny_bind (wpAny_rule (wpAny_pure (hen s₁ h' hP hk)))
end
end My

set_option Elab.async false
set_option linter.all false
set_option maxRecDepth 100000
set_option maxHeartbeats 2000000
namespace My
open PySem PySem.Spec PyProof.Rows L2 GxR GenW

/-- the around of the generator's frame, asked for by all or any -/
abbrev gA (X : Cx) (elt tg iter : Expr) (scope : Scope) (gpos : Pos) (it : Addr) (C : Addr) (code : Value) : Around :=
  X.A.in1.in1.over (.compLoop (.GeneratorExp elt [⟨tg, iter, [], 0⟩] scope gpos) 0 (.ref it) .none (gEnv X scope C code)) []
theorem gA_room {X : Cx} {elt tg iter : Expr} {scope : Scope} {gpos : Pos} {it C : Addr} {code : Value} {k : Nat} (hr : Room (k + 1) X.A) : Room k (gA X elt tg iter scope gpos it C code) := by
  have h1 : (gA X elt tg iter scope gpos it C code).depth = X.A.depth + 1 := rfl
  have h2 : (gA X elt tg iter scope gpos it C code).units ≤ X.A.units + 16 := by
    show X.A.in1.in1.units + _ + _ ≤ _
    have : X.A.in1.in1.units ≤ X.A.units + 8 := by
      first
        | exact Nat.le_add_right _ _
        | (show X.A.units + _ + _ ≤ _; omega)
    show X.A.in1.in1.units + 0 + 3 ≤ _
    omega
  exact ⟨hr.hd, by have := hr.dp; omega, by have := hr.un; omega⟩
theorem gA_frames {X : Cx} {elt tg iter : Expr} {scope : Scope} {gpos : Pos} {it C : Addr} {code : Value} (h : X.A.frames = some X.stack) :
    (gA X elt tg iter scope gpos it C code).frames = some (gEnv X scope C code :: X.stack) := by
  have e : (gA X elt tg iter scope gpos it C code).frames = pushEnvs [gEnv X scope C code] (pushEnvs [] X.A.frames) := rfl
  rw [e, h]; rfl

/-- all(e for tg in iter) -/
def tAllG (P : Addr) (wi : TI) (g : TG) (te : TE) (vs : List Nat) : TE := fun σ H Q => wi σ H fun J H1 => TabG H1 P ∧ ∀ H2, Tabbed P H1 H2 →
  ∃ W : Nat → Nat → Hp → Prop, (∃ m, W 0 m H2) ∧ ∀ i m H, W i m H → (J.stop i H ∧ Q (.bl true) H) ∨
    (J.go i H ∧ ∃ Nx : Hp → Prop, (∀ H', Nx H' → ∃ m', m' < m ∧ W (i + 1) m' H') ∧ ∀ x H', J.yld i H x H' → g x (wipe σ vs) H' fun σ2 H2 => wipe σ2 vs = wipe σ vs ∧
      te σ2 H2 fun y H3 => ∃ b, y = .bl b ∧ if b = true then Nx H3 else Q (.bl false) H3)

section
variable {X : Cx}
theorem pe_allG {c P : Addr} {elt tg iter : Expr} {p pos gpos : Pos} {scope : Scope} {own : List (Str × Nat)} {wi : TI} {g : TG} {te : TE} {k : Nat}
    (hc : X.calm = true) (hN : X.N.Nodup) (hr : Room (k + 1) X.A) (hgl : Gl X "all") (hm : X.mg "all" = none) (TB : TabB X.base X.mg c P) (hcode : X.env.code = .ref c)
    (S : GsOk scope) (ok : BlkOk X.N X.env.scope scope own) (hi : PI X tg iter wi)
    (hg : ∀ A' s H C code fp pn, PG (gcx X A' s H (gEnv X scope C code) fp pn) tg g)
    (he : ∀ A' s H C code fp pn, Room k A' → PE (gcx X A' s H (gEnv X scope C code) fp pn) elt te)
    (hs : ∀ v, genFold iter X.env v = pure v := by intro _; rfl)
    (h1 : starEach [.GeneratorExp elt [⟨tg, iter, [], 0⟩] scope gpos] X.env = (false, eval (.GeneratorExp elt [⟨tg, iter, [], 0⟩] scope gpos) X.env) :: starEach [] X.env := by rfl) :
    PE X (.Call (.Name "all" p) [.GeneratorExp elt [⟨tg, iter, [], 0⟩] scope gpos] [] pos) (tAllG P wi g te (own.map (·.2))) := by
  refine ⟨fun pins s σ H Q I h => ?_⟩
  refine wpAny_Call_Name_kw (ld_blt I hgl hm boot_all ?_)
  refine PyProof.Rows.callWith_builtin1 ?_ h1 (by rfl)
  rw [h1]
  show wpAny _ _ (spliced ((false, eval (.GeneratorExp elt [⟨tg, iter, [], 0⟩] scope gpos) X.env) :: backTo pos (starEach [] X.env))) _ _ s
  refine Calls.spliced_cons (gen_mk hr TB hcode S ok hi hs I h fun J H1 H2 it fp tn s4 s5 C a code gi x y q M => ?_)
  refine Calls.spliced_nil ?_
  obtain ⟨W, ⟨m0, w0⟩, turn⟩ := q H2 M.tab
  have hX : X.A.handled = none := M.inv.ok.hd hc
  have I5 : Inv (gcx X (gA X elt tg iter scope gpos it C code) s4 H2 (gEnv X scope C code) fp [(a, genObj gi x y)]) [] (wipe σ (own.map (·.2))) H2 s5 :=
    gen_inv M.inv ok hN S M.fp M.c hX (gA_frames M.inv.ok.frames) M.kp M.ns M.os M.bare fun p hp => by
      rw [List.mem_singleton.mp hp]
      exact ⟨M.obj, M.lt, fun v e => by cases e⟩
  have pg := hg (gA X elt tg iter scope gpos it C code) s4 H2 C code fp [(a, genObj gi x y)]
  have pe := he (gA X elt tg iter scope gpos it C code) s4 H2 C code fp [(a, genObj gi x y)] (gA_room hr)
  have T := M.tu
  generalize hY : gcx X (gA X elt tg iter scope gpos it C code) s4 H2 (gEnv X scope C code) fp [(a, genObj gi x y)] = Y at I5 pg pe
  have stat : ∀ {σ' : L2.St} {H' : Hp} {s' : Shared}, Inv Y [] σ' H' s' → (∀ b ∈ fp, H' b = none) → ∀ b ∈ fp, FpOk Y [] H' b := fun {σ' H' s'} I' hn b hb => by
    subst hY
    refine ⟨hn b hb, (I'.ok.exf b hb).1, I'.ok.exfs b hb, .inl hb, fun x c e => (I'.ok.exf b hb).2 x c e, fun p hp => ?_⟩
    have hp : p ∈ [(a, genObj gi x y)] ++ ([] : List (Addr × Obj)) := hp
    rw [List.append_nil] at hp
    rw [List.mem_singleton.mp hp]
    have h2 := (M.fp b hb).2
    have h3 := M.lt
    exact Nat.ne_of_gt (Nat.lt_trans h2 h3)
  have obj : ∀ {σ' : L2.St} {H' : Hp} {s' : Shared}, Inv Y [] σ' H' s' → s'.heap.IsGen a gi := fun {σ' H' s'} I' => by
    subst hY
    exact ⟨_, x, y, (I'.pin (a, genObj gi x y) (List.mem_append_left _ (List.mem_singleton.mpr rfl))).1, rfl, rfl, rfl⟩
  have back : ∀ {σ' : L2.St} {H' : Hp} {s' : Shared}, Inv Y [] σ' H' s' → Inv X pins σ H' s' := fun {σ' H' s'} I' => by
    subst hY
    exact M.inv.call' (ch := fp) I'.os I'.base I'.hok I'.bare fun b hb => ⟨(M.fp b hb).1.2.2.2.1, (M.fp b hb).1.2.1, (M.fp b hb).1.2.2.2.2.1, (M.fp b hb).1.2.2.2.2.2⟩
  have seg := seg_loopG (prog := X.prog) (w := X.w) (A := X.A.in1.in1) (elt := elt) (tg := tg) (iter := iter) (scope := scope) (pos := gpos) (it := it) (cenv := gEnv X scope C code) S.co
    (fun m s => ∃ i H', Inv Y [] (wipe σ (own.map (·.2))) H' s ∧ tn i s.heap ∧ (∀ b ∈ fp, H' b = none) ∧ W i m H')
    (fun s => ∃ H', Inv Y [] (wipe σ (own.map (·.2))) H' s ∧ Q (.bl true) H')
    (fun m v s => ∃ i H' b, v = .bool b ∧ Inv Y [] (wipe σ (own.map (·.2))) H' s ∧ tn i s.heap ∧ (∀ b ∈ fp, H' b = none) ∧ if b = true then ∃ m', m' < m ∧ W i m' H' else Q (.bl false) H') ?_
  · have hl5 : s5.heap.NoLimit := I5.nolimit
    refine call_function_tree F.kind_all F.plain_all F.entry_all (F.args_all1 _) ?_
    unfold Builtin.«all»
    refine wpAny_bind (m := oneArg "all" _) (wpAny_pure ?_)
    refine wpAny_bind (wpAny_pyIter_gen (obj I5) ?_)
    refine wpAny_pure ⟨plainId_quiet F.plain_all_loop _, ?_⟩
    refine allG_loop (g := gi) (n := m0 + 1) (St := fun m s => ∃ i H', Inv Y [] (wipe σ (own.map (·.2))) H' s ∧ tn i s.heap ∧ (∀ b ∈ fp, H' b = none) ∧ W i m H')
      (En := fun s => ∃ H', Inv Y [] (wipe σ (own.map (·.2))) H' s ∧ Q (.bl true) H')
      (Yl := fun m v s => ∃ i H' b, v = .bool b ∧ Inv Y [] (wipe σ (own.map (·.2))) H' s ∧ tn i s.heap ∧ (∀ b ∈ fp, H' b = none) ∧ if b = true then ∃ m', m' < m ∧ W i m' H' else Q (.bl false) H')
      hX (by have := hr.dp; show X.A.depth < _; omega) ?_ ?_ s5 hl5 (obj I5) ⟨_, M.gs, rfl, ?_⟩
    · rintro s₁ h' ⟨H', I', qq⟩ hk
      have I6 := inv_setGen (g := gi) (x := .finished) I' rfl
      have I7 := (back I6).kept (t' := s₁.toks) hk
      exact ⟨.bl true, H', I7, rfl, qq⟩
    · rintro m v s₁ gs' hb ⟨i, H', b, rfl, I', st', n', q'⟩
      have I6 := inv_setGen (g := gi) I' hb
      cases b with
      | false => exact .inl ⟨rfl, .bl false, H', back I6, rfl, q'⟩
      | true =>
        obtain ⟨m', hm', w'⟩ : ∃ m', m' < m ∧ W i m' H' := q'
        exact .inr ⟨rfl, I6.nolimit, obj I6, m', hm', i, H', inv_setGen I6 rfl, st', n', w'⟩
    · -- the start
      have I6 : Inv Y [] (wipe σ (own.map (·.2))) H2 (s5.setGen gi .running) := inv_setGen I5 rfl
      have st5 : tn 0 (s5.setGen gi .running).heap := T.keep _ _ _ M.st fun b _ o e => M.kp b o e
      have loop := seg (m0 + 1) m0 (s5.setGen gi .running) (s5.setGen gi .running) (Nat.lt_succ_self _) ⟨0, H2, I6, st5, fun b hb => (M.fp b hb).1.1, w0⟩
      show Seg _ X.A.in1.in1 _ _ _ _ _ ((compStart (.GeneratorExp elt [⟨tg, iter, [], 0⟩] scope gpos) 0 (.ref it) .none (gEnv X scope C code)).onRaise (leaving (gEnv X scope C code))) [] _
      unfold compStart
      rw [Sem.onRaise_eq_wrap]
      show Seg _ X.A.in1.in1 _ _ _ _ _ ((ask >>= _).wrap _ _ _ _) [] _
      refine seg_bind_wrap (wpAny_askSetting ?_)
      split
      · exact seg_again rfl loop
      · refine seg_bind_wrap (wpAny_rule ?_)
        show Seg _ X.A.in1.in1 _ _ _ _ _ ((standAt iter.pos >>= _).wrap _ _ _ _) [] _
        exact seg_bind_wrap (wpAny_standAt (seg_bind_wrap (T.self _ 0 _ _ _ st5 (seg_again rfl loop))))
  · rintro m s6 ⟨i, H', I', st', n', w'⟩
    rcases turn i m H' w' with ⟨stop, qq⟩ | ⟨go, Nx, hNx, step⟩
    · have td := T.done Y (by subst hY; rfl) (by subst hY; rfl) (by subst hY; rfl) (by subst hY; rfl) i [] s6 _ H' (fun _ _ => False) I' (stat I' n') st' stop
      subst hY
      refine wpAny_mono td (fun r s7 ⟨hr7, I7⟩ => ?_) fun _ _ e => e
      subst hr7
      exact ⟨H', I7, qq⟩
    · have ti := T.item Y (by subst hY; rfl) (by subst hY; rfl) (by subst hY; rfl) (by subst hY; rfl) i [] s6 _ H' (fun _ _ => False) I' (stat I' n') st' go
      subst hY
      refine wpAny_mono ti (fun r s7 ⟨u, hr7, h7⟩ => ?_) fun _ _ e => e
      subst hr7
      refine wpAny_mono h7 (fun _ s8 ⟨xv, H8, I8, r8, y8, st8, n8⟩ => ?_) fun _ _ e => e
      have I8' := I8.pinned (stat I8 n8) (T.obj _ _ st8)
      refine wpAny_mono (pg.run _ s8 _ H8 xv u _ I8' r8 (step xv H8 y8)) (fun _ s9 ⟨σ9, H9, I9, hw9, q9⟩ => ?_) fun _ _ e => e
      refine wpAny_mono (pe.run _ s9 σ9 H9 _ I9 q9) (fun v s10 ⟨yv, H10, I10, r10, b, eb, q10⟩ => ?_) fun _ _ e => e
      subst eb
      cases r10
      have pin' : ∀ b ∈ fp, ∀ o, s8.heap.get? b = some o → s10.heap.get? b = some o ∧ H10 b = none := fun b hb o e =>
        let z := I10.pin (b, o) (List.mem_append_right _ (List.mem_append_right _ (mem_pinsAt hb e)))
        ⟨z.1, z.2.1⟩
      have hl : (wipe σ (own.map (·.2))).length = σ9.length := by rw [← hw9, wipe_length]
      refine ⟨i + 1, H10, b, rfl, (I10.unpinned (pins := [])).weak hl (fun j v e => ?_), T.keep _ _ _ st8 fun b hb o e => (pin' b hb o e).1, fun b hb => ?_, ?_⟩
      · rw [← hw9] at e
        exact (wipe_some e).1
      · obtain ⟨o, e, _⟩ := T.obj _ _ st8 b hb
        exact (pin' b hb o e).2
      · cases b with
        | true => exact hNx H10 q10
        | false => exact q10
end
end My

set_option Elab.async false
set_option linter.all false
set_option maxRecDepth 100000
namespace My
open PySem PySem.Spec PyProof.Rows L2 GxR

/-! ### a def whose code object is known -/
section
variable {P : Program} {w : World} {K : PySem.W.Frag} {mg : Str → Option Value} {base : Heap}
theorem okC {x qual : Str} {st : Stmt} {f c : Addr} {fd : FuncData} {N ps : List Str} {k : Nat} {sp : Sp} (F : Fun K x qual st f fd) (hc : fd.code = .ref c) (S : FnScope N ps (defScope st))
    (len : ∀ vs H Q E, sp vs H Q E → vs.length = ps.length)
    (hbody : ∀ (A : Around) (outer : List Env) (s : Shared) (H : Hp) (vs : List V) (Q : VK) (E : XK), Room k (A.deeper (envOfC qual (defScope st) s.heap.objs.size f (.ref c))) → sp vs H Q E →
      ∃ t, PSs (cxOf CX0 P w K mg base N qual (defScope st) f (.ref c) A outer s H E).nox (defBody st) t ∧ t { nx := fun _ H' => Q .non H', rt := Q } (start N vs) H) : FnOk P w K mg base CX0 (k + 1) f fd ps sp := by
  obtain ⟨oc, od, kV, doc, pm, an, cdv, ct, osl, rfl, lk, hcd⟩ := F.ex
  have e : cdv = .ref c := hc
  subst e
  refine fn_of lk hcd S len fun A outer s H vs Q E hr hsp => ?_
  obtain ⟨t, h, q⟩ := hbody A outer s H vs Q E hr hsp
  exact ⟨t, h.nox, q⟩
theorem fun_of {x qual : Str} {st : Stmt} {f : Addr} {fd : FuncData} {kws : List (Str × V)} (F : FunD K x qual (defArgs st) (defBody st) (defScope st) [] kws f fd) : Fun K x qual st f fd := by
  obtain ⟨oc, od, dV, kV, doc, pm, an, cdv, ct, osl, rfl, lk, hcd, hD, _⟩ := F.ex
  rcases hD with ⟨_, rfl⟩ | ⟨e, _⟩
  · exact ⟨⟨oc, od, kV, doc, pm, an, cdv, ct, osl, rfl, lk, hcd⟩, F.kp⟩
  · exact absurd rfl e
end

/-! ### a < b < c < d -/
section
variable {X : Cx} {a b c d : Expr} {ta tb tc td : TE} {pos : Pos}
def tChain3 (r1 r2 r3 : R2) (ta tb tc td : TE) : TE := fun σ H Q => ta σ H fun x H1 => tb σ H1 fun y H2 => r1 x y H2 fun z H3 => ∃ k, z = .bl k ∧
  (if k = true then tc σ H3 fun v H4 => r2 y v H4 fun z H5 => ∃ k, z = .bl k ∧ (if k = true then td σ H5 fun u H6 => r3 v u H6 Q else Q (.bl false) H5) else Q (.bl false) H3)
theorem pe_chain3 {o1 o2 o3 : CmpOp} {r1 r2 r3 : R2} (h1 : OpR X (compareOp o1) r1) (h2 : OpR X (compareOp o2) r2) (h3 : OpR X (compareOp o3) r3) (ha : PE X a ta) (hb : PE X b tb) (hc : PE X c tc) (hd : PE X d td)
    (hm : lastMarks [o1, o2, o3] [b, c, d] = false := by with_unfolding_all rfl) : PE X (.Compare a [o1, o2, o3] [b, c, d] pos) (tChain3 r1 r2 r3 ta tb tc td) := by
  refine ⟨fun pins s σ H Q I h => ?_⟩
  refine Compare_chain (thn (ha.run pins s σ H _ I h) fun v s1 ⟨x, H1, I1, q1, p1⟩ => chain_link (thn (hb.run pins s1 σ H1 _ I1 p1) fun u s2 ⟨y, H2, I2, q2, p2⟩ =>
    thn (h1 pins s2 σ H2 x y v u _ I2 q1 q2 p2) fun e s3 ⟨z, H3, I3, q3, k, ek, p3⟩ => ?_)) hm
  subst ek
  cases q3
  refine wpAny_truthy_bool ?_
  cases k with
  | false => exact ite_ff ⟨.bl false, H3, I3, rfl, p3⟩
  | true =>
    refine ite_tt (chain_link (thn (hc.run pins s3 σ H3 _ I3 p3) fun u4 s4 ⟨y4, H4, I4, q4, p4⟩ => thn (h2 pins s4 σ H4 y y4 u u4 _ I4 q2 q4 p4) fun e5 s5 ⟨z5, H5, I5, q5, k5, ek5, p5⟩ => ?_))
    subst ek5
    cases q5
    refine wpAny_truthy_bool ?_
    cases k5 with
    | false => exact ite_ff ⟨.bl false, H5, I5, rfl, p5⟩
    | true => exact ite_tt (chain_last (thn (hd.run pins s5 σ H5 _ I5 p5) fun u6 s6 ⟨y6, H6, I6, q6, p6⟩ => h3 pins s6 σ H6 y4 y6 u4 u6 Q I6 q4 q6 p6))
end

/-! ### all over what is walked -/
theorem allG_it {J : It} {n : Nat} {G : Hp → Prop} {Y : Nat → Hp → V → Hp → Prop} (w : Walk J n G Y) {g : TG} {te : TE} {vs : List Nat} {σ : L2.St} {H0 : Hp} {QT QF : Hp → Prop} (Pv : Nat → Hp → Prop) (h0 : Pv 0 H0) (hG : ∀ i H, i ≤ n → Pv i H → G H)
    (hs : ∀ i x H H', i < n → Pv i H → Y i H x H' → g x (wipe σ vs) H' fun σ2 H2 => wipe σ2 vs = wipe σ vs ∧ te σ2 H2 fun y H3 => ∃ b, y = .bl b ∧ if b = true then Pv (i + 1) H3 else QF H3)
    (hd : ∀ H, Pv n H → QT H) :
    ∃ W : Nat → Nat → Hp → Prop, (∃ m, W 0 m H0) ∧ ∀ i m H, W i m H → (J.stop i H ∧ QT H) ∨
      (J.go i H ∧ ∃ Nx : Hp → Prop, (∀ H', Nx H' → ∃ m', m' < m ∧ W (i + 1) m' H') ∧ ∀ x H', J.yld i H x H' → g x (wipe σ vs) H' fun σ2 H2 => wipe σ2 vs = wipe σ vs ∧
        te σ2 H2 fun y H3 => ∃ b, y = .bl b ∧ if b = true then Nx H3 else QF H3) := by
  refine ⟨fun i m H => m = n - i ∧ i ≤ n ∧ Pv i H, ⟨n, rfl, Nat.zero_le _, h0⟩, ?_⟩
  rintro i m H ⟨rfl, hi, p⟩
  have q := hG i H hi p
  by_cases hlt : i < n
  · exact .inr ⟨w.goes i H hlt q, Pv (i + 1), fun H' p' => ⟨n - (i + 1), by omega, rfl, hlt, p'⟩, fun x H' y => hs i x H H' hlt p (w.yields i H x H' hlt q y)⟩
  · have e : i = n := by omega
    subst e
    exact .inl ⟨w.stops H q, hd H p⟩
theorem walk_zipT {K : PySem.W.Frag} {a b : Addr} {xs ys : List V} {n : Nat} (hn : n = min xs.length ys.length) :
    Walk (RZ.ItzT K a b) n (fun H => SqT K H a xs ∧ SqT K H b ys) (YPair (fun i => xs[i]?) (fun i => ys[i]?)) := by
  subst hn
  refine ⟨fun i _ hi q => ?_, fun _ q => ⟨xs, ys, q.1, q.2, by omega⟩, fun i H v H' _ q y => ?_⟩
  · have h1 : i < xs.length := by omega
    have h2 : i < ys.length := by omega
    exact ⟨xs, ys, xs[i], ys[i], q.1, q.2, List.getElem?_eq_getElem h1, List.getElem?_eq_getElem h2⟩
  · obtain ⟨T, x, z, h1, h2, h3, h4, h5⟩ := y
    exact ⟨T, x, z, h1, h2, h3, h4 xs q.1, h5 ys q.2⟩
theorem cut1 (xs : List V) : cutV xs (some 1) none = xs.drop 1 := by
  unfold cutV
  rw [show HT.sIx xs.length 0 (some 1) = min 1 xs.length from HT.sIx_nat xs.length 0 1, HT.sIx_none]
  cases xs with
  | nil => rfl
  | cons x r =>
    rw [show min 1 (x :: r).length = 1 by rw [List.length_cons]; omega]
    show (List.take ((x :: r).length - 1) r) = r
    rw [List.length_cons, Nat.add_sub_cancel]
    exact List.take_length
theorem lex_of {s t : Int × Int} (h : ltT s t) : HT.lexLt [s.1, s.2] [t.1, t.2] = true := by
  rw [HT.lexLt_cons]
  rcases h with h | ⟨h, k⟩
  · rw [if_neg (by omega)]; exact decide_eq_true h
  · rw [if_pos h, HT.lexLt_cons, if_neg (by omega)]; exact decide_eq_true k
end My

set_option Elab.async false
set_option linter.all false
set_option maxRecDepth 100000
namespace My
open PySem PySem.Spec PyProof.Rows L2
def topS (i : Nat) : Stmt := PySem.Challenge.pw_pointedties_k85_whole_modules_walked.main.body.getD i (.Pass ⟨0, 0, 0, 0⟩)
section
variable {P : Program} {w : World} {K : PySem.W.Frag} {mg : Str → Option Value} {base : Heap}

/-! ### _law_mix -/
abbrev s__law_mix : Stmt := topS 15
abbrev N__law_mix : List Str := ["_law_cell", "_law_k", "_law_m"]
theorem sc__law_mix : FnScope N__law_mix ["_law_cell", "_law_k"] (defScope s__law_mix) := ⟨rfl, rfl, rfl, by decide +kernel, rfl, by decide +kernel, by decide +kernel⟩
def sp_mix : Sp := fun vs H Q _ => ∃ c k : Int, vs = [.int c, .int k] ∧ -(2 ^ 60) < k ∧ k < 2 ^ 60 ∧
  ∀ r : Int, 0 ≤ r → Q (.int r) H
theorem ok_mix {f : Addr} {fd : FuncData} (F : Fun K "_law_mix" "_law_mix" s__law_mix f fd) :
    FnOk P w K mg base CX0 1 f fd ["_law_cell", "_law_k"] sp_mix := by
  refine F.ok sc__law_mix (fun vs H Q E h => ?_) (fun cdv A outer s H vs Q E hr h => ?_)
  · obtain ⟨c, k, rfl, _⟩ := h; rfl
  · obtain ⟨c, k, rfl, h1, h2, q⟩ := h
    refine ⟨_, (pss_cons (ps_set (i := 2) sc__law_mix.nd rfl (by first | exact Or.inl rfl | exact Or.inr rfl) (pe_op op_mod (pe_op op_mul (pe_op op_add (pe_op op_add (pe_op op_mod (pv 0) pe_int) (pe_op op_mul (pe_op op_mul (pv 1) (pv 1)) pe_int)) pe_int) pe_int) pe_int))
    (pss_one (ps_ret (pe_op op_mod (pe_op op_mul (pv 2) (pv 2)) pe_int)))), ?_⟩
    refine ⟨_, rfl, _, _, rfl, rfl, (by decide : (0 : Int) < 2147483629), ?_⟩
    refine ⟨_, rfl, _, rfl, _, _, rfl, rfl, .inl ⟨by omega, by omega⟩, ?_⟩
    refine ⟨_, _, rfl, rfl, .inr ⟨by decide, by decide⟩, ?_⟩
    refine ⟨_, _, rfl, rfl, ?_⟩
    refine ⟨_, _, rfl, rfl, ?_⟩
    refine ⟨_, _, rfl, rfl, .inr ⟨by decide, by decide⟩, ?_⟩
    refine ⟨_, _, rfl, rfl, (by decide : (0 : Int) < 2147483647), ?_⟩
    have b1 : ∀ x : Int, 0 ≤ x % 2147483647 := fun x => Int.emod_nonneg _ (by decide)
    have b2 : ∀ x : Int, x % 2147483647 < 2147483647 := fun x => Int.emod_lt_of_pos _ (by decide)
    refine ⟨_, rfl, _, rfl, _, _, rfl, rfl, .inl ⟨by have := b1 (((c % 2147483629 + k * k * 7919) + 11) * 48271); omega, by have := b2 (((c % 2147483629 + k * k * 7919) + 11) * 48271); omega⟩, ?_⟩
    refine ⟨_, _, rfl, rfl, (by decide : (0 : Int) < 1999999973), ?_⟩
    exact q _ (Int.emod_nonneg _ (by decide))

/-! ### _law_left -/
abbrev s__law_left : Stmt := topS 16
abbrev N__law_left : List Str := ["_law_script", "_law_k", "_law_cell"]
theorem sc__law_left : FnScope N__law_left ["_law_script", "_law_k"] (defScope s__law_left) := ⟨rfl, rfl, rfl, by decide +kernel, rfl, by decide +kernel, by decide +kernel⟩
def sp_left (K : PySem.W.Frag) : Sp := fun vs H Q _ => ∃ (a : Addr) (ns : List Int) (k : Int), vs = [.ref a, .int k] ∧ SqL K H a (ns.map V.int) ∧ 0 ≤ k ∧ k < 2 ^ 60 ∧
  ∀ L H', H L = none → Same H H' → Lf H' L 0 → Q (.ref L) H'
theorem ok_left {f : Addr} {fd : FuncData} (B : Bts mg) (F : Fun K "_law_left" "_law_left" s__law_left f fd) :
    FnOk P w K mg base CX0 1 f fd ["_law_script", "_law_k"] (sp_left K) := by
  refine F.ok sc__law_left (fun vs H Q E h => ?_) (fun cdv A outer s H vs Q E hr h => ?_)
  · obtain ⟨c, k, _, rfl, _⟩ := h; rfl
  · obtain ⟨a, ns, k, rfl, hS, h1, h2, q⟩ := h
    refine ⟨_, (pss_cons (ps_set (i := 2) sc__law_left.nd rfl (by first | exact Or.inl rfl | exact Or.inr rfl) (pe_ifExp (pt_cmpR op_lt (pv 1) (pe_callB call_len_seq (by rfl) B.len (by decide +kernel) (pa_cons (pv 0) pa_nil)) (nomark _)) (pe_ix ix_list (pv 0) (pv 1) (fun _ _ => rfl)) pe_int))
    (pss_one (ps_ret (pe_lst (pa_cons (pe_op op_mul (pe_callB call_abs (by rfl) B.abs (by decide +kernel) (pa_cons (pv 2) pa_nil)) (pe_callTy call_int1 (by rfl) B.int (by decide +kernel) (pa_cons (pe_cmpR op_ge (pe_callB call_abs (by rfl) B.abs (by decide +kernel) (pa_cons (pv 2) pa_nil)) (pe_op op_pow pe_int pe_int) (nomark _)) pa_nil))) (pa_cons (pe_op op_add (pv 2) (pe_op op_mul pe_int (pv 1))) (pa_cons pe_int pa_nil))))))), ?_⟩
    have rest : ∀ x : Int, (tRet (tLst (tCons (tOp (rI CMul fun i j => .int (i * j)) (tCB (fun xs H Q => ∃ i, xs = [.int i] ∧ Q (.int (if i < 0 then -i else i)) H) (tCons (tVar 2) tNil)) (tCB (fun xs H Q => (∃ i, xs = [.int i] ∧ Q (.int i) H) ∨ ∃ k, xs = [.bl k] ∧ Q (.int (if k then 1 else 0)) H) (tCons (tOp (rI0 fun i j => .bl (decide (j ≤ i))) (tCB (fun xs H Q => ∃ i, xs = [.int i] ∧ Q (.int (if i < 0 then -i else i)) H) (tCons (tVar 2) tNil)) (tOp (rI CPow fun i j => .int (i ^ j.toNat)) (tC (.int 10)) (tC (.int 18)))) tNil))) (tCons (tOp (rI0 fun i j => .int (i + j)) (tVar 2) (tOp (rI CMul fun i j => .int (i * j)) (tC (.int 1000003)) (tVar 1))) (tCons (tC (.int 0)) tNil))))) { nx := fun _ H' => Q .non H', rt := Q } ((start N__law_left [.ref a, .int k]).set 2 (some (.int x))) H := by
      intro x
      refine ⟨_, rfl, _, rfl, ?_⟩
      refine ⟨_, rfl, _, rfl, ?_⟩
      refine ⟨_, _, rfl, rfl, ⟨by decide, by decide, by decide⟩, ?_⟩
      refine ⟨_, _, rfl, rfl, .inr ⟨_, rfl, ?_⟩⟩
      refine ⟨_, _, rfl, rfl, .inr ⟨?_, ?_⟩, ?_⟩
      · exact (bi _).1
      · exact (bi _).2.1
      refine ⟨_, rfl, _, rfl, _, _, rfl, rfl, .inl ⟨by decide, by decide⟩, ?_⟩
      refine ⟨_, _, rfl, rfl, ?_⟩
      refine ⟨by show 3 ≤ sizeLine; decide, fun p np => ?_⟩
      refine q p _ np (same_new np) ⟨_, _, _, upd_same, ?_, Int.le_refl _, Int.le_refl _⟩
      refine Int.mul_nonneg ?_ ?_
      · split <;> omega
      · exact (bi _).2.2
    refine ⟨_, rfl, _, rfl, a, _, rfl, .inl hS, _, _, rfl, rfl, _, rfl, ite2 (fun e => ?_) (fun e => ?_)⟩
    · have e := of_decide_eq_true e
      rw [List.length_map] at e
      have hk : k.toNat < ns.length := by omega
      have g : (ns.map V.int)[k.toNat]? = some (.int ns[k.toNat]) := by
        rw [List.getElem?_map, List.getElem?_eq_getElem hk]; rfl
      have g2 := atI_nat g
      rw [Int.toNat_of_nonneg h1] at g2
      refine ⟨_, rfl, _, rfl, a, _, k, _, rfl, rfl, hS, g2, ?_⟩
      exact rest _
    · exact rest 0

/-! ### _law_pick -/
abbrev s__law_pick : Stmt := topS 17
abbrev N__law_pick : List Str := ["_law_left_here", "_law_many", "_law_digit"]
theorem sc__law_pick : FnScope N__law_pick ["_law_left_here", "_law_many"] (defScope s__law_pick) := ⟨rfl, rfl, rfl, by decide +kernel, rfl, by decide +kernel, by decide +kernel⟩
def sp_pick : Sp := fun vs H Q _ => ∃ (L : Addr) (m c : Int), vs = [.ref L, .int m] ∧ Lf H L c ∧ 0 < m ∧ m < 1000000 ∧ c < 2 ^ 50 ∧
  ∀ (r : Int) (H' : Hp), 0 ≤ r → r < m → Fr L H H' → Lf H' L (c + 1) → Q (.int r) H'
theorem ok_pick {f : Addr} {fd : FuncData} (F : Fun K "_law_pick" "_law_pick" s__law_pick f fd) (c__law_mix : Cl P w K mg base 1 "_law_mix" sp_mix) :
    FnOk P w K mg base CX0 2 f fd ["_law_left_here", "_law_many"] sp_pick := by
  refine F.ok sc__law_pick (fun vs H Q E h => ?_) (fun cdv A outer s H vs Q E hr h => ?_)
  · obtain ⟨c, k, _, rfl, _⟩ := h; rfl
  · obtain ⟨L, m, c, rfl, ⟨x, y, z, hL, hx, hz, hzc⟩, h1, h2, h3, q⟩ := h
    refine ⟨_, (pss_cons (ps_asg (pe_op op_add (pe_ix ix_list (pv 0) pe_int (fun _ _ => rfl)) pe_int) (pg_sub (pv 0) pe_int set_list))
    (pss_cons (ps_if (pt_cmpR op_gt (pe_ix ix_list (pv 0) pe_int (fun _ _ => rfl)) pe_int (nomark _)) (pss_cons (ps_set (i := 2) sc__law_pick.nd rfl (by first | exact Or.inl rfl | exact Or.inr rfl) (pe_op op_mod (pe_ix ix_list (pv 0) pe_int (fun _ _ => rfl)) (pv 1)))
      (pss_cons (ps_asg (pe_op op_fdiv (pe_ix ix_list (pv 0) pe_int (fun _ _ => rfl)) (pv 1)) (pg_sub (pv 0) pe_int set_list))
      (pss_one (ps_ret (pv 2))))) pss_nil)
    (pss_one (ps_ret (pe_op op_mod (pe_op op_fdiv (pe_c c__law_mix hr (by decide) (by rfl) (pa_cons (pe_c c__law_mix hr (by decide) (by rfl) (pa_cons (pe_ix ix_list (pv 0) pe_int (fun _ _ => rfl)) (pa_cons (pe_ix ix_list (pv 0) pe_int (fun _ _ => rfl)) pa_nil))) (pa_cons (pe_op op_add (pe_ix ix_list (pv 0) pe_int (fun _ _ => rfl)) pe_int) pa_nil))) pe_int) (pv 1)))))), ?_⟩
    refine ⟨_, rfl, L, _, _, _, rfl, rfl, SqL.of hL, rfl, _, _, rfl, rfl, ?_⟩
    refine ⟨_, rfl, L, _, _, _, rfl, rfl, hL, rfl, ?_⟩
    refine ⟨_, rfl, L, _, _, _, rfl, rfl, SqL.of upd_same, rfl, _, _, rfl, rfl, _, rfl, ite2 (fun e => ?_) (fun e => ?_)⟩
    · refine ⟨_, rfl, L, _, _, _, rfl, rfl, SqL.of upd_same, rfl, _, rfl, _, _, rfl, rfl, h1, ?_⟩
      refine ⟨_, rfl, L, _, _, _, rfl, rfl, SqL.of upd_same, rfl, _, rfl, _, _, rfl, rfl, ⟨h1, by omega⟩, ?_⟩
      refine ⟨_, rfl, L, _, _, _, rfl, rfl, upd_same, rfl, ?_⟩
      refine ⟨_, rfl, ?_⟩
      refine q _ _ (Int.emod_nonneg _ (by omega)) (Int.emod_lt_of_pos _ h1) ((Fr.refl L H).putL.putL) ⟨_, _, _, upd_same, ?_, ?_, ?_⟩
      · exact Int.ediv_nonneg hx (Int.le_of_lt h1)
      · omega
      · omega
    · refine ⟨_, rfl, L, _, _, _, rfl, rfl, SqL.of upd_same, rfl, ?_⟩
      refine ⟨_, rfl, L, _, _, _, rfl, rfl, SqL.of upd_same, rfl, ?_⟩
      refine ⟨_, _, rfl, by omega, by omega, fun r hr0 => ?_⟩
      refine ⟨_, rfl, L, _, _, _, rfl, rfl, SqL.of upd_same, rfl, _, _, rfl, rfl, ?_⟩
      refine ⟨_, _, rfl, by omega, by omega, fun r2 hr2 => ?_⟩
      refine ⟨_, _, rfl, rfl, ⟨by decide, by decide⟩, ?_⟩
      refine ⟨_, rfl, _, _, rfl, rfl, h1, ?_⟩
      exact q _ _ (Int.emod_nonneg _ (by omega)) (Int.emod_lt_of_pos _ h1) (Fr.refl L H).putL ⟨_, _, _, upd_same, hx, by omega, by omega⟩
end
end My

set_option Elab.async false
set_option linter.all false
set_option maxRecDepth 100000
namespace My
open PySem PySem.Spec PyProof.Rows L2
section
variable {P : Program} {w : World} {K : PySem.W.Frag} {mg : Str → Option Value} {base : Heap}

/-! ### _law_pairs -/
abbrev s__law_pairs : Stmt := topS 19
abbrev N__law_pairs : List Str := ["_law_many", "_law_found", "_law_a", "_law_b"]
theorem sc__law_pairs : FnScope N__law_pairs ["_law_many"] (defScope s__law_pairs) := ⟨rfl, rfl, rfl, by decide +kernel, rfl, by decide +kernel, by decide +kernel⟩
def sp_pairs : Sp := fun vs H Q _ => ∃ n : Nat, vs = [.int (n : Int)] ∧ n ≤ 100 ∧
  ∀ p vs H', H p = none → Same H H' → H' p = some (.lst vs) → Ties H' vs (pup n n) → Q (.ref p) H'
theorem ok_pairs {f : Addr} {fd : FuncData} (B : Bts mg) (F : Fun K "_law_pairs" "_law_pairs" s__law_pairs f fd) :
    FnOk P w K mg base CX0 1 f fd ["_law_many"] sp_pairs := by
  refine F.ok sc__law_pairs (fun vs H Q E h => ?_) (fun cdv A outer s H vs Q E hr h => ?_)
  · obtain ⟨n, rfl, _⟩ := h; rfl
  · obtain ⟨n, rfl, hn, q⟩ := h
    refine ⟨_, (pss_cons (ps_set (i := 1) sc__law_pairs.nd rfl (by first | exact Or.inl rfl | exact Or.inr rfl) (pe_lst pa_nil))
    (pss_cons (ps_for PassesOwn.never rfl (pi_range1 (by rfl) B.range (pa_cons (pv 0) pa_nil)) (pg_name (i := 2) sc__law_pairs.nd rfl (by first | exact Or.inl rfl | exact Or.inr rfl))
      (pss_one (ps_expr (pe_bm PySem.F.plainAttrs_list PySem.F.slot_list_extend PySem.F.type_list_extend mt_extend (pv 1) (pa_cons (pe_lc (own := [("_law_b", 3)]) (g := (gName 3)) (tt := tYes) rfl sc__law_pairs.nd (pi_range2 (by rfl) B.range (pa_cons (pe_op op_add (pv 2) pe_int) (pa_cons (pv 0) pa_nil))) (blkOk_by (own := [("_law_b", 3)]) (N := N__law_pairs) (sc := defScope s__law_pairs) (by decide +kernel)) (fun _ _ _ _ _ => (pg_name (i := 3) sc__law_pairs.nd rfl (by first | exact Or.inl rfl | exact Or.inr rfl))) (fun _ _ _ _ _ => pts_nil) (fun _ _ _ _ _ => (pe_tup (pa_cons (pv 2) (pa_cons (pv 3) pa_nil))))) pa_nil)))))
    (pss_one (ps_ret (pv 1))))), ?_⟩
    refine ⟨Nat.zero_le _, fun o no => ?_⟩
    refine ⟨_, rfl, _, rfl, by omega, by omega, ?_⟩
    refine for_range (fun i σ H1 => ∃ vs y2 y3, σ = [some (.int (n : Int)), some (.ref o), y2, y3] ∧ Same H H1 ∧ H1 o = some (.lst vs) ∧ Ties H1 vs (pup n i)) ⟨[], none, none, rfl, same_new no, upd_same, trivial⟩ ?_ ?_
    · rintro i σ H1 hi ⟨vs, y2, y3, rfl, sm, eo, hT⟩
      have hi : i < n := by omega
      refine ⟨_, rfl, .inl ⟨rfl, _, SqL.of eo⟩, ?_⟩
      refine ⟨_, rfl, _, _, rfl, rfl, _, rfl, _, _, rfl, ⟨by omega, by omega, by omega, by omega⟩, fun D nD => ?_⟩
      refine lc_range (fun j H2 => ∃ us, Same H1 H2 ∧ H2 D = some (.lst us) ∧ Ties H2 us (prow i j)) ⟨[], same_new nD, upd_same, trivial⟩ ?_ ?_
      · rintro j H2 hj ⟨us, sm2, eD, hU⟩
        refine ⟨rfl, yes ?_⟩
        refine ⟨_, rfl, _, rfl, by show 2 ≤ sizeLine; decide, fun t nt => ?_⟩
        have nDt : D ≠ t := ne_of_none eD nt
        refine ⟨us, by rw [upd_ne nDt]; exact eD, sz' (by rw [hU.len, prow_len]; omega), us ++ [.ref t], ?_, upd_same, ?_⟩
        · exact Same.put (sm2.trans (same_new nt)) nD
        · rw [prow_succ]
          have a1 : Tst (upd H2 t (.tup [.int (0 + (i : Int)), .int (0 + (i : Int) + 1 + (j : Int))])) (upd (upd H2 t (.tup [.int (0 + (i : Int)), .int (0 + (i : Int) + 1 + (j : Int))])) D (.lst (us ++ [.ref t]))) := tst_put (by rw [upd_ne nDt]; exact eD)
          refine ((hU.mono (tst_new nt)).mono a1).app (Ties.one ?_)
          rw [Int.zero_add] at a1 ⊢
          exact Tie.new.mono a1
      · rintro H2 ⟨us, sm2, eD, hU⟩
        have e : ((n : Int) - (0 + (i : Int) + 1)).toNat = n - (i + 1) := by omega
        rw [e] at hU
        have eo2 := sm2 _ _ eo
        have l1 := pup_len' hn (Nat.le_of_lt hi)
        refine ⟨o, D, vs, us, rfl, rfl, eo2, eD, sz (by rw [hT.len, hU.len, prow_len]; omega), ?_⟩
        refine ⟨vs ++ us, _, y3, rfl, Same.put (sm.trans sm2) no, upd_same, ?_⟩
        rw [pup_succ]
        exact ((hT.mono (Same.tst sm2)).app hU).mono (tst_put eo2)
    · rintro σ H1 ⟨vs, y2, y3, rfl, sm, eo, hT⟩
      rw [Int.toNat_natCast] at hT
      exact ⟨_, rfl, q o vs H1 no sm eo hT⟩

/-! ### _law_row -/
abbrev s__law_row : Stmt := topS 21
abbrev N__law_row : List Str := ["_law_left_here", "_law_many", "_law_row_here", "_law_k"]
theorem sc__law_row : FnScope N__law_row ["_law_left_here", "_law_many"] (defScope s__law_row) := ⟨rfl, rfl, rfl, by decide +kernel, rfl, by decide +kernel, by decide +kernel⟩
def sp_row : Sp := fun vs H Q _ => ∃ (L : Addr) (n : Nat) (c : Int), vs = [.ref L, .int (n : Int)] ∧ Lf H L c ∧ n ≤ 100 ∧ c < 2 ^ 49 ∧
  ∀ (p : Addr) (ns : List Int) (H' : Hp), H p = none → Fr L H H' → Lf H' L (c + n) → H' p = some (.lst (ns.map V.int)) → ns.Perm (up n) → Q (.ref p) H'
theorem ok_row {f : Addr} {fd : FuncData} (B : Bts mg) (F : Fun K "_law_row" "_law_row" s__law_row f fd) (c__law_pick : Cl P w K mg base 2 "_law_pick" sp_pick) :
    FnOk P w K mg base CX0 3 f fd ["_law_left_here", "_law_many"] sp_row := by
  refine F.ok sc__law_row (fun vs H Q E h => ?_) (fun cdv A outer s H vs Q E hr h => ?_)
  · obtain ⟨L, n, c, rfl, _⟩ := h; rfl
  · obtain ⟨L, n, c, rfl, hL, hn, hc, q⟩ := h
    refine ⟨_, (pss_cons (ps_set (i := 2) sc__law_row.nd rfl (by first | exact Or.inl rfl | exact Or.inr rfl) (pe_lst pa_nil))
    (pss_cons (ps_for PassesOwn.never rfl (pi_range1 (by rfl) B.range (pa_cons (pv 1) pa_nil)) (pg_name (i := 3) sc__law_row.nd rfl (by first | exact Or.inl rfl | exact Or.inr rfl))
      (pss_one (ps_expr (pe_bm PySem.F.plainAttrs_list PySem.F.slot_list_insert PySem.F.type_list_insert mt_insert (pv 2) (pa_cons (pe_c c__law_pick hr (by decide) (by rfl) (pa_cons (pv 0) (pa_cons (pe_op op_add (pv 3) pe_int) pa_nil))) (pa_cons (pv 3) pa_nil))))))
    (pss_one (ps_ret (pv 2))))), ?_⟩
    refine ⟨Nat.zero_le _, fun o no => ?_⟩
    refine ⟨_, rfl, _, rfl, by omega, by omega, ?_⟩
    refine for_range (fun i σ H1 => ∃ (ns : List Int) (y3 : Option V), σ = [some (.ref L), some (.int (n : Int)), some (.ref o), y3] ∧ Fr L H H1 ∧ Lf H1 L (c + i) ∧ H1 o = some (.lst (ns.map V.int)) ∧ ns.Perm (up i)) ⟨[], none, rfl, Fr.new no, (hL.new no).mono (by omega), upd_same, .refl _⟩ ?_ ?_
    · rintro i σ H1 hi ⟨ns, y3, rfl, fr, lf, eo, hp⟩
      have hi : i < n := by omega
      have no' : o ≠ L := hL.ne no
      refine ⟨_, rfl, .inl ⟨rfl, _, SqL.of eo⟩, ?_⟩
      refine ⟨_, rfl, _, rfl, _, _, rfl, rfl, ?_⟩
      refine ⟨L, _, c + i, rfl, lf, by omega, by omega, by omega, fun r H2 r0 r1 fr2 lf2 => ?_⟩
      refine ⟨_, rfl, ?_⟩
      have eo2 := fr2 _ _ no' eo
      refine ⟨o, _, _, _, rfl, rfl, eo2, sz' ?_, r0, by omega, ?_⟩
      · rw [List.length_map, hp.length_eq, up_len]; omega
      · refine ⟨ns.take r.toNat ++ [(i : Int)] ++ ns.drop r.toNat, _, rfl, ?_, ?_, ?_, ?_⟩
        · exact (fr.trans fr2).put no
        · exact (lf2.mono (by omega)).put no'
        · rw [upd_same, List.map_append, List.map_append, List.map_take, List.map_drop, Int.zero_add]; rfl
        · rw [up_succ]
          exact (ins_perm _ _ _).trans (hp.append_right _)
    · rintro σ H1 ⟨ns, y3, rfl, fr, lf, eo, hp⟩
      rw [Int.toNat_natCast] at lf hp
      exact ⟨_, rfl, q o ns H1 no fr lf eo hp⟩
end
end My

set_option Elab.async false
set_option linter.all false
set_option maxRecDepth 100000
namespace My
open PySem PySem.Spec PyProof.Rows L2
section
variable {P : Program} {w : World} {K : PySem.W.Frag} {mg : Str → Option Value} {base : Heap}

def sp_gen : Sp := fun vs H Q _ => ∃ (L : Addr) (n : Nat) (c : Int), vs = [.ref L, .int (n : Int)] ∧ Lf H L c ∧ n ≤ 12 ∧ c < 2 ^ 48 ∧
  ∀ (v : V) (H' : Hp) (ts : List (Int × Int)), Fr L H H' → Lf H' L (c + 100000) → Web H' v n ts → WOk n ts → Q v H'

/-! ### _law_any_web -/
abbrev s__law_any_web : Stmt := topS 20
abbrev N__law_any_web : List Str := ["_law_left_here", "_law_many", "_law_often", "_law_tie"]
theorem sc__law_any_web : FnScope N__law_any_web ["_law_left_here", "_law_many"] (defScope s__law_any_web) := ⟨rfl, rfl, rfl, by decide +kernel, rfl, by decide +kernel, by decide +kernel⟩
theorem often4 {r : Int} (h0 : 0 ≤ r) (h1 : r < 4) : ∃ o : Int, atI [V.int 2, V.int 3, V.int 5, V.int 8] r = some (.int o) ∧ 0 < o ∧ o < 100 := by
  have : r = 0 ∨ r = 1 ∨ r = 2 ∨ r = 3 := by omega
  rcases this with rfl | rfl | rfl | rfl
  · exact ⟨2, rfl, by decide, by decide⟩
  · exact ⟨3, rfl, by decide, by decide⟩
  · exact ⟨5, rfl, by decide, by decide⟩
  · exact ⟨8, rfl, by decide, by decide⟩
theorem ok_any_web {f : Addr} {fd : FuncData} (B : Bts mg) (F : Fun K "_law_any_web" "_law_any_web" s__law_any_web f fd) (c__law_pick : Cl P w K mg base 2 "_law_pick" sp_pick) (c__law_pairs : Cl P w K mg base 1 "_law_pairs" sp_pairs) :
    FnOk P w K mg base CX0 3 f fd ["_law_left_here", "_law_many"] sp_gen := by
  refine F.ok sc__law_any_web (fun vs H Q E h => ?_) (fun cdv A outer s H vs Q E hr h => ?_)
  · obtain ⟨L, n, c, rfl, _⟩ := h; rfl
  · obtain ⟨L, n, c, rfl, hL, hn, hc, q⟩ := h
    refine ⟨_, (pss_cons (ps_set (i := 2) sc__law_any_web.nd rfl (by first | exact Or.inl rfl | exact Or.inr rfl) (pe_ix ix_list (pe_lst (pa_cons pe_int (pa_cons pe_int (pa_cons pe_int (pa_cons pe_int pa_nil))))) (pe_c c__law_pick hr (by decide) (by rfl) (pa_cons (pv 0) (pa_cons pe_int pa_nil))) (fun _ _ => rfl)))
    (pss_one (ps_ret (pe_tup (pa_cons (pv 1) (pa_cons (pe_callTy call_tuple_of (by rfl) B.tuple (by decide +kernel) (pa_cons (pe_lc (own := [("_law_tie", 3)]) (g := (gName 3)) rfl sc__law_any_web.nd (pi_list (pe_c c__law_pairs hr (by decide) (by rfl) (pa_cons (pv 1) pa_nil))) (blkOk_by (own := [("_law_tie", 3)]) (N := N__law_any_web) (sc := defScope s__law_any_web) (by decide +kernel)) (fun _ _ _ _ _ => (pg_name (i := 3) sc__law_any_web.nd rfl (by first | exact Or.inl rfl | exact Or.inr rfl))) (fun _ _ _ _ _ => (pts_one (pt_cmpR op_eq (pe_cmpR op_eq (pe_c c__law_pick hr (by decide) (by rfl) (pa_cons (pv 0) (pa_cons (pv 2) pa_nil))) pe_int (nomark _)) (pe_cmpR op_lt (pv 2) pe_int (nomark _)) (nomark _)))) (fun _ _ _ _ _ => (pv 3))) pa_nil)) pa_nil)))))), ?_⟩
    refine ⟨by show 4 ≤ sizeLine; decide, fun o no => ?_⟩
    refine ⟨_, rfl, L, _, c, rfl, hL.new no, by decide, by decide, by omega, fun r H1 r0 r1 fr1 lf1 => ?_⟩
    obtain ⟨oft, e1, o1, o2⟩ := often4 r0 r1
    have eo : H1 o = some (.lst [V.int 2, V.int 3, V.int 5, V.int 8]) := fr1 _ _ (hL.ne no) upd_same
    refine ⟨o, _, _, _, rfl, rfl, SqL.of eo, e1, ?_⟩
    have frA : Fr L H H1 := (Fr.new no).trans fr1
    refine ⟨_, rfl, ?_⟩
    refine ⟨_, rfl, n, rfl, by omega, fun p vs H2 np sm2 ep hT => ?_⟩
    refine ⟨p, rfl, ⟨_, SqL.of ep⟩, fun D nD => ?_⟩
    have lf2 := lf1.same sm2
    have npL : p ≠ L := lf1.ne np
    have nDL : D ≠ L := lf2.ne nD
    refine lc_list (K := K) (a := p) (xs := vs) (fun i H3 => ∃ us sub, Fr L H2 H3 ∧ Lf H3 L (c + 1 + i) ∧ H3 D = some (.lst us) ∧ Ties H3 us sub ∧ sub.Sublist ((pup n n).take i)) ⟨[], [], Fr.new nD, (lf2.new nD).mono (by omega), upd_same, trivial, List.nil_sublist _⟩ ?_ ?_ ?_
    · rintro i H3 hi ⟨us, sub, fr3, lf3, eD, hU, hs⟩
      exact SqL.of (fr3 _ _ npL ep)
    · rintro i x H3 hx ⟨us, sub, fr3, lf3, eD, hU, hs⟩
      obtain ⟨t, ht, hxt⟩ := hT.at hx
      have hi : i < vs.length := (List.getElem?_eq_some_iff.mp hx).1
      have l1 := pup_len' (n := n) (i := n) (by omega) (Nat.le_refl n)
      have l2 := hT.len
      have tk : (pup n n).take (i + 1) = (pup n n).take i ++ [t] := by rw [List.take_add_one, ht]; rfl
      refine ⟨rfl, ?_⟩
      refine ⟨_, rfl, _, rfl, ?_⟩
      refine ⟨L, _, c + 1 + i, rfl, lf3, by omega, by omega, by omega, fun r H4 r0 r1 fr4 lf4 => ?_⟩
      have eD4 := fr4 _ _ nDL eD
      have a4 : Tst H3 H4 := lf3.tst fr4
      refine ⟨rfl, _, rfl, _, _, rfl, rfl, rfl, _, rfl, ite2 (fun e => ?_) (fun e => ?_)⟩
      · refine ⟨x, rfl, us, eD4, sz' (by rw [hU.len]; have := hs.length_le; rw [List.length_take] at this; omega), us ++ [x], sub ++ [t], ?_, ?_, upd_same, ?_, ?_⟩
        · exact (fr3.trans fr4).put nD
        · exact (lf4.mono (by omega)).put nDL
        · refine Ties.mono (tst_put eD4) ((hU.mono a4).app (Ties.one ?_))
          exact (hxt.mono (lf2.tst fr3)).mono a4
        · rw [tk]; exact hs.append (List.Sublist.refl _)
      · refine ⟨us, sub, fr3.trans fr4, lf4.mono (by omega), eD4, hU.mono a4, ?_⟩
        rw [tk]; exact hs.trans (List.sublist_append_left _ _)
    · rintro H3 ⟨us, sub, fr3, lf3, eD, hU, hs⟩
      have l1 := pup_len' (n := n) (i := n) (by omega) (Nat.le_refl n)
      have l2 := hT.len
      refine ⟨D, us, rfl, .inl ⟨SqL.of eD, fun t nt => ?_⟩⟩
      refine ⟨by show 2 ≤ sizeLine; decide, fun u nu => ?_⟩
      refine q _ _ sub ?_ ?_ ⟨u, t, us, rfl, upd_same, ?_, ?_⟩ ?_
      · exact (frA.trans ((Fr.of sm2).trans fr3)).trans ((Fr.new nt).trans (Fr.new nu))
      · exact ((lf3.mono (by omega)).new nt).new nu
      · rw [upd_ne (ne_of_none upd_same nu)]; exact upd_same
      · exact (hU.mono (tst_new nt)).mono (tst_new nu)
      · exact wok_sub (hs.trans (List.take_sublist _ _))
end
end My

set_option Elab.async false
set_option linter.all false
set_option maxRecDepth 100000
namespace My
open PySem PySem.Spec PyProof.Rows L2
section
variable {P : Program} {w : World} {K : PySem.W.Frag} {mg : Str → Option Value} {base : Heap}

/-- rows of all places, each a list of its own, none of them at one of two places -/
def Rws (H : Hp) (n : Nat) (L D : Addr) (vs : List V) : Prop :=
  ∀ v ∈ vs, ∃ (p : Addr) (ns : List Int), v = .ref p ∧ p ≠ L ∧ p ≠ D ∧ H p = some (.lst (ns.map V.int)) ∧ ns.Perm (up n)

/-! ### _law_row_web -/
abbrev s__law_row_web : Stmt := topS 22
abbrev N__law_row_web : List Str := ["_law_left_here", "_law_many", "_law_rows", "_law_k", "_law_ties", "_law_a", "_law_b", "_law_ahead", "_law_row_here"]
theorem sc__law_row_web : FnScope N__law_row_web ["_law_left_here", "_law_many"] (defScope s__law_row_web) := ⟨rfl, rfl, rfl, by decide +kernel, rfl, by decide +kernel, by decide +kernel⟩
theorem ok_row_web {f : Addr} {fd : FuncData} (B : Bts mg) (F : Fun K "_law_row_web" "_law_row_web" s__law_row_web f fd) (c__law_pick : Cl P w K mg base 2 "_law_pick" sp_pick) (c__law_row : Cl P w K mg base 3 "_law_row" sp_row) :
    FnOk P w K mg base CX0 4 f fd ["_law_left_here", "_law_many"] sp_gen := by
  refine F.ok sc__law_row_web (fun vs H Q E h => ?_) (fun cdv A outer s H vs Q E hr h => ?_)
  · obtain ⟨L, n, c, rfl, _⟩ := h; rfl
  · obtain ⟨L, n, c, rfl, hL, hn, hc, q⟩ := h
    refine ⟨_, (pss_cons (ps_setLc (i := 2) (own := [("_law_k", 3)]) (g := (gName 3)) (tt := tYes) rfl sc__law_row_web.nd rfl rfl (sw_true rfl rfl rfl (by decide +kernel)) (pi_range1 (by rfl) B.range (pa_cons (pe_op op_add pe_int (pe_c c__law_pick hr (by decide) (by rfl) (pa_cons (pv 0) (pa_cons pe_int pa_nil)))) pa_nil)) (blkOk_by (own := [("_law_k", 3)]) (N := N__law_row_web) (sc := defScope s__law_row_web) (by decide +kernel)) (fun _ _ _ _ _ => (pg_name (i := 3) sc__law_row_web.nd rfl (by first | exact Or.inl rfl | exact Or.inr rfl))) (fun _ _ _ _ _ => pts_nil) (fun _ _ _ _ _ => (pe_c c__law_row hr (by decide) (by rfl) (pa_cons (pv 0) (pa_cons (pv 1) pa_nil)))))
    (pss_cons (ps_set (i := 4) sc__law_row_web.nd rfl (by first | exact Or.inl rfl | exact Or.inr rfl) (pe_lst pa_nil))
    (pss_cons (ps_for PassesOwn.never rfl (pi_range1 (by rfl) B.range (pa_cons (pv 1) pa_nil)) (pg_name (i := 5) sc__law_row_web.nd rfl (by first | exact Or.inl rfl | exact Or.inr rfl))
      (pss_one (ps_for PassesOwn.never rfl (pi_range2 (by rfl) B.range (pa_cons (pe_op op_add (pv 5) pe_int) (pa_cons (pv 1) pa_nil))) (pg_name (i := 6) sc__law_row_web.nd rfl (by first | exact Or.inl rfl | exact Or.inr rfl))
        (pss_cons (ps_setLc (i := 7) (own := [("_law_row_here", 8)]) (g := (gName 8)) (tt := tYes) (te := (tOp _ (tBM K "list" (rIndex K) _ _) (tBM K "list" (rIndex K) _ _))) rfl sc__law_row_web.nd rfl rfl (sw_true rfl rfl rfl (by decide +kernel)) (pi_list (pv 2)) (blkOk_by (own := [("_law_row_here", 8)]) (N := N__law_row_web) (sc := defScope s__law_row_web) (by decide +kernel)) (fun _ _ _ _ _ => (pg_name (i := 8) sc__law_row_web.nd rfl (by first | exact Or.inl rfl | exact Or.inr rfl))) (fun _ _ _ _ _ => pts_nil) (fun _ _ _ _ _ => (pe_cmpR op_lt (pe_bm PySem.F.plainAttrs_list PySem.F.slot_list_index PySem.F.type_list_index mt_index (pv 8) (pa_cons (pv 5) pa_nil)) (pe_bm PySem.F.plainAttrs_list PySem.F.slot_list_index PySem.F.type_list_index mt_index (pv 8) (pa_cons (pv 6) pa_nil)) (nomark _))))
        (pss_one (ps_if (PW.pt (pw_or (pt_val (pe_callB (cr_all rfl) (by rfl) B.all (by decide +kernel) (pa_cons (pv 7) pa_nil))) (pw_or1 (pt_not (pt_val (pe_callB (cr_any rfl) (by rfl) B.any (by decide +kernel) (pa_cons (pv 7) pa_nil))))))) (pss_one (ps_expr (pe_bm PySem.F.plainAttrs_list PySem.F.slot_list_append PySem.F.type_list_append mt_append (pv 4) (pa_cons (pe_tup (pa_cons (pv 5) (pa_cons (pv 6) pa_nil))) pa_nil)))) pss_nil))))))
    (pss_one (ps_ret (pe_tup (pa_cons (pv 1) (pa_cons (pe_callTy call_tuple_of (by rfl) B.tuple (by decide +kernel) (pa_cons (pv 4) pa_nil)) pa_nil)))))))), ?_⟩
    refine ⟨_, rfl, L, _, c, rfl, hL, by decide, by decide, by omega, fun r H1 r0 r1 fr1 lf1 => ?_⟩
    refine ⟨_, _, rfl, rfl, _, rfl, by omega, by omega, fun D nD => ?_⟩
    have nDL : D ≠ L := lf1.ne nD
    refine lc_range (fun i H2 => ∃ vs, Fr L H1 H2 ∧ Lf H2 L (c + 1 + 12 * i) ∧ H2 D = some (.lst vs) ∧ vs.length = i ∧ Rws H2 n L D vs) ⟨[], Fr.new nD, (lf1.new nD).mono (by omega), upd_same, rfl, fun v hv => by cases hv⟩ ?_ ?_
    · rintro i H2 hi ⟨vs, fr2, lf2, eD, hl, hR⟩
      refine ⟨rfl, yes ?_⟩
      refine ⟨_, rfl, _, rfl, ?_⟩
      refine ⟨L, n, _, rfl, lf2, by omega, by omega, fun p ns H3 np fr3 lf3 ep hp => ?_⟩
      have eD3 := fr3 _ _ nDL eD
      refine ⟨vs, eD3, sz' (by omega), vs ++ [.ref p], (fr2.trans fr3).put nD, (lf3.mono (by omega)).put nDL, upd_same, by rw [List.length_append, hl]; rfl, ?_⟩
      intro v hv
      rcases List.mem_append.mp hv with hv | hv
      · obtain ⟨p', ns', e, h1, h2, h3, h4⟩ := hR v hv
        exact ⟨p', ns', e, h1, h2, by rw [upd_ne h2]; exact fr3 _ _ h1 h3, h4⟩
      · rw [List.mem_singleton] at hv
        have npD : p ≠ D := fun e => by rw [e, eD] at np; cases np
        exact ⟨p, ns, hv, lf2.ne np, npD, by rw [upd_ne npD]; exact ep, hp⟩
    · rintro H2 ⟨rows, fr2, lf2, eD, hl, hR⟩
      have lf2' : Lf H2 L (c + 1000) := lf2.mono (by omega)
      have frA : Fr L H H2 := fr1.trans fr2
      refine ⟨Nat.zero_le _, fun o no => ?_⟩
      refine ⟨_, rfl, _, rfl, by omega, by omega, ?_⟩
      refine for_range (fun i σ H3 => ∃ (vs : List V) (sub : List (Int × Int)) (y3 y5 y6 y7 y8 : Option V), σ = [some (.ref L), some (.int (n : Int)), some (.ref D), y3, some (.ref o), y5, y6, y7, y8] ∧ Same H2 H3 ∧ H3 o = some (.lst vs) ∧ Ties H3 vs sub ∧ sub.Sublist (pup n i))
        ⟨[], [], none, none, none, none, none, rfl, same_new no, upd_same, trivial, List.nil_sublist _⟩ ?_ ?_
      · rintro i σ H3 hi ⟨vs, sub, y3, y5, y6, y7, y8, rfl, sm3, eo, hT, hS⟩
        have hi : i < n := by omega
        refine ⟨_, rfl, _, _, rfl, rfl, _, rfl, _, _, rfl, ⟨by omega, by omega, by omega, by omega⟩, ?_⟩
        refine for_range (fun j σ H4 => ∃ (vs : List V) (sub : List (Int × Int)) (y3 y6 y7 y8 : Option V), σ = [some (.ref L), some (.int (n : Int)), some (.ref D), y3, some (.ref o), some (.int (i : Int)), y6, y7, y8] ∧ Same H2 H4 ∧ H4 o = some (.lst vs) ∧ Ties H4 vs sub ∧ sub.Sublist (pup n i ++ prow i j))
          ⟨vs, sub, y3, y6, y7, y8, by rw [Int.zero_add]; rfl, sm3, eo, hT, by exact (List.append_nil (pup n i)).symm ▸ hS⟩ ?_ ?_
        · rintro j σ H4 hj ⟨vs, sub, y3, y6, y7, y8, rfl, sm4, eo4, hT4, hS4⟩
          have hj : j < n - (i + 1) := by omega
          refine ⟨_, rfl, D, rfl, ⟨_, SqL.of (sm4 _ _ eD)⟩, fun D2 nD2 => ?_⟩
          refine lc_list (K := K) (a := D) (xs := rows) (fun m H5 => ∃ bs : List Bool, Same H4 H5 ∧ H5 D2 = some (.lst (bs.map V.bl)) ∧ bs.length = m) ⟨[], same_new nD2, upd_same, rfl⟩ ?_ ?_ ?_
          · rintro m H5 _ ⟨bs, sm5, _⟩
            exact SqL.of (sm5 _ _ (sm4 _ _ eD))
          · rintro m x H5 hx ⟨bs, sm5, eD2, hb⟩
            have hm : m < rows.length := (List.getElem?_eq_some_iff.mp hx).1
            have hxm : x ∈ rows := List.mem_of_getElem? hx
            obtain ⟨p, ns, rfl, h1, h2, h3, h4⟩ := hR x hxm
            have ep := sm5 _ _ (sm4 _ _ h3)
            have ha : (i : Int) ∈ ns := h4.mem_iff.mpr (mem_up.mpr ⟨by omega, by omega⟩)
            have hb2 : (0 + (i : Int) + 1 + (j : Int)) ∈ ns := h4.mem_iff.mpr (mem_up.mpr ⟨by omega, by omega⟩)
            refine ⟨rfl, yes ?_⟩
            refine ⟨_, rfl, .inl ⟨rfl, _, SqL.of ep⟩, _, rfl, ?_⟩
            refine ⟨p, _, _, _, _, rfl, rfl, SqL.of ep, rfl, all_flat ns, idx_at ha, by simp [eqV], idx_first, ?_⟩
            refine ⟨_, rfl, .inl ⟨rfl, _, SqL.of ep⟩, _, rfl, ?_⟩
            refine ⟨p, _, _, _, _, rfl, rfl, SqL.of ep, rfl, all_flat ns, idx_at hb2, by simp [eqV], idx_first, ?_⟩
            refine ⟨_, _, rfl, rfl, ?_⟩
            refine ⟨_, eD2, sz' (by rw [List.length_map, hb]; omega), bs ++ [decide (((ns.idxOf (i : Int) : Nat) : Int) < ((ns.idxOf (0 + (i : Int) + 1 + (j : Int)) : Nat) : Int))], Same.put sm5 nD2, ?_, by rw [List.length_append, hb]; rfl⟩
            rw [upd_same, List.map_append]; rfl
          · rintro H5 ⟨bs, sm5, eD2, hb⟩
            have eo5 := sm5 _ _ eo4
            have sm25 : Same H2 H5 := sm4.trans sm5
            have skip : ∃ (vs : List V) (sub : List (Int × Int)) (z3 z6 z7 z8 : Option V), ((([some (V.ref L), some (.int (n : Int)), some (.ref D), y3, some (.ref o), some (.int (i : Int)), y6, y7, y8]).set 6 (some (.int (0 + (i : Int) + 1 + (j : Int))))).set 7 (some (.ref D2))) = [some (.ref L), some (.int (n : Int)), some (.ref D), z3, some (.ref o), some (.int (i : Int)), z6, z7, z8] ∧ Same H2 H5 ∧ H5 o = some (.lst vs) ∧ Ties H5 vs sub ∧ sub.Sublist (pup n i ++ prow i (j + 1)) :=
              ⟨vs, sub, y3, _, _, y8, rfl, sm25, eo5, hT4.mono (Same.tst sm5), by
                rw [prow_succ, ← List.append_assoc]; exact hS4.trans (List.sublist_append_left _ _)⟩
            have l1 := pup_len' (n := n) (i := i) (by omega) (by omega)
            have l2 := hS4.length_le
            rw [List.length_append, prow_len] at l2
            have take : tDrop (tBM K "list" rAppend (tVar 4) (tCons (tTup (tCons (tVar 5) (tCons (tVar 6) tNil))) tNil)) { nx := fun σ H5 => ∃ (vs : List V) (sub : List (Int × Int)) (y3 y6 y7 y8 : Option V), σ = [some (.ref L), some (.int (n : Int)), some (.ref D), y3, some (.ref o), some (.int (i : Int)), y6, y7, y8] ∧ Same H2 H5 ∧ H5 o = some (.lst vs) ∧ Ties H5 vs sub ∧ sub.Sublist (pup n i ++ prow i (j + 1)), rt := Q } ((([some (V.ref L), some (.int (n : Int)), some (.ref D), y3, some (.ref o), some (.int (i : Int)), y6, y7, y8]).set 6 (some (.int (0 + (i : Int) + 1 + (j : Int))))).set 7 (some (.ref D2))) H5 := by
              refine ⟨_, rfl, .inl ⟨rfl, _, SqL.of eo5⟩, ?_⟩
              refine ⟨_, rfl, _, rfl, by show 2 ≤ sizeLine; decide, fun t nt => ?_⟩
              have eo6 : (upd H5 t (.tup [.int (i : Int), .int (0 + (i : Int) + 1 + (j : Int))])) o = some (.lst vs) := by
                rw [upd_ne (ne_of_none eo5 nt)]; exact eo5
              refine ⟨o, _, _, rfl, rfl, eo6, sz' (by rw [hT4.len]; omega), ?_⟩
              refine ⟨vs ++ [.ref t], sub ++ [((i : Int), (i : Int) + 1 + (j : Int))], y3, _, _, y8, rfl, Same.put (sm25.trans (same_new nt)) no, upd_same, ?_, ?_⟩
              · have a5 := Same.tst sm5
                refine Ties.mono (tst_put eo6) (((hT4.mono a5).mono (tst_new nt)).app (Ties.one ?_))
                rw [Int.zero_add]
                exact Tie.new
              · rw [prow_succ, ← List.append_assoc]; exact hS4.append (List.Sublist.refl _)
            refine ⟨_, rfl, D2, bs, rfl, SqL.of eD2, _, rfl, ite2 (fun e => ?_) (fun e => ?_)⟩
            · exact iteT take
            · refine ⟨_, rfl, D2, bs, rfl, SqL.of eD2, _, rfl, ite2 (fun e => ?_) (fun e => ?_)⟩
              · exact take
              · exact skip
        · rintro σ H4 ⟨vs, sub, y3, y6, y7, y8, rfl, sm4, eo4, hT4, hS4⟩
          have e : ((n : Int) - (0 + (i : Int) + 1)).toNat = n - (i + 1) := by omega
          rw [e, ← pup_succ] at hS4
          exact ⟨vs, sub, y3, _, y6, y7, y8, rfl, sm4, eo4, hT4, hS4⟩
      · rintro σ H3 ⟨vs, sub, y3, y5, y6, y7, y8, rfl, sm3, eo, hT, hS⟩
        rw [Int.toNat_natCast] at hS
        refine ⟨_, rfl, _, rfl, o, vs, rfl, .inl ⟨SqL.of eo, fun t nt => ?_⟩⟩
        refine ⟨by show 2 ≤ sizeLine; decide, fun u nu => ?_⟩
        refine q _ _ sub ?_ ?_ ⟨u, t, vs, rfl, upd_same, ?_, ?_⟩ (wok_sub hS)
        · exact (frA.trans (Fr.of sm3)).trans ((Fr.new nt).trans (Fr.new nu))
        · exact ((((lf2'.same sm3)).mono (by omega)).new nt).new nu
        · rw [upd_ne (ne_of_none upd_same nu)]; exact upd_same
        · exact (hT.mono (tst_new nt)).mono (tst_new nu)
end
end My

set_option Elab.async false
set_option linter.all false
set_option maxRecDepth 100000
namespace My
open PySem PySem.Spec PyProof.Rows L2
section
variable {P : Program} {w : World} {K : PySem.W.Frag} {mg : Str → Option Value} {base : Heap}

/-! ### _law_ring_web -/
abbrev s__law_ring_web : Stmt := topS 23
abbrev N__law_ring_web : List Str := ["_law_left_here", "_law_many", "_law_row_here", "_law_ties", "_law_k", "_law_tie"]
theorem sc__law_ring_web : FnScope N__law_ring_web ["_law_left_here", "_law_many"] (defScope s__law_ring_web) := ⟨rfl, rfl, rfl, by decide +kernel, rfl, by decide +kernel, by decide +kernel⟩
theorem ok_ring_web {f : Addr} {fd : FuncData} (B : Bts mg) (F : Fun K "_law_ring_web" "_law_ring_web" s__law_ring_web f fd) (c__law_pick : Cl P w K mg base 2 "_law_pick" sp_pick) (c__law_row : Cl P w K mg base 3 "_law_row" sp_row) (c__law_pairs : Cl P w K mg base 1 "_law_pairs" sp_pairs) :
    FnOk P w K mg base CX0 4 f fd ["_law_left_here", "_law_many"] sp_gen := by
  refine F.ok sc__law_ring_web (fun vs H Q E h => ?_) (fun cdv A outer s H vs Q E hr h => ?_)
  · obtain ⟨L, n, c, rfl, _⟩ := h; rfl
  · obtain ⟨L, n, c, rfl, hL, hn, hc, q⟩ := h
    refine ⟨_, (pss_cons (ps_set (i := 2) sc__law_ring_web.nd rfl (by first | exact Or.inl rfl | exact Or.inr rfl) (pe_c c__law_row hr (by decide) (by rfl) (pa_cons (pv 0) (pa_cons (pv 1) pa_nil))))
    (pss_cons (ps_set (i := 3) sc__law_ring_web.nd rfl (by first | exact Or.inl rfl | exact Or.inr rfl) (pe_callB cr_sortedPO (by rfl) B.sorted (by decide +kernel) (pa_cons (pe_lc (own := [("_law_k", 4)]) (g := (gName 4)) (tt := tYes) (te := (tCB (rTupK K) (tCons (tCB (rSortedI K) (tCons (tLst (tCons (tOp (rIxL K) _ _) (tCons (tOp (rIxL K) _ _) tNil))) tNil)) tNil))) rfl sc__law_ring_web.nd (pi_range1 (by rfl) B.range (pa_cons (pv 1) pa_nil)) (blkOk_by (own := [("_law_k", 4)]) (N := N__law_ring_web) (sc := defScope s__law_ring_web) (by decide +kernel)) (fun _ _ _ _ _ => (pg_name (i := 4) sc__law_ring_web.nd rfl (by first | exact Or.inl rfl | exact Or.inr rfl))) (fun _ _ _ _ _ => pts_nil) (fun _ _ _ _ _ => (pe_callTy call_tuple_of (by rfl) B.tuple (by decide +kernel) (pa_cons (pe_callB cr_sortedI (by rfl) B.sorted (by decide +kernel) (pa_cons (pe_lst (pa_cons (pe_ix ix_list (pv 2) (pe_op op_sub (pv 4) pe_int) (fun _ _ => rfl)) (pa_cons (pe_ix ix_list (pv 2) (pv 4) (fun _ _ => rfl)) pa_nil))) pa_nil)) pa_nil)))) pa_nil)))
    (pss_cons (ps_if (PW.pt (pw_or (pt_cmpR op_lt (pv 1) pe_int (nomark _)) (pw_or1 (pt_cmpR op_gt (pe_c c__law_pick hr (by decide) (by rfl) (pa_cons (pv 0) (pa_cons pe_int pa_nil))) pe_int (nomark _))))) (pss_one (ps_ret (pe_tup (pa_cons (pv 1) (pa_cons (pe_callTy call_tuple_of (by rfl) B.tuple (by decide +kernel) (pa_cons (pe_callB (cr_sortedT rfl) (by rfl) B.sorted (by decide +kernel) (pa_cons (pe_callTy (cr_setOfT rfl hr.units) (by rfl) B.set (by decide +kernel) (pa_cons (pe_lc (own := [("_law_tie", 5)]) (g := (gName 5)) (tt := (tTest (tOp _ (tOp (rIxT K) _ _) (tOp (rIxT K) _ _)))) rfl sc__law_ring_web.nd (pi_list (pv 3)) (blkOk_by (own := [("_law_tie", 5)]) (N := N__law_ring_web) (sc := defScope s__law_ring_web) (by decide +kernel)) (fun _ _ _ _ _ => (pg_name (i := 5) sc__law_ring_web.nd rfl (by first | exact Or.inl rfl | exact Or.inr rfl))) (fun _ _ _ _ _ => (pts_one (pt_cmpR op_lt (pe_ix ix_tup (pv 5) pe_int (fun _ _ => rfl)) (pe_ix ix_tup (pv 5) pe_int (fun _ _ => rfl)) (nomark _)))) (fun _ _ _ _ _ => (pv 5))) pa_nil)) pa_nil)) pa_nil)) pa_nil))))) pss_nil)
    (pss_one (ps_ret (pe_tup (pa_cons (pv 1) (pa_cons (pe_callTy call_tuple_of (by rfl) B.tuple (by decide +kernel) (pa_cons (pe_lc (own := [("_law_tie", 5)]) (g := (gName 5)) (tt := (tTest (tOp (rNotInD K) _ _))) rfl sc__law_ring_web.nd (pi_list (pe_c c__law_pairs hr (by decide) (by rfl) (pa_cons (pv 1) pa_nil))) (blkOk_by (own := [("_law_tie", 5)]) (N := N__law_ring_web) (sc := defScope s__law_ring_web) (by decide +kernel)) (fun _ _ _ _ _ => (pg_name (i := 5) sc__law_ring_web.nd rfl (by first | exact Or.inl rfl | exact Or.inr rfl))) (fun _ _ _ _ _ => (pts_one (pt_cmpR (op_notInD (u65 hr)) (pv 5) (pv 3) (by rfl)))) (fun _ _ _ _ _ => (pv 5))) pa_nil)) pa_nil)))))))), ?_⟩
    refine ⟨_, rfl, _, rfl, L, n, c, rfl, hL, by omega, by omega, fun rw ns H1 nrw fr1 lf1 erw hp => ?_⟩
    have hnl : ns.length = n := by rw [hp.length_eq, up_len]
    refine ⟨_, rfl, _, rfl, by omega, by omega, fun D nD => ?_⟩
    refine lc_range (fun i H2 => ∃ us ts, Same H1 H2 ∧ H2 D = some (.lst us) ∧ Ties H2 us ts ∧ ts.length = i ∧ ∀ t ∈ ts, 0 ≤ t.1 ∧ t.1 ≤ t.2 ∧ t.2 < (n : Int)) ⟨[], [], same_new nD, upd_same, trivial, rfl, fun _ h => by cases h⟩ ?_ ?_
    · rintro i H2 hi ⟨us, ts, sm2, eD, hT, hl, hb⟩
      have hi : i < n := by omega
      have er2 := sm2 _ _ erw
      obtain ⟨x, ex, mx⟩ := at_mem (ns := ns) (j := 0 + (i : Int) - 1) (by omega) (by omega)
      obtain ⟨y, ey, my⟩ := at_mem (ns := ns) (j := 0 + (i : Int)) (by omega) (by omega)
      have bx := mem_up.mp (hp.mem_iff.mp mx)
      have bY := mem_up.mp (hp.mem_iff.mp my)
      refine ⟨rfl, yes ?_⟩
      refine ⟨_, rfl, _, rfl, _, _, rfl, rfl, rw, _, _, _, rfl, rfl, SqL.of er2, ex, ?_⟩
      refine ⟨_, rfl, _, rfl, rw, _, _, _, rfl, rfl, SqL.of er2, ey, ?_⟩
      refine ⟨by show 2 ≤ sizeLine; decide, fun l nl => ?_⟩
      refine ⟨l, [x, y], rfl, SqL.of upd_same, fun ns' p2 pm srt np2 => ?_⟩
      have e2 := perm2 pm srt
      subst e2
      refine ⟨p2, _, rfl, .inl ⟨SqL.of upd_same, fun t nt => ?_⟩⟩
      have s1 : Same H2 (upd H2 l (.lst [.int x, .int y])) := same_new nl
      have s2 := s1.trans (same_new (o := .lst (([if x ≤ y then x else y, if x ≤ y then y else x]).map V.int)) np2)
      have s3 := s2.trans (same_new (o := .tup (([if x ≤ y then x else y, if x ≤ y then y else x]).map V.int)) nt)
      refine ⟨us, s3 _ _ eD, sz' (by rw [hT.len]; omega), us ++ [.ref t], ts ++ [(if x ≤ y then x else y, if x ≤ y then y else x)], ?_, upd_same, ?_, by rw [List.length_append, hl]; rfl, ?_⟩
      · exact Same.put (sm2.trans s3) nD
      · refine Ties.mono (tst_put (s3 _ _ eD)) ((hT.mono (Same.tst s3)).app (Ties.one ?_))
        exact Tie.new
      · intro t' ht'
        rcases List.mem_append.mp ht' with h | h
        · exact hb t' h
        · rw [List.mem_singleton.mp h]
          dsimp only
          split <;> omega
    · rintro H2 ⟨us, ts, sm2, eD, hT, hl, hb⟩
      rw [Int.toNat_natCast] at hl
      refine ⟨D, us, My.key H2, rfl, SqL.of eD, hT.all, fun ys p hs hst np => ?_⟩
      obtain ⟨ts', hT', pm', _⟩ := srt_ties hs hst.perm hT
      have s3 : Same H2 (upd H2 p (.lst ys)) := same_new np
      have hT3 := hT'.mono (Same.tst s3)
      have ep : (upd H2 p (.lst ys)) p = some (.lst ys) := upd_same
      have hb' : ∀ t ∈ ts', 0 ≤ t.1 ∧ t.1 ≤ t.2 ∧ t.2 < (n : Int) := fun t ht => hb t (pm'.mem_iff.mp ht)
      have hl' : ts'.length = n := by rw [pm'.length_eq, hl]
      have fr3 : Fr L H (upd H2 p (.lst ys)) := fr1.trans ((Fr.of sm2).trans (Fr.of s3))
      have lf3 : Lf (upd H2 p (.lst ys)) L (c + 100) := ((lf1.same sm2).same s3).mono (by omega)
      have npL : p ≠ L := (lf1.same sm2).ne np
      generalize upd H2 p (.lst ys) = H3 at *
      apply two (fun H4 => Fr L H3 H4 ∧ Lf H4 L (c + 200))
      · intro ret
        refine ⟨_, rfl, _, _, rfl, rfl, _, rfl, ite2 (fun e => iteT (ret H3 ⟨Fr.refl _ _, lf3.mono (by omega)⟩)) (fun e => ?_)⟩
        refine ⟨_, rfl, L, _, c + 100, rfl, lf3, by decide, by decide, by omega, fun r H4 r0 r1 fr4 lf4 => ?_⟩
        refine ⟨_, _, rfl, rfl, _, rfl, ite2 (fun e => ret H4 ⟨fr4, lf4.mono (by omega)⟩) (fun e => ?_)⟩
        -- all pairs but those
        have ep4 := fr4 _ _ npL ep
        have hT4 := hT3.mono (lf3.tst fr4)
        refine ⟨_, rfl, ?_⟩
        refine ⟨_, rfl, n, rfl, by omega, fun p5 vs H5 np5 sm5 ep5 hV => ?_⟩
        refine ⟨p5, rfl, ⟨_, SqL.of ep5⟩, fun D5 nD5 => ?_⟩
        refine lc_list (K := K) (a := p5) (xs := vs) (fun i H6 => ∃ us sub, Same H5 H6 ∧ H6 D5 = some (.lst us) ∧ Ties H6 us sub ∧ sub.Sublist ((pup n n).take i)) ⟨[], [], same_new nD5, upd_same, trivial, List.nil_sublist _⟩ ?_ ?_ ?_
        · rintro i H6 hi ⟨us, sub, sm6, _⟩
          exact SqL.of (sm6 _ _ ep5)
        · rintro i x H6 hx ⟨us, sub, sm6, eD6, hU, hsub⟩
          obtain ⟨t, ht, hxt⟩ := hV.at hx
          have l1 := pup_len' (n := n) (i := n) (by omega) (Nat.le_refl n)
          have tk : (pup n n).take (i + 1) = (pup n n).take i ++ [t] := by rw [List.take_add_one, ht]; rfl
          have x6 := hxt.mono (Same.tst sm6)
          have hT6 := hT4.mono (Same.tst (sm5.trans sm6))
          have ep6 := sm6 _ _ (sm5 _ _ ep4)
          refine ⟨rfl, ?_⟩
          refine ⟨_, rfl, _, rfl, dT t, ts'.map dT, x6.dp, .lst (SqL.of ep6) hT6.dp, shaped_dT t, shaped_ties ts', _, rfl, ite2 (fun e => ?_) (fun e => ?_)⟩
          · refine ⟨x, rfl, us, eD6, sz' (by rw [hU.len]; have := hsub.length_le; rw [List.length_take] at this; omega), us ++ [x], sub ++ [t], Same.put sm6 nD5, upd_same, ?_, ?_⟩
            · exact Ties.mono (tst_put eD6) (hU.app (Ties.one x6))
            · rw [tk]; exact hsub.append (List.Sublist.refl _)
          · refine ⟨us, sub, sm6, eD6, hU, ?_⟩
            rw [tk]; exact hsub.trans (List.sublist_append_left _ _)
        · rintro H6 ⟨us, sub, sm6, eD6, hU, hsub⟩
          refine ⟨D5, us, rfl, .inl ⟨SqL.of eD6, fun t nt => ?_⟩⟩
          refine ⟨by show 2 ≤ sizeLine; decide, fun u nu => ?_⟩
          refine q _ _ sub ?_ ?_ ⟨u, t, us, rfl, upd_same, ?_, ?_⟩ ?_
          · exact ((fr3.trans fr4).trans (Fr.of (sm5.trans sm6))).trans ((Fr.new nt).trans (Fr.new nu))
          · exact ((((lf4.same (sm5.trans sm6))).mono (by omega)).new nt).new nu
          · rw [upd_ne (ne_of_none upd_same nu)]; exact upd_same
          · exact (hU.mono (tst_new nt)).mono (tst_new nu)
          · exact wok_sub (hsub.trans (List.take_sublist _ _))
      · rintro H4 ⟨fr4, lf4⟩
        have ep4 := fr4 _ _ npL ep
        have hT4 := hT3.mono (lf3.tst fr4)
        refine ⟨_, rfl, ?_⟩
        refine ⟨_, rfl, p, rfl, ⟨_, SqL.of ep4⟩, fun D5 nD5 => ?_⟩
        refine lc_list (K := K) (a := p) (xs := ys) (fun i H6 => ∃ us sub, Same H4 H6 ∧ H6 D5 = some (.lst us) ∧ Ties H6 us sub ∧ sub.length ≤ i ∧ ∀ t ∈ sub, 0 ≤ t.1 ∧ t.1 < t.2 ∧ t.2 < (n : Int)) ⟨[], [], same_new nD5, upd_same, trivial, Nat.le_refl _, fun _ h => by cases h⟩ ?_ ?_ ?_
        · rintro i H6 hi ⟨us, sub, sm6, _⟩
          exact SqL.of (sm6 _ _ ep4)
        · rintro i x H6 hx ⟨us, sub, sm6, eD6, hU, hsl, hsub⟩
          obtain ⟨t, ht, hxt⟩ := hT4.at hx
          have bt := hb' t (List.mem_of_getElem? ht)
          have hi : i < ys.length := (List.getElem?_eq_some_iff.mp hx).1
          have hyl := hT4.len
          have x6 := hxt.mono (Same.tst sm6)
          obtain ⟨px, rfl, epx⟩ := x6
          refine ⟨rfl, ?_⟩
          refine ⟨_, rfl, px, _, _, _, rfl, rfl, SqT.of epx, rfl, ?_⟩
          refine ⟨_, rfl, px, _, _, _, rfl, rfl, SqT.of epx, rfl, ?_⟩
          refine ⟨_, _, rfl, rfl, _, rfl, ite2 (fun e => ?_) (fun e => ?_)⟩
          · have e := of_decide_eq_true e
            refine ⟨_, rfl, us, eD6, sz' (by rw [hU.len]; omega), us ++ [.ref px], sub ++ [t], Same.put sm6 nD5, upd_same, ?_, ?_, ?_⟩
            · exact Ties.mono (tst_put eD6) (hU.app (Ties.one ⟨px, rfl, epx⟩))
            · rw [List.length_append]; exact Nat.succ_le_succ hsl
            · intro t' h'
              rcases List.mem_append.mp h' with h' | h'
              · exact hsub t' h'
              · rw [List.mem_singleton.mp h']; omega
          · exact ⟨us, sub, sm6, eD6, hU, by omega, hsub⟩
        · rintro H6 ⟨us, sub, sm6, eD6, hU, hsl, hsub⟩
          have hyl := hT4.len
          obtain ⟨ks, e1, e2, e3⟩ := hU.addr
          subst e1
          have kl : ks.length < 64 := by
            have := congrArg List.length e3
            rw [List.length_map] at this
            omega
          refine ⟨D5, ks, rfl, SqL.of eD6, fun p hp => SqT.of (e2 p hp).1, kl, fun a S na hS1 hS2 => ?_⟩
          have s7 : Same H6 (upd H6 a (SetTO P w a S)) := same_new na
          refine ⟨a, S, 2, 64, rfl, upd_same, fun p hp => SqT.of (s7 _ _ (e2 p (hS1 p hp)).1), by decide, fun p hp => ?_, fun L' p8 pm nd lt64 cd np8 => ?_⟩
          · obtain ⟨_, t, ht, et⟩ := e2 p (hS1 p hp)
            have := hsub t ht
            rw [et]
            refine ⟨rfl, fun m hm => ?_⟩
            simp only [List.mem_cons, List.not_mem_nil, or_false] at hm
            omega
          · have s8 := s7.trans (same_new (o := .lst (L'.map fun (q : Addr × List Int) => V.ref q.1)) np8)
            have hk : ∀ p ∈ L', p ∈ ks := fun p hp => hS1 p (pm.mem_iff.mp hp)
            refine ⟨p8, _, rfl, .inl ⟨SqL.of upd_same, fun t nt => ?_⟩⟩
            refine ⟨by show 2 ≤ sizeLine; decide, fun u nu => ?_⟩
            have s9 := (s8.trans (same_new (o := .tup (L'.map fun (q : Addr × List Int) => V.ref q.1)) nt)).trans (same_new (o := .tup [.int (n : Int), .ref t]) nu)
            refine q _ _ (L'.map prT) ?_ ?_ ⟨u, t, L'.map fun (q : Addr × List Int) => V.ref q.1, rfl, upd_same, ?_, ?_⟩ ⟨?_, ?_⟩
            · exact (fr3.trans fr4).trans (Fr.of (sm6.trans s9))
            · exact (lf4.mono (by omega)).same (sm6.trans s9)
            · rw [upd_ne (ne_of_none upd_same nu)]; exact upd_same
            · refine ties_addr fun p hp => ?_
              obtain ⟨g1, t', _, g3⟩ := e2 p (hk p hp)
              exact ⟨s9 _ _ g1, t', g3⟩
            · rw [List.pairwise_map]
              rw [List.nodup_iff_pairwise_ne, List.pairwise_map] at nd
              refine (cd.and nd).imp_of_mem fun {x y} hx hy h => ?_
              obtain ⟨_, t1, m1, g1⟩ := e2 x (hk x hx)
              obtain ⟨_, t2, m2, g2⟩ := e2 y (hk y hy)
              have b1 := hsub t1 m1
              have b2 := hsub t2 m2
              unfold prT
              rw [g1, g2] at h ⊢
              show ltT (t1.1, t1.2) (t2.1, t2.2)
              exact pair_lt h.1 h.2 (by omega) (by omega) (by omega) (by omega)
            · intro t' h'
              obtain ⟨x, hx, rfl⟩ := List.mem_map.mp h'
              obtain ⟨_, t1, m1, g1⟩ := e2 x (hk x hx)
              have b1 := hsub t1 m1
              unfold prT
              rw [g1]
              exact b1
end
end My

set_option Elab.async false
set_option linter.all false
set_option maxRecDepth 100000
namespace My
open PySem PySem.Spec PyProof.Rows L2

/-! ### heaps: all stays but what stands at some places -/
def FrM (M : List Addr) (H H' : Hp) : Prop := ∀ b o, b ∉ M → H b = some o → H' b = some o
theorem FrM.refl (M : List Addr) (H : Hp) : FrM M H H := fun _ _ _ h => h
theorem FrM.trans {M : List Addr} {H H1 H2 : Hp} (a : FrM M H H1) (b : FrM M H1 H2) : FrM M H H2 := fun c o n h => b c o n (a c o n h)
theorem FrM.same {M : List Addr} {H H' : Hp} (a : Same H H') : FrM M H H' := fun b o _ h => a b o h
theorem FrM.wk {M N : List Addr} {H H' : Hp} (a : FrM M H H') (h : ∀ x ∈ M, x ∈ N) : FrM N H H' := fun b o n e => a b o (fun m => n (h b m)) e
theorem FrM.put {M : List Addr} {H H' : Hp} {p : Addr} {o : HO} (a : FrM M H H') (h : p ∈ M) : FrM M H (upd H' p o) := fun b x n e => by
  rw [upd_ne (fun z => n (by rw [z]; exact h))]; exact a b x n e
theorem FrM.putN {M : List Addr} {H H' : Hp} {p : Addr} {o : HO} (a : FrM M H H') (h : H p = none) : FrM M H (upd H' p o) := fun b x n e => by
  rw [upd_ne (ne_of_none e h)]; exact a b x n e
theorem FrM.tst {M : List Addr} {H H' : Hp} (a : FrM M H H') (h : ∀ x ∈ M, ∃ xs, H x = some (.lst xs)) : Tst H H' := fun b xs e => by
  refine a b _ (fun m => ?_) e
  obtain ⟨ys, z⟩ := h b m
  rw [z] at e; cases e
theorem Fr.m {L : Addr} {M : List Addr} {H H' : Hp} (a : Fr L H H') (h : L ∈ M) : FrM M H H' := fun b o n e => a b o (fun z => n (by rw [z]; exact h)) e

/-- a list of numbers that stands at none of some places -/
def Gp (M : List Addr) (H : Hp) (v : V) (g : List Int) : Prop := ∃ p, v = .ref p ∧ p ∉ M ∧ H p = some (.lst (g.map V.int))
theorem Gp.mono {M N : List Addr} {H H' : Hp} {v : V} {g : List Int} (h : Gp M H v g) (a : FrM M H H') (s : ∀ x ∈ N, x ∈ M) : Gp N H' v g := by
  obtain ⟨p, e, n, h⟩ := h
  exact ⟨p, e, fun m => n (s p m), a p _ n h⟩
theorem Gp.new {M : List Addr} {H : Hp} {v : V} {g : List Int} {D : Addr} {o : HO} (h : Gp M H v g) (nD : H D = none) : Gp (D :: M) (upd H D o) v g := by
  obtain ⟨p, e, n, h⟩ := h
  have ne := ne_of_none h nD
  refine ⟨p, e, fun m => ?_, by rw [upd_ne ne]; exact h⟩
  rcases List.mem_cons.mp m with m | m
  · exact ne m
  · exact n m
theorem ixN_in {n : Nat} {i : Int} (h0 : 0 ≤ i) (h1 : i < n) : ixN n i = some i.toNat := by unfold ixN; rw [if_pos h0, if_pos h1]

section
variable {P : Program} {w : World} {K : PySem.W.Frag} {mg : Str → Option Value} {base : Heap}

/-! ### _law_put_together -/
abbrev s__law_put_together : Stmt := topS 24
abbrev N__law_put_together : List Str := ["_law_left_here", "_law_many", "_law_groups", "_law_p", "_law_ties", "_law_some", "_law_k", "_law_way", "_law_one", "_law_j", "_law_a", "_law_b", "_law_whole"]
theorem sc__law_put_together : FnScope N__law_put_together ["_law_left_here", "_law_many"] (defScope s__law_put_together) := ⟨rfl, rfl, rfl, by decide +kernel, rfl, by decide +kernel, by decide +kernel⟩
def cdb (way : Int) (k j : Nat) : Bool := decide (way < 2) || (decide (way = 2) && decide ((k : Int) - j = 1))
theorem cd_read {σ : L2.St} {H : Hp} {Q : VK} {way : Int} {k j : Nat} (h7 : σ[7]? = some (some (.int way))) (h6 : σ[6]? = some (some (.int (k : Int)))) (h9 : σ[9]? = some (some (.int (0 + (j : Int)))))
    (q : Q (.bl (cdb way k j)) H) : tOrV (tOp (rI0 fun i j => .bl (decide (i < j))) (tVar 7) (tC (.int 2))) (tAndV (tOp rEq (tVar 7) (tC (.int 2))) (tOp rEq (tOp (rI0 fun i j => .int (i - j)) (tVar 6) (tVar 9)) (tC (.int 1)))) σ H Q := by
  unfold cdb at q
  refine ⟨_, h7, _, _, rfl, rfl, _, rfl, ite2 (fun e => ?_) (fun e => ?_)⟩
  · have e := of_decide_eq_true e
    rw [decide_eq_true e, Bool.true_or] at q
    exact q
  · have e' : ¬ way < 2 := fun z => e (decide_eq_true z)
    rw [decide_eq_false e', Bool.false_or] at q
    refine ⟨_, h7, rfl, _, rfl, ite2 (fun e => ?_) (fun e => ?_)⟩
    · have e := V.int.inj (of_decide_eq_true e)
      rw [decide_eq_true e, Bool.true_and] at q
      refine ⟨_, h6, _, h9, _, _, rfl, rfl, rfl, ?_⟩
      have z : decide (V.int ((k : Int) - (0 + (j : Int))) = V.int 1) = decide ((k : Int) - (j : Int) = 1) := by
        rw [Int.zero_add]
        exact decide_eq_decide.mpr ⟨fun h => V.int.inj h, fun h => congrArg V.int h⟩
      rw [z]
      exact q
    · have e' : ¬ way = 2 := fun z => e (decide_eq_true (congrArg V.int z))
      rw [decide_eq_false e', Bool.false_and] at q
      exact q
theorem rep_b (b : Bool) (g : List Int) : (List.replicate (if b = true then (1 : Int) else 0).toNat (g.map V.int)).flatten = (if b = true then g else []).map V.int := by
  cases b
  · rfl
  · show (List.replicate 1 (g.map V.int)).flatten = _
    simp

theorem ok_put_together {f : Addr} {fd : FuncData} (B : Bts mg) (F : Fun K "_law_put_together" "_law_put_together" s__law_put_together f fd) (c__law_pick : Cl P w K mg base 2 "_law_pick" sp_pick) (c__law_row : Cl P w K mg base 3 "_law_row" sp_row) :
    FnOk P w K mg base CX0 4 f fd ["_law_left_here", "_law_many"] sp_gen := by
  refine F.ok sc__law_put_together (fun vs H Q E h => ?_) (fun cdv A outer s H vs Q E hr h => ?_)
  · obtain ⟨L, n, c, rfl, _⟩ := h; rfl
  · obtain ⟨L, n, c, rfl, hL, hn, hc, q⟩ := h
    refine ⟨_, (pss_cons (ps_set (i := 2) sc__law_put_together.nd rfl (by first | exact Or.inl rfl | exact Or.inr rfl) (pe_lc (own := [("_law_p", 3)]) (g := (gName 3)) (tt := tYes) rfl sc__law_put_together.nd (pi_list (pe_c c__law_row hr (by decide) (by rfl) (pa_cons (pv 0) (pa_cons (pv 1) pa_nil)))) (blkOk_by (own := [("_law_p", 3)]) (N := N__law_put_together) (sc := defScope s__law_put_together) (by decide +kernel)) (fun _ _ _ _ _ => (pg_name (i := 3) sc__law_put_together.nd rfl (by first | exact Or.inl rfl | exact Or.inr rfl))) (fun _ _ _ _ _ => pts_nil) (fun _ _ _ _ _ => (pe_lst (pa_cons (pv 3) pa_nil)))))
    (pss_cons (ps_set (i := 4) sc__law_put_together.nd rfl (by first | exact Or.inl rfl | exact Or.inr rfl) (pe_lst pa_nil))
    (pss_cons (ps_while PassesOwn.never (pt_cmpR op_gt (pe_callB call_len_seq (by rfl) B.len (by decide +kernel) (pa_cons (pv 2) pa_nil)) pe_int (nomark _))
      (pss_cons (ps_setLc (i := 5) (own := [("_law_k", 6)]) (g := (gName 6)) (tt := tYes) (te := (tBM K "list" rPopAt _ (tCons (tCall _ _ _ (tCons _ (tCons (tCB (rLenK K) _) tNil))) tNil))) rfl sc__law_put_together.nd rfl rfl (sw_true rfl rfl rfl (by decide +kernel)) (pi_range1 (by rfl) B.range (pa_cons (pe_callB (call_min2 rfl) (by rfl) B.min (by decide +kernel) (pa_cons (pe_callB call_len_seq (by rfl) B.len (by decide +kernel) (pa_cons (pv 2) pa_nil)) (pa_cons (pe_op op_add pe_int (pe_c c__law_pick hr (by decide) (by rfl) (pa_cons (pv 0) (pa_cons pe_int pa_nil)))) pa_nil))) pa_nil)) (blkOk_by (own := [("_law_k", 6)]) (N := N__law_put_together) (sc := defScope s__law_put_together) (by decide +kernel)) (fun _ _ _ _ _ => (pg_name (i := 6) sc__law_put_together.nd rfl (by first | exact Or.inl rfl | exact Or.inr rfl))) (fun _ _ _ _ _ => pts_nil) (fun _ _ _ _ _ => (pe_bm PySem.F.plainAttrs_list PySem.F.slot_list_pop PySem.F.type_list_pop mt_popAt (pv 2) (pa_cons (pe_c c__law_pick hr (by decide) (by rfl) (pa_cons (pv 0) (pa_cons (pe_callB call_len_seq (by rfl) B.len (by decide +kernel) (pa_cons (pv 2) pa_nil)) pa_nil))) pa_nil))))
      (pss_cons (ps_set (i := 7) sc__law_put_together.nd rfl (by first | exact Or.inl rfl | exact Or.inr rfl) (pe_c c__law_pick hr (by decide) (by rfl) (pa_cons (pv 0) (pa_cons pe_int pa_nil))))
      (pss_cons (ps_for PassesOwn.never rfl (pi_enum (by rfl) B.enumerate (pa_cons (pv 5) pa_nil)) (pg_tup rfl (pgs_cons (pg_name (i := 6) sc__law_put_together.nd rfl (by first | exact Or.inl rfl | exact Or.inr rfl)) (pgs_cons (pg_name (i := 8) sc__law_put_together.nd rfl (by first | exact Or.inl rfl | exact Or.inr rfl)) pgs_nil)))
        (pss_one (ps_for PassesOwn.never rfl (pi_range1 (by rfl) B.range (pa_cons (pv 6) pa_nil)) (pg_name (i := 9) sc__law_put_together.nd rfl (by first | exact Or.inl rfl | exact Or.inr rfl))
          (pss_one (ps_for PassesOwn.never rfl (pi_list (pe_op op_rep (pv 8) (pe_callTy call_int1 (by rfl) B.int (by decide +kernel) (pa_cons (pe_or (pe_cmpR op_lt (pv 7) pe_int (nomark _)) (pe_one (pe_and (pe_cmpR op_eq (pv 7) pe_int (nomark _)) (pe_one (pe_cmpR op_eq (pe_op op_sub (pv 6) (pv 9)) pe_int (nomark _)))))) pa_nil)))) (pg_name (i := 10) sc__law_put_together.nd rfl (by first | exact Or.inl rfl | exact Or.inr rfl))
            (pss_one (ps_expr (pe_bm PySem.F.plainAttrs_list PySem.F.slot_list_extend PySem.F.type_list_extend mt_extend (pv 4) (pa_cons (pe_lc (own := [("_law_b", 11)]) (g := (gName 11)) (tt := tYes) (te := (tCB (rTupK K) (tCons (tCB (rSortedI K) _) tNil))) rfl sc__law_put_together.nd (pi_list (pe_ix ix_list (pv 5) (pv 9) (fun _ _ => rfl))) (blkOk_by (own := [("_law_b", 11)]) (N := N__law_put_together) (sc := defScope s__law_put_together) (by decide +kernel)) (fun _ _ _ _ _ => (pg_name (i := 11) sc__law_put_together.nd rfl (by first | exact Or.inl rfl | exact Or.inr rfl))) (fun _ _ _ _ _ => pts_nil) (fun _ _ _ _ _ => (pe_callTy call_tuple_of (by rfl) B.tuple (by decide +kernel) (pa_cons (pe_callB cr_sortedI (by rfl) B.sorted (by decide +kernel) (pa_cons (pe_lst (pa_cons (pv 10) (pa_cons (pv 11) pa_nil))) pa_nil)) pa_nil)))) pa_nil)))))))))
      (pss_cons (ps_set (i := 12) sc__law_put_together.nd rfl (by first | exact Or.inl rfl | exact Or.inr rfl) (pe_lst pa_nil))
      (pss_cons (ps_for PassesOwn.never rfl (pi_list (pv 5)) (pg_name (i := 8) sc__law_put_together.nd rfl (by first | exact Or.inl rfl | exact Or.inr rfl))
        (pss_one (ps_expr (pe_bm PySem.F.plainAttrs_list PySem.F.slot_list_extend PySem.F.type_list_extend mt_extend (pv 12) (pa_cons (pv 8) pa_nil)))))
      (pss_one (ps_expr (pe_bm PySem.F.plainAttrs_list PySem.F.slot_list_append PySem.F.type_list_append mt_append (pv 2) (pa_cons (pv 12) pa_nil))))))))))
    (pss_one (ps_ret (pe_tup (pa_cons (pv 1) (pa_cons (pe_callTy call_tuple_of (by rfl) B.tuple (by decide +kernel) (pa_cons (pe_callB cr_sortedPO (by rfl) B.sorted (by decide +kernel) (pa_cons (pv 4) pa_nil)) pa_nil)) pa_nil)))))))), ?_⟩
    -- groups = [[p] for p in row]
    refine ⟨_, rfl, _, rfl, L, n, c, rfl, hL, by omega, by omega, fun rw ns H1 nrw fr1 lf1 erw hp => ?_⟩
    have hnl : ns.length = n := by rw [hp.length_eq, up_len]
    have nrwL : rw ≠ L := hL.ne nrw
    refine ⟨rw, rfl, ⟨_, SqL.of erw⟩, fun G nG => ?_⟩
    have nGL : G ≠ L := lf1.ne nG
    refine lc_list (K := K) (a := rw) (xs := ns.map V.int) (fun i H2 => ∃ vs, Same H1 H2 ∧ H2 G = some (.lst vs) ∧ All2 (Gp [L, G] H2) vs ((ns.take i).map fun x => [x])) ⟨[], same_new nG, upd_same, by exact trivial⟩ ?_ ?_ ?_
    · rintro i H2 _ ⟨vs, sm, _⟩
      exact SqL.of (sm _ _ erw)
    · rintro i x H2 hx ⟨vs, sm, eG, hV⟩
      have hil : i < ns.length := by
        have := (List.getElem?_eq_some_iff.mp hx).1
        rw [List.length_map] at this; exact this
      have ex : x = .int ns[i] := by
        rw [List.getElem?_map, List.getElem?_eq_getElem hil] at hx
        cases hx; rfl
      subst ex
      refine ⟨rfl, yes ?_⟩
      refine ⟨_, rfl, by show 1 ≤ sizeLine; decide, fun t nt => ?_⟩
      have nGt : G ≠ t := ne_of_none eG nt
      have tL : t ≠ L := (lf1.same sm).ne nt
      have eG2 : (upd H2 t (.lst [.int ns[i]])) G = some (.lst vs) := by rw [upd_ne nGt]; exact eG
      refine ⟨vs, eG2, sz' (by rw [hV.len, List.length_map, List.length_take]; omega), vs ++ [.ref t], Same.put (sm.trans (same_new nt)) nG, upd_same, ?_⟩
      rw [List.take_add_one, List.getElem?_eq_getElem hil]
      show All2 _ _ (((ns.take i) ++ [ns[i]]).map fun x => [x])
      rw [List.map_append]
      refine All2.app (hV.imp fun v g h => (h.mono (FrM.same (same_new nt)) (fun x hx => hx)).mono (FrM.put (FrM.refl _ _) (by simp)) (fun x hx => hx)) ⟨⟨t, rfl, by simp [tL, nGt.symm], ?_⟩, trivial⟩
      rw [upd_ne nGt.symm, upd_same]; rfl
    · rintro H2 ⟨vs0, sm2, eG, hV0⟩
      rw [List.length_map, List.take_length] at hV0
      have lf2 := lf1.same sm2
      -- ties = []
      refine ⟨Nat.zero_le _, fun O nO => ?_⟩
      have nGO : G ≠ O := ne_of_none eG nO
      have nOL : O ≠ L := lf2.ne nO
      have frH2 : Fr L H H2 := fr1.trans (Fr.of sm2)
      have HG : H G = none := Lf.free fr1 lf1 nG
      have HO' : H O = none := Lf.free frH2 lf2 nO
      have memL : L ∈ [L, G, O] := by simp
      have memG : G ∈ [L, G, O] := by simp
      have memO : O ∈ [L, G, O] := by simp
      -- the while
      refine while_by (fun σ H3 => ∃ (vs : List V) (gs : List (List Int)) (us : List V) (ts : List (Int × Int)) (y3 y5 y6 y7 y8 y9 y10 y11 y12 : Option V), σ = [some (.ref L), some (.int (n : Int)), some (.ref G), y3, some (.ref O), y5, y6, y7, y8, y9, y10, y11, y12] ∧
          Fr L H H3 ∧ Lf H3 L (c + 200 - 6 * gs.length) ∧ H3 G = some (.lst vs) ∧ All2 (Gp [L, G, O] H3) vs gs ∧ H3 O = some (.lst us) ∧ Ties H3 us ts ∧ PInv n gs ts ∧ gs.length ≤ 12)
        (fun _ H3 => match H3 G with | some (.lst vs) => vs.length | _ => 0) ?_ ?_ ?_
      · refine ⟨vs0, ns.map fun x => [x], [], [], none, none, none, none, none, none, none, none, none, rfl, frH2.trans (Fr.new nO), ?_, ?_, ?_, upd_same, trivial, ⟨?_, List.nodup_nil, (fun _ h => by cases h), (fun _ h => by cases h)⟩, ?_⟩
        · rw [List.length_map, hnl]; exact (lf2.new nO).mono (by omega)
        · rw [upd_ne nGO]; exact eG
        · refine hV0.imp fun v g h => (h.new nO).mono (FrM.refl _ _) (fun x hx => ?_)
          simp only [List.mem_cons, List.not_mem_nil, or_false] at hx ⊢
          rcases hx with h | h | h
          · exact .inr (.inl h)
          · exact .inr (.inr h)
          · exact .inl h
        · rw [flat_one]; exact hp
        · rw [List.length_map, hnl]; exact hn
      · rintro σ H3 ⟨vs, gs, us, ts, y3, y5, y6, y7, y8, y9, y10, y11, y12, rfl, fr3, lf3, eG3, hV, eO3, hT, hI, hg12⟩
        have hvl := hV.len
        have lts := hI.len (by omega)
        refine ⟨_, rfl, G, vs, rfl, .inl (SqL.of eG3), _, _, rfl, rfl, _, rfl, ite2 (fun e => ?_) (fun e => ?_)⟩
        · have hlen : 1 < vs.length := by have := of_decide_eq_true e; omega
          -- how many
          refine ⟨_, rfl, G, vs, rfl, .inl (SqL.of eG3), ?_⟩
          refine ⟨_, rfl, L, _, _, rfl, lf3, by decide, by decide, by omega, fun r0 Ha ra rb fra lfa => ?_⟩
          refine ⟨_, _, rfl, rfl, _, _, rfl, ?_⟩
          have hm : ∃ m : Nat, (if 2 + r0 < (vs.length : Int) then 2 + r0 else (vs.length : Int)) = (m : Int) ∧ 2 ≤ m ∧ m ≤ 4 ∧ m ≤ vs.length := by
            by_cases z : 2 + r0 < (vs.length : Int)
            · rw [if_pos z]; exact ⟨(2 + r0).toNat, by omega, by omega, by omega, by omega⟩
            · rw [if_neg z]; exact ⟨vs.length, rfl, by omega, by omega, Nat.le_refl _⟩
          obtain ⟨m, em, m2, m4, mv⟩ := hm
          rw [em]
          refine ⟨_, rfl, by omega, by omega, fun D nD => ?_⟩
          have eGa := fra _ _ nGL eG3
          have eOa := fra _ _ nOL eO3
          have nGD : G ≠ D := ne_of_none eGa nD
          have nOD : O ≠ D := ne_of_none eOa nD
          have nDL : D ≠ L := lfa.ne nD
          have hVa : All2 (Gp [L, G, O] Ha) vs gs := hV.imp fun v g h => h.mono (fra.m memL) fun x hx => hx
          have hTa : Ties Ha us ts := hT.mono (lf3.tst fra)
          refine lc_range (fun i Hb => ∃ (vs' : List V) (gs' : List (List Int)) (ss : List V) (sg : List (List Int)), FrM [L, G, D] Ha Hb ∧ Lf Hb L (c + 200 - 6 * gs.length + 1 + i) ∧ Hb G = some (.lst vs') ∧ Hb D = some (.lst ss) ∧ All2 (Gp [D, L, G, O] Hb) vs' gs' ∧ All2 (Gp [D, L, G, O] Hb) ss sg ∧ gs.Perm (sg ++ gs') ∧ sg.length = i)
            ⟨vs, gs, [], [], (FrM.refl _ _).putN nD, (lfa.new nD).mono (by omega), by rw [upd_ne nGD]; exact eGa, upd_same, hVa.imp fun v g h => h.new nD, trivial, .refl _, rfl⟩ ?_ ?_
          · rintro i Hb hi ⟨vs', gs', ss, sg, frb, lfb, eGb, eDb, hVb, hSb, pm, hsl⟩
            have hi : i < m := by omega
            have l1 := hVb.len
            have l2 := hSb.len
            have l3 := pm.length_eq
            rw [List.length_append] at l3
            refine ⟨rfl, yes ?_⟩
            refine ⟨_, rfl, .inl ⟨rfl, _, SqL.of eGb⟩, ?_⟩
            refine ⟨_, rfl, _, rfl, G, vs', rfl, .inl (SqL.of eGb), ?_⟩
            refine ⟨L, _, _, rfl, lfb, by omega, by omega, by omega, fun r Hc rc0 rc1 frc lfc => ?_⟩
            have eGc := frc _ _ nGL eGb
            have eDc := frc _ _ nDL eDb
            have hk : r.toNat < vs'.length := by omega
            have hk2 : r.toNat < gs'.length := by omega
            obtain ⟨g, eg, hg⟩ := hVb.at (List.getElem?_eq_getElem hk)
            have eg' : gs'[r.toNat] = g := by rw [List.getElem?_eq_getElem hk2] at eg; cases eg; rfl
            refine ⟨G, vs', r, r.toNat, vs'[r.toNat], rfl, rfl, eGc, by omega, by omega, (ixN_seq (ixN_in rc0 rc1)).1, List.getElem?_eq_getElem hk, ?_⟩
            have eDd : (upd Hc G (.lst (vs'.eraseIdx r.toNat))) D = some (.lst ss) := by rw [upd_ne nGD.symm]; exact eDc
            have frd : FrM [D, L, G, O] Hb (upd (upd Hc G (.lst (vs'.eraseIdx r.toNat))) D (.lst (ss ++ [vs'[r.toNat]]))) := ((frc.m (by simp)).put (by simp)).put (by simp)
            refine ⟨ss, eDd, sz' (by omega), vs'.eraseIdx r.toNat, gs'.eraseIdx r.toNat, ss ++ [vs'[r.toNat]], sg ++ [g], ?_, ?_, ?_, upd_same, ?_, ?_, ?_, ?_⟩
            · exact ((frb.trans (frc.m (by simp))).put (by simp)).put (by simp)
            · exact ((lfc.mono (by omega)).put nGL).put nDL
            · rw [upd_ne nGD, upd_same]
            · exact (hVb.imp fun v g h => h.mono frd fun x hx => hx).erase _
            · exact (hSb.imp fun v g h => h.mono frd fun x hx => hx).app ⟨hg.mono frd fun x hx => hx, trivial⟩
            · refine pm.trans ?_
              rw [List.append_assoc]
              refine List.Perm.append_left _ ?_
              have := erase_perm hk2
              rw [eg'] at this
              exact this.symm
            · rw [List.length_append, hsl]; rfl
          · rintro Hb ⟨vs', gs', ss, sg, frb, lfb, eGb, eDb, hVb, hSb, pm, hsl⟩
            rw [Int.toNat_natCast] at hsl lfb
            have l1 := hVb.len
            have l2 := hSb.len
            have l3 := pm.length_eq
            rw [List.length_append] at l3
            have eOb : Hb O = some (.lst us) := frb _ _ (by simp [nOL, nGO.symm, nOD]) eOa
            obtain ⟨xa, ya, za, eLa, _⟩ := id lfa
            have tab : Tst Ha Hb := fun b xs e => by
              refine frb b _ (fun mm => ?_) e
              simp only [List.mem_cons, List.not_mem_nil, or_false] at mm
              rcases mm with z | z | z
              · rw [z, eLa] at e; cases e
              · rw [z, eGa] at e; cases e
              · rw [z, nD] at e; cases e
            have hTb : Ties Hb us ts := hTa.mono tab
            have frHb : Fr L H Hb := fun b o nb e => by
              have e3 := fra b o nb (fr3 b o nb e)
              refine frb b o (fun mm => ?_) e3
              simp only [List.mem_cons, List.not_mem_nil, or_false] at mm
              rcases mm with z | z | z
              · exact nb z
              · rw [z, HG] at e; cases e
              · rw [z, nD] at e3; cases e3
            have HD : H D = none := by
              cases z : H D with
              | none => rfl
              | some o => rw [fra D o nDL (fr3 D o nDL z)] at nD; cases nD
            -- way
            refine ⟨_, rfl, L, _, _, rfl, lfb, by decide, by decide, by omega, fun way Hc wa wb frc lfc => ?_⟩
            have eGc := frc _ _ nGL eGb
            have eDc := frc _ _ nDL eDb
            have eOc := frc _ _ nOL eOb
            have hVc : All2 (Gp [D, L, G, O] Hc) vs' gs' := hVb.imp fun v g h => h.mono (frc.m (by simp)) fun x hx => hx
            have hSc : All2 (Gp [D, L, G, O] Hc) ss sg := hSb.imp fun v g h => h.mono (frc.m (by simp)) fun x hx => hx
            have hTc : Ties Hc us ts := hTb.mono (lfb.tst frc)
            have frHc : Fr L H Hc := frHb.trans frc
            have pf : (sg ++ gs').flatten.Perm (up n) := pm.flatten.symm.trans hI.fl
            have gl : ∀ i, (sg.getD i []).length ≤ 12 := fun i => Nat.le_trans (grp_len pf i) hn
            -- for k, one in enumerate(some)
            refine ⟨_, rfl, D, ss, rfl, SqL.of eDc, ?_⟩
            refine for_it (walk_enum (K := K) (a := D) (xs := ss)) (fun k σ H4 => ∃ (us4 : List V) (y6 y8 y9 y10 y11 y12 : Option V), σ = [some (.ref L), some (.int (n : Int)), some (.ref G), y3, some (.ref O), some (.ref D), y6, some (.int way), y8, y9, y10, y11, y12] ∧ FrM [O] Hc H4 ∧ H4 O = some (.lst us4) ∧ Ties H4 us4 (ts ++ news sg (cdb way) k))
              ⟨us, y6, y8, y9, y10, y11, y12, rfl, FrM.refl _ _, eOc, by exact (List.append_nil ts).symm ▸ hTc⟩ ?_ ?_ ?_
            · rintro k σ H4 _ ⟨us4, _, _, _, _, _, _, _, fr4, _⟩
              exact SqL.of (fr4 _ _ (by simp [nOD.symm]) eDc)
            · rintro k x σ H4 H4' hk ⟨us4, y6, y8, y9, y10, y11, y12, rfl, fr4, eO4, hT4⟩ ⟨T, x1, x2, rfl, nT, rfl, ex1, ex2⟩
              cases ex1
              obtain ⟨gk, egk, hgk⟩ := hSc.at ex2
              have hk5 : k < 4 := by omega
              have gdk : sg.getD k [] = gk := by rw [List.getD_eq_getElem?_getD, egk]; rfl
              have ln1 := news_len (cd := cdb way) gl k (by omega)
              refine ⟨T, _, rfl, SqT.of upd_same, rfl, _, _, rfl, _, _, rfl, rfl, ?_⟩
              -- for j in range(k)
              refine ⟨_, rfl, _, rfl, by omega, by omega, ?_⟩
              refine for_range (fun j σ H5 => ∃ (us5 : List V) (y9 y10 y11 y12 : Option V), σ = [some (.ref L), some (.int (n : Int)), some (.ref G), y3, some (.ref O), some (.ref D), some (.int (k : Int)), some (.int way), some x2, y9, y10, y11, y12] ∧ FrM [O] Hc H5 ∧ H5 O = some (.lst us5) ∧ Ties H5 us5 (ts ++ news sg (cdb way) k ++ newK sg (cdb way) k j))
                ⟨us4, y9, y10, y11, y12, rfl, fr4.trans (FrM.same (same_new nT)), by rw [upd_ne (ne_of_none eO4 nT)]; exact eO4, by exact (List.append_nil (ts ++ news sg (cdb way) k)).symm ▸ (hT4.mono (tst_new nT))⟩ ?_ ?_
              · rintro j σ H5 hj ⟨us5, y9, y10, y11, y12, rfl, fr5, eO5, hT5⟩
                have hj : j < k := by omega
                have ln2 := newK_len (cd := cdb way) (k := k) gl j
                obtain ⟨pk, rfl, npk, epk⟩ := hgk
                have epk5 := fr5 _ _ (fun z => npk (by simp at z; simp [z])) epk
                have hjs : j < ss.length := by omega
                obtain ⟨gj, egj, hgj⟩ := hSc.at (List.getElem?_eq_getElem hjs)
                have gdj : sg.getD j [] = gj := by rw [List.getD_eq_getElem?_getD, egj]; rfl
                -- for a in one * int(..)
                refine ⟨_, rfl, cd_read rfl rfl rfl (.inr ⟨_, rfl, ?_⟩)⟩
                have gkl : gk.length ≤ 12 := by rw [← gdk]; exact gl k
                have gjl : gj.length ≤ 12 := by rw [← gdj]; exact gl j
                refine ⟨pk, _, _, rfl, rfl, epk5, by have := (bi (cdb way k j)).2.2; omega, by have := (bi (cdb way k j)).2.1; omega, ?_, fun pr npr => ?_⟩
                · rw [List.length_map]
                  have : (if cdb way k j = true then (1 : Int) else 0).toNat ≤ 1 := by cases cdb way k j <;> decide
                  exact sz (Nat.le_trans (Nat.mul_le_mul gkl this) (by decide))
                rw [rep_b]
                generalize hg' : (if cdb way k j = true then gk else []) = g'
                have g'l : g'.length ≤ 12 := by rw [← hg']; split; exact gkl; exact Nat.zero_le _
                have nprO : pr ≠ O := fun z => by rw [z, eO5] at npr; cases npr
                refine ⟨pr, rfl, ⟨_, SqL.of upd_same⟩, ?_⟩
                refine for_list (K := K) (a := pr) (xs := g'.map V.int) (fun i σ H6 => ∃ (us6 : List V) (y10 y11 y12 : Option V), σ = [some (.ref L), some (.int (n : Int)), some (.ref G), y3, some (.ref O), some (.ref D), some (.int (k : Int)), some (.int way), some (.ref pk), some (.int (0 + (j : Int))), y10, y11, y12] ∧ FrM [O] Hc H6 ∧ H6 pr = some (.lst (g'.map V.int)) ∧ H6 O = some (.lst us6) ∧ Ties H6 us6 (ts ++ news sg (cdb way) k ++ newK sg (cdb way) k j ++ newA (g'.take i) gj))
                  ⟨us5, y10, y11, y12, rfl, fr5.trans (FrM.same (same_new npr)), upd_same, by rw [upd_ne nprO.symm]; exact eO5, ?_⟩ ?_ ?_ ?_
                · have : newA (g'.take 0) gj = [] := rfl
                  rw [this, List.append_nil]
                  exact hT5.mono (tst_new npr)
                · rintro i σ H6 _ ⟨_, _, _, _, _, _, epr, _⟩
                  exact SqL.of epr
                · rintro i x σ H6 hx ⟨us6, y10, y11, y12, rfl, fr6, epr, eO6, hT6⟩
                  have hil : i < g'.length := by
                    have := (List.getElem?_eq_some_iff.mp hx).1
                    rw [List.length_map] at this; exact this
                  have ex : x = .int g'[i] := by
                    rw [List.getElem?_map, List.getElem?_eq_getElem hil] at hx
                    cases hx; rfl
                  subst ex
                  have eD6 := fr6 _ _ (by simp [nOD.symm]) eDc
                  obtain ⟨pj, ej, npj, epj⟩ := id hgj
                  have epj6 := fr6 _ _ (fun z => npj (by simp at z; simp [z])) epj
                  have ln3 := newA_len (g := g'.take i) (h := gj) (x := 12) (y := 12) (by rw [List.length_take]; omega) gjl
                  refine ⟨_, rfl, .inl ⟨rfl, _, SqL.of eO6⟩, ?_⟩
                  refine ⟨_, rfl, _, rfl, D, ss, _, ss[j], rfl, rfl, SqL.of eD6, by rw [Int.zero_add]; exact atI_nat (List.getElem?_eq_getElem hjs), ?_⟩
                  rw [ej]
                  refine ⟨pj, rfl, ⟨_, SqL.of epj6⟩, fun E2 nE2 => ?_⟩
                  refine lc_list (K := K) (a := pj) (xs := gj.map V.int) (fun b H7 => ∃ us7 : List V, Same H6 H7 ∧ H7 E2 = some (.lst us7) ∧ Ties H7 us7 ((gj.take b).map fun y => norm g'[i] y)) ⟨[], same_new nE2, upd_same, by exact trivial⟩ ?_ ?_ ?_
                  · rintro b H7 _ ⟨_, sm7, _⟩
                    exact SqL.of (sm7 _ _ epj6)
                  · rintro b y H7 hy ⟨us7, sm7, eE7, hT7⟩
                    have hbl : b < gj.length := by
                      have := (List.getElem?_eq_some_iff.mp hy).1
                      rw [List.length_map] at this; exact this
                    have ey : y = .int gj[b] := by
                      rw [List.getElem?_map, List.getElem?_eq_getElem hbl] at hy
                      cases hy; rfl
                    subst ey
                    refine ⟨rfl, yes ?_⟩
                    refine ⟨_, rfl, _, rfl, by show 2 ≤ sizeLine; decide, fun l nl => ?_⟩
                    refine ⟨l, [g'[i], gj[b]], rfl, SqL.of upd_same, fun ns' p2 pm2 srt np2 => ?_⟩
                    have e2 := perm2 pm2 srt
                    subst e2
                    refine ⟨p2, _, rfl, .inl ⟨SqL.of upd_same, fun t nt => ?_⟩⟩
                    have s1 : Same H7 (upd H7 l (.lst [.int g'[i], .int gj[b]])) := same_new nl
                    have s2 := s1.trans (same_new (o := .lst (([(norm g'[i] gj[b]).1, (norm g'[i] gj[b]).2]).map V.int)) np2)
                    have s3 := s2.trans (same_new (o := .tup (([(norm g'[i] gj[b]).1, (norm g'[i] gj[b]).2]).map V.int)) nt)
                    refine ⟨us7, s3 _ _ eE7, sz' (by rw [hT7.len, List.length_map, List.length_take]; omega), us7 ++ [.ref t], ?_, upd_same, ?_⟩
                    · exact Same.put (sm7.trans s3) nE2
                    · rw [List.take_add_one, List.getElem?_eq_getElem hbl]
                      show Ties _ _ (((gj.take b) ++ [gj[b]]).map fun y => norm g'[i] y)
                      rw [List.map_append]
                      refine Ties.mono (tst_put (s3 _ _ eE7)) ((hT7.mono (Same.tst s3)).app (Ties.one ?_))
                      exact Tie.new
                  · rintro H7 ⟨us7, sm7, eE7, hT7⟩
                    rw [List.length_map, List.take_length] at hT7
                    have eO7 := sm7 _ _ eO6
                    refine ⟨O, E2, us6, us7, rfl, rfl, eO7, eE7, ?_, ?_⟩
                    · refine sz ?_
                      rw [hT6.len, hT7.len, List.length_map]
                      simp only [List.length_append]
                      omega
                    · refine ⟨us6 ++ us7, _, y11, y12, rfl, (fr6.trans (FrM.same sm7)).put (by simp), by rw [upd_ne nprO]; exact sm7 _ _ epr, upd_same, ?_⟩
                      rw [List.take_add_one, List.getElem?_eq_getElem hil]
                      show Ties _ _ (_ ++ newA (g'.take i ++ [g'[i]]) gj)
                      rw [newA_app, newA_one, ← List.append_assoc]
                      exact Ties.mono (tst_put eO7) ((hT6.mono (Same.tst sm7)).app hT7)
                · rintro σ H6 ⟨us6, y10, y11, y12, rfl, fr6, epr, eO6, hT6⟩
                  refine ⟨us6, _, y10, y11, y12, rfl, fr6, eO6, ?_⟩
                  rw [List.length_map, List.take_length] at hT6
                  rw [newK_succ, gdk, gdj, hg', ← List.append_assoc]
                  exact hT6
              · rintro σ H5 ⟨us5, y9, y10, y11, y12, rfl, fr5, eO5, hT5⟩
                refine ⟨us5, _, _, y9, y10, y11, y12, rfl, fr5, eO5, ?_⟩
                rw [Int.toNat_natCast] at hT5
                rw [news_succ, ← List.append_assoc]
                exact hT5
            · rintro σ H4 ⟨us4, y6, y8, y9, y10, y11, y12, rfl, fr4, eO4, hT4⟩
              rw [l2] at hT4
              -- whole
              refine ⟨Nat.zero_le _, fun W nW => ?_⟩
              have eD4 := fr4 _ _ (by simp [nOD.symm]) eDc
              have eG4 := fr4 _ _ (by simp [nGO]) eGc
              have lf4 : Lf H4 L (c + 200 - 6 * gs.length + 1 + m + 1) := by
                obtain ⟨x, y, z, h1, h2⟩ := lfc
                exact ⟨x, y, z, fr4 _ _ (by simp [nOL.symm]) h1, h2⟩
              have nWL : W ≠ L := lf4.ne nW
              have nWG : W ≠ G := fun z => by rw [z, eG4] at nW; cases nW
              have nWO : W ≠ O := fun z => by rw [z, eO4] at nW; cases nW
              have nWD : W ≠ D := fun z => by rw [z, eD4] at nW; cases nW
              refine ⟨_, rfl, D, rfl, ⟨_, SqL.of (by rw [upd_ne nWD.symm]; exact eD4)⟩, ?_⟩
              refine for_list (K := K) (a := D) (xs := ss) (fun i σ H5 => ∃ (y8 : Option V), σ = [some (.ref L), some (.int (n : Int)), some (.ref G), y3, some (.ref O), some (.ref D), y6, some (.int way), y8, y9, y10, y11, some (.ref W)] ∧ Same H4 H5 ∧ H5 W = some (.lst ((sg.take i).flatten.map V.int)))
                ⟨y8, rfl, same_new nW, upd_same⟩ ?_ ?_ ?_
              · rintro i σ H5 _ ⟨_, _, sm5, _⟩
                exact SqL.of (sm5 _ _ eD4)
              · rintro i x σ H5 hx ⟨y8, rfl, sm5, eW⟩
                obtain ⟨gi, egi, hgi⟩ := hSc.at hx
                obtain ⟨pi, rfl, npi, epi⟩ := hgi
                have epi5 := sm5 _ _ (fr4 _ _ (fun z => npi (by simp at z; simp [z])) epi)
                have fl : ((sg.take i).flatten).length ≤ n := by
                  have e1 := pf.length_eq
                  rw [up_len, List.flatten_append, List.length_append] at e1
                  have e2 : (sg.flatten).length = ((sg.take i).flatten).length + ((sg.drop i).flatten).length := by
                    rw [← List.length_append, ← List.flatten_append, List.take_append_drop]
                  omega
                have gil : gi.length ≤ 12 := by
                  have := gl i
                  rw [List.getD_eq_getElem?_getD, egi] at this
                  exact this
                refine ⟨_, rfl, .inl ⟨rfl, _, SqL.of eW⟩, _, rfl, ?_⟩
                refine ⟨W, pi, _, _, rfl, rfl, eW, epi5, sz (by rw [List.length_map, List.length_map]; omega), ?_⟩
                refine ⟨_, rfl, Same.put sm5 nW, ?_⟩
                rw [upd_same, List.take_add_one, egi]
                show some (HO.lst _) = some (.lst ((sg.take i ++ [gi]).flatten.map V.int))
                rw [List.flatten_append, List.map_append]
                simp
              · rintro σ H5 ⟨y8, rfl, sm5, eW⟩
                rw [l2, List.take_length] at eW
                have eG5 := sm5 _ _ eG4
                refine ⟨_, rfl, .inl ⟨rfl, _, SqL.of eG5⟩, _, rfl, ?_⟩
                refine ⟨G, vs', _, rfl, rfl, eG5, sz' (by omega), ?_⟩
                have nI := hI.next pm (cdb way)
                have all : ∀ v g, Gp [D, L, G, O] Hc v g → Gp [L, G, O] (upd H5 G (.lst (vs' ++ [.ref W]))) v g := fun v g h => by
                  obtain ⟨p, e, np, hh⟩ := h
                  refine ⟨p, e, fun z => np (List.mem_cons_of_mem _ z), ?_⟩
                  have : p ≠ G := fun z => np (by simp [z])
                  rw [upd_ne this]
                  exact sm5 _ _ (fr4 _ _ (fun z => np (by simp at z; simp [z])) hh)
                refine ⟨⟨vs' ++ [.ref W], gs' ++ [sg.flatten], us4, ts ++ news sg (cdb way) sg.length, y3, _, y6, _, y8, y9, y10, y11, _, rfl, ?_, ?_, upd_same, ?_, ?_, ?_, nI, ?_⟩, ?_⟩
                · refine Fr.put (fun b o nb e => sm5 _ _ (fr4 b o (fun z => ?_) (frHc b o nb e))) HG
                  simp only [List.mem_cons, List.not_mem_nil, or_false] at z
                  rw [z, HO'] at e; cases e
                · refine Lf.put ((lf4.same sm5).mono ?_) nGL
                  rw [List.length_append]
                  show _ ≤ c + 200 - 6 * ((gs'.length + 1 : Nat) : Int)
                  omega
                · refine (hVc.imp all).app ⟨⟨W, rfl, by simp [nWL, nWG, nWO], ?_⟩, trivial⟩
                  rw [upd_ne nWG]; exact eW
                · rw [upd_ne nGO.symm]; exact sm5 _ _ eO4
                · exact (hT4.mono (Same.tst sm5)).mono (tst_put eG5)
                · rw [List.length_append]
                  show gs'.length + 1 ≤ 12
                  omega
                · rw [upd_same, eG3]
                  show (vs' ++ [V.ref W]).length < vs.length
                  rw [List.length_append]
                  show vs'.length + 1 < vs.length
                  omega
        · -- the end: sorted
          refine ⟨_, rfl, _, rfl, O, us, My.key H3, rfl, SqL.of eO3, hT.all, fun ys p hs hst np => ?_⟩
          obtain ⟨ts', hT', pm', pw⟩ := srt_ties hs hst.perm hT
          refine ⟨p, ys, rfl, .inl ⟨SqL.of upd_same, fun t nt => ?_⟩⟩
          refine ⟨by show 2 ≤ sizeLine; decide, fun u nu => ?_⟩
          have s9 := ((same_new (H := H3) (o := .lst ys) np).trans (same_new (o := .tup ys) nt)).trans (same_new (o := .tup [.int (n : Int), .ref t]) nu)
          refine q _ _ ts' ?_ ?_ ⟨u, t, ys, rfl, upd_same, ?_, ?_⟩ ⟨?_, ?_⟩
          · exact fr3.trans (Fr.of s9)
          · exact (lf3.mono (by omega)).same s9
          · rw [upd_ne (ne_of_none upd_same nu)]; exact upd_same
          · exact hT'.mono (Same.tst s9)
          · exact pw_lt pw (pm'.nodup_iff.mpr hI.nd)
          · exact fun t' h' => hI.bd t' (pm'.mem_iff.mp h')
      · rintro σ H3 Q1 Q2 hQ ⟨v, hv, p, ys, e, hs, i, j, e1, e2, b, e3, qq⟩
        exact ⟨v, hv, p, ys, e, hs, i, j, e1, e2, b, e3, hQ _ _ qq⟩
end
end My

set_option Elab.async false
set_option linter.all false
set_option maxRecDepth 100000
namespace My
open PySem PySem.Spec PyProof.Rows L2
section
variable {P : Program} {w : World} {K : PySem.W.Frag} {mg : Str → Option Value} {base : Heap}

/-! ### _law_web -/
abbrev s__law_web : Stmt := topS 25
abbrev N__law_web : List Str := ["_law_left_here", "_law_most", "_law_many", "_law_way"]
theorem sc__law_web : FnScope N__law_web ["_law_left_here", "_law_most"] (defScope s__law_web) := ⟨rfl, rfl, rfl, by decide +kernel, rfl, by decide +kernel, by decide +kernel⟩
def sp_web : Sp := fun vs H Q _ => ∃ (L : Addr) (most : Nat) (c : Int), vs = [.ref L, .int (most : Int)] ∧ Lf H L c ∧ most ≤ 12 ∧ c < 2 ^ 47 ∧
  ∀ (v : V) (H' : Hp) (n : Nat) (ts : List (Int × Int)), n ≤ most → Fr L H H' → Lf H' L (c + 200000) → Web H' v n ts → WOk n ts → Q v H'
theorem ok_web {f : Addr} {fd : FuncData} (B : Bts mg) (F : Fun K "_law_web" "_law_web" s__law_web f fd) (c__law_pick : Cl P w K mg base 2 "_law_pick" sp_pick) (c__law_any_web : Cl P w K mg base 3 "_law_any_web" sp_gen)
    (c__law_row_web : Cl P w K mg base 4 "_law_row_web" sp_gen) (c__law_put_together : Cl P w K mg base 4 "_law_put_together" sp_gen) (c__law_ring_web : Cl P w K mg base 4 "_law_ring_web" sp_gen) :
    FnOk P w K mg base CX0 5 f fd ["_law_left_here", "_law_most"] sp_web := by
  refine F.ok sc__law_web (fun vs H Q E h => ?_) (fun cdv A outer s H vs Q E hr h => ?_)
  · obtain ⟨L, n, c, rfl, _⟩ := h; rfl
  · obtain ⟨L, most, c, rfl, hL, hm, hc, q⟩ := h
    refine ⟨_, (pss_cons (ps_set (i := 2) sc__law_web.nd rfl (by first | exact Or.inl rfl | exact Or.inr rfl) (pe_callB (call_min2 rfl) (by rfl) B.min (by decide +kernel) (pa_cons (pv 1) (pa_cons (pe_ix ix_list (pe_lst (pa_cons pe_int (pa_cons pe_int (pa_cons pe_int (pa_cons pe_int (pa_cons pe_int (pa_cons pe_int (pa_cons pe_int (pa_cons pe_int (pa_cons pe_int (pa_cons pe_int (pa_cons pe_int (pa_cons (pe_op op_add pe_int (pe_c c__law_pick hr (by decide) (by rfl) (pa_cons (pv 0) (pa_cons pe_int pa_nil)))) pa_nil))))))))))))) (pe_c c__law_pick hr (by decide) (by rfl) (pa_cons (pv 0) (pa_cons pe_int pa_nil))) (fun _ _ => rfl)) pa_nil))))
    (pss_cons (ps_set (i := 3) sc__law_web.nd rfl (by first | exact Or.inl rfl | exact Or.inr rfl) (pe_c c__law_pick hr (by decide) (by rfl) (pa_cons (pv 0) (pa_cons pe_int pa_nil))))
    (pss_cons (ps_if (pt_cmpR op_lt (pv 3) pe_int (nomark _)) (pss_one (ps_ret (pe_c c__law_any_web hr (by decide) (by rfl) (pa_cons (pv 0) (pa_cons (pv 2) pa_nil))))) pss_nil)
    (pss_cons (ps_if (pt_cmpR op_lt (pv 3) pe_int (nomark _)) (pss_one (ps_ret (pe_c c__law_row_web hr (by decide) (by rfl) (pa_cons (pv 0) (pa_cons (pv 2) pa_nil))))) pss_nil)
    (pss_cons (ps_if (pt_cmpR op_lt (pv 3) pe_int (nomark _)) (pss_one (ps_ret (pe_c c__law_put_together hr (by decide) (by rfl) (pa_cons (pv 0) (pa_cons (pv 2) pa_nil))))) pss_nil)
    (pss_one (ps_ret (pe_c c__law_ring_web hr (by decide) (by rfl) (pa_cons (pv 0) (pa_cons (pv 2) pa_nil)))))))))), ?_⟩
    refine ⟨_, rfl, ?_⟩
    refine ⟨_, rfl, L, _, c, rfl, hL, by decide, by decide, by omega, fun r0 H1 r00 r01 fr1 lf1 => ?_⟩
    refine ⟨_, _, rfl, rfl, by show 12 ≤ sizeLine; decide, fun p np => ?_⟩
    refine ⟨_, rfl, L, _, c + 1, rfl, lf1.new np, by decide, by decide, by omega, fun r1 H2 r10 r11 fr2 lf2 => ?_⟩
    have ep : H2 p = some (.lst (([0, 1, 2, 3, 4, 5, 6, 4, 5, 6, 5, 7 + r0] : List Int).map V.int)) := fr2 _ _ (lf1.ne np) upd_same
    obtain ⟨x, ex, mx⟩ := at_mem (ns := [0, 1, 2, 3, 4, 5, 6, 4, 5, 6, 5, 7 + r0]) (j := r1) (by show -(12 : Int) ≤ r1; omega) (by show r1 < (12 : Int); omega)
    have bx : 0 ≤ x ∧ x ≤ 12 := by
      simp only [List.mem_cons, List.not_mem_nil, or_false] at mx
      omega
    refine ⟨p, _, r1, _, rfl, rfl, SqL.of ep, ex, _, _, rfl, ?_⟩
    have hn : ∃ n : Nat, (if x < (most : Int) then x else (most : Int)) = (n : Int) ∧ n ≤ most := by
      by_cases z : x < (most : Int)
      · rw [if_pos z]; exact ⟨x.toNat, by omega, by omega⟩
      · rw [if_neg z]; exact ⟨most, rfl, Nat.le_refl _⟩
    obtain ⟨n, en, hn⟩ := hn
    rw [en]
    refine ⟨_, rfl, L, _, c + 1 + 1, rfl, lf2, by decide, by decide, by omega, fun way H3 wa wb fr3 lf3 => ?_⟩
    have frA : Fr L H H3 := ((fr1.trans (Fr.new np)).trans fr2).trans fr3
    have fin : ∀ (v : V) (H' : Hp) (ts : List (Int × Int)), Fr L H3 H' → Lf H' L (c + 1 + 1 + 1 + 100000) → Web H' v n ts → WOk n ts → Q v H' :=
      fun v H' ts a b c d => q v H' n ts hn (frA.trans a) (b.mono (by omega)) c d
    refine ⟨_, rfl, _, _, rfl, rfl, _, rfl, ite2 (fun e => ?_) (fun e => ?_)⟩
    · exact ⟨_, rfl, _, rfl, L, n, _, rfl, lf3, by omega, by omega, fin⟩
    refine ⟨_, rfl, _, _, rfl, rfl, _, rfl, ite2 (fun e => ?_) (fun e => ?_)⟩
    · exact ⟨_, rfl, _, rfl, L, n, _, rfl, lf3, by omega, by omega, fin⟩
    refine ⟨_, rfl, _, _, rfl, rfl, _, rfl, ite2 (fun e => ?_) (fun e => ?_)⟩
    · exact ⟨_, rfl, _, rfl, L, n, _, rfl, lf3, by omega, by omega, fin⟩
    · exact ⟨_, rfl, _, rfl, L, n, _, rfl, lf3, by omega, by omega, fin⟩
end
end My

set_option Elab.async false
set_option linter.all false
set_option maxRecDepth 100000
namespace My
open PySem PySem.Spec PyProof.Rows L2 GxR
/-! ### tables -/
theorem tabG_new {H : Hp} {P p : Addr} {o : HO} (h : TabG H P) (e : H p = none) : TabG (upd H p o) P := by
  obtain ⟨ps, h1, h2⟩ := h
  exact ⟨ps, by rw [upd_ne (ne_of_none h1 e)]; exact h1, h2⟩
theorem tb_frM {H H' : Hp} {P : Addr} (h : Tabbed P H H') : FrM [P] H H' := fun b o n e => by
  rw [h.2 b (fun z => n (by rw [z]; exact List.mem_singleton.mpr rfl))]; exact e
theorem tb_tst {H H' : Hp} {P : Addr} (h : Tabbed P H H') (hP : TabG H P) : Tst H H' := fun b xs e => by
  refine tb_frM h b _ (fun z => ?_) e
  obtain ⟨ps, h1, _⟩ := hP
  rw [List.mem_singleton.mp z, h1] at e; cases e
section
variable {P : Program} {w : World} {K : PySem.W.Frag} {mg : Str → Option Value} {base : Heap}

/-! ### is_number -/
abbrev s_is_number : Stmt := topS 1
abbrev N_is_number : List Str := ["thing"]
theorem sc_is_number : FnScope N_is_number ["thing"] (defScope s_is_number) := ⟨rfl, rfl, rfl, by decide +kernel, rfl, by decide +kernel, by decide +kernel⟩
def sp_num : Sp := fun vs H Q _ => ∃ i : Int, vs = [.int i] ∧ Q (.bl true) H
theorem ok_number {f : Addr} {fd : FuncData} (B : Bts mg) (F : Fun K "is_number" "is_number" s_is_number f fd) : FnOk P w K mg base CX0 1 f fd ["thing"] sp_num := by
  refine F.ok sc_is_number (fun vs H Q E h => ?_) (fun cdv A outer s H vs Q E hr h => ?_)
  · obtain ⟨i, rfl, _⟩ := h; rfl
  · obtain ⟨i, rfl, q⟩ := h
    refine ⟨_, (pss_one (ps_ret (pe_and (pe_callB call_isi (by rfl) B.isinstance (by decide +kernel) (pa_cons (pv 0) (pa_cons (pe_bltn (v := .ty "int") (by rfl) B.int (by decide +kernel) rfl) pa_nil))) (pe_one (pe_not (pe_callB call_isi (by rfl) B.isinstance (by decide +kernel) (pa_cons (pv 0) (pa_cons (pe_bltn (v := .ty "bool") (by rfl) B.bool (by decide +kernel) rfl) pa_nil)))))))), ?_⟩
    refine ⟨_, rfl, _, _, _, _, true, rfl, .ty _, .base (.int i), kit_ty (by decide +kernel), true, rfl, iteT ?_⟩
    exact ⟨_, rfl, _, _, _, _, false, rfl, .ty _, .base (.int i), kit_ty (by decide +kernel), false, rfl, q⟩
end
end My

set_option Elab.async false
set_option linter.all false
set_option maxRecDepth 100000
namespace My
open PySem PySem.Spec PyProof.Rows L2 GxR

/-! ### things alike -/
def Atom (x : V) : Prop := x = .non ∨ (∃ b, x = .bl b) ∨ (∃ i, x = .int i) ∨ ∃ z, x = .str z
def Eqd : Nat → Hp → V → V → Prop
  | 0, _, x, y => x = y ∧ Atom x
  | m + 1, H, x, y => (x = y ∧ Atom x) ∨ ∃ a b xs ys, x = .ref a ∧ y = .ref b ∧ ((H a = some (.tup xs) ∧ H b = some (.tup ys)) ∨ (H a = some (.lst xs) ∧ H b = some (.lst ys))) ∧
      xs.length = ys.length ∧ xs.length ≤ 10000 ∧ ∀ (i : Nat) (v u : V), xs[i]? = some v → ys[i]? = some u → Eqd m H v u
theorem Eqd.mono : ∀ {m : Nat} {H H' : Hp} {x y : V}, Same H H' → Eqd m H x y → Eqd m H' x y
  | 0, _, _, _, _, _, h => h
  | m + 1, H, H', _, _, s, .inl h => .inl h
  | m + 1, H, H', _, _, s, .inr ⟨a, b, xs, ys, e1, e2, h, l, l2, k⟩ => .inr ⟨a, b, xs, ys, e1, e2, h.imp (fun z => ⟨s _ _ z.1, s _ _ z.2⟩) (fun z => ⟨s _ _ z.1, s _ _ z.2⟩), l, l2, fun i v u e f => Eqd.mono s (k i v u e f)⟩
theorem Eqd.int {m : Nat} {H : Hp} {i : Int} : Eqd m H (.int i) (.int i) := by
  cases m with
  | zero => exact ⟨rfl, .inr (.inr (.inl ⟨i, rfl⟩))⟩
  | succ m => exact .inl ⟨rfl, .inr (.inr (.inl ⟨i, rfl⟩))⟩
theorem Eqd.up : ∀ {m : Nat} {H : Hp} {x y : V}, Eqd m H x y → Eqd (m + 1) H x y
  | 0, _, _, _, h => .inl h
  | m + 1, _, _, _, .inl h => .inl h
  | m + 1, _, _, _, .inr ⟨a, b, xs, ys, e1, e2, h, l, l2, k⟩ => .inr ⟨a, b, xs, ys, e1, e2, h, l, l2, fun i v u e f => (k i v u e f).up⟩
theorem tie_eqd {H : Hp} {v u : V} {t : Int × Int} (h : Tie H v t) (k : Tie H u t) : Eqd 1 H v u := by
  obtain ⟨p, rfl, h⟩ := h
  obtain ⟨q, rfl, k⟩ := k
  refine .inr ⟨p, q, _, _, rfl, rfl, .inl ⟨h, k⟩, rfl, by show 2 ≤ 10000; decide, fun i v u e f => ?_⟩
  match i, e, f with
  | 0, e, f => cases e; cases f; exact Eqd.int
  | 1, e, f => cases e; cases f; exact Eqd.int
theorem tup_eqd {H : Hp} {p q : Addr} {vs us : List V} {ts : List (Int × Int)} (hp : H p = some (.tup vs)) (hq : H q = some (.tup us)) (h : Ties H vs ts) (k : Ties H us ts) (l : ts.length ≤ 10000) : Eqd 2 H (.ref p) (.ref q) := by
  refine .inr ⟨p, q, vs, us, rfl, rfl, .inl ⟨hp, hq⟩, by rw [h.len, k.len], by rw [h.len]; exact l, fun i v u e f => ?_⟩
  obtain ⟨t1, e1, h1⟩ := h.at e
  obtain ⟨t2, e2, h2⟩ := k.at f
  rw [e1] at e2; cases e2
  exact tie_eqd h1 h2
theorem web_eqd {H : Hp} {v u : V} {n : Nat} {ts : List (Int × Int)} (h : Web H v n ts) (k : Web H u n ts) (l : ts.length ≤ 10000) : Eqd 3 H v u := by
  obtain ⟨p, q, vs, rfl, h1, h2, h3⟩ := h
  obtain ⟨p', q', us, rfl, k1, k2, k3⟩ := k
  refine .inr ⟨p, p', _, _, rfl, rfl, .inl ⟨h1, k1⟩, rfl, by show 2 ≤ 10000; decide, fun i v u e f => ?_⟩
  match i, e, f with
  | 0, e, f => cases e; cases f; exact Eqd.int
  | 1, e, f => cases e; cases f; exact tup_eqd h2 k2 h3 k3 l

section
variable {P : Program} {w : World} {K : PySem.W.Frag} {mg : Str → Option Value} {base : Heap}
end
end My

set_option Elab.async false
set_option linter.all false
set_option maxRecDepth 100000
namespace My
open PySem PySem.Spec PyProof.Rows L2 GxR

/-! ### dict comprehensions over what is walked -/
theorem dc_it {J : It} {n : Nat} {G : Hp → Prop} {Y : Nat → Hp → V → Hp → Prop} (w : Walk J n G Y) {g : TG} {tt : TT} {tk tv : TE} {vs : List Nat} {σ : L2.St} {H1 : Hp} {D : Addr} {Qd : Hp → Prop} (Pv : Nat → Hp → Prop)
    (h0 : Pv 0 (upd H1 D (.dK []))) (hG : ∀ i H, i ≤ n → Pv i H → G H)
    (hs : ∀ i x H H', i < n → Pv i H → Y i H x H' → g x (wipe σ vs) H' fun σ2 H2 => wipe σ2 vs = wipe σ vs ∧ tt σ2 H2 fun b H3 =>
      if b = true then tk σ2 H3 fun y H4 => tv σ2 H4 fun z H5 => ∃ kvs k, y = kV k ∧ H5 D = some (.dK kvs) ∧ kvs.length < sizeLine ∧ Pv (i + 1) (upd H5 D (.dK (putK kvs k z))) else Pv (i + 1) H3)
    (hd : ∀ H, Pv n H → Qd H) :
    ∃ W : Nat → Nat → Hp → Prop, (∃ m, W 0 m (upd H1 D (.dK []))) ∧ ∀ i m H, W i m H → (J.stop i H ∧ Qd H) ∨
      (J.go i H ∧ ∃ Nx : Hp → Prop, (∀ H', Nx H' → ∃ m', m' < m ∧ W (i + 1) m' H') ∧ ∀ x H', J.yld i H x H' → g x (wipe σ vs) H' fun σ2 H2 => wipe σ2 vs = wipe σ vs ∧ tt σ2 H2 fun b H3 =>
        if b = true then tk σ2 H3 fun y H4 => tv σ2 H4 fun z H5 => ∃ kvs k, y = kV k ∧ H5 D = some (.dK kvs) ∧ kvs.length < sizeLine ∧ Nx (upd H5 D (.dK (putK kvs k z))) else Nx H3) := by
  refine ⟨fun i m H => m = n - i ∧ i ≤ n ∧ Pv i H, ⟨n, rfl, Nat.zero_le _, h0⟩, ?_⟩
  rintro i m H ⟨rfl, hi, p⟩
  have q := hG i H hi p
  by_cases hlt : i < n
  · exact .inr ⟨w.goes i H hlt q, Pv (i + 1), fun H' p' => ⟨n - (i + 1), by omega, rfl, hlt, p'⟩, fun x H' y => hs i x H H' hlt p (w.yields i H x H' hlt q y)⟩
  · have e : i = n := by omega
    subst e
    exact .inl ⟨w.stops H q, hd H p⟩

/-! ### what a dict tells behind a store -/
theorem valV_put {κ : Type} [DecidableEq κ] (kvs : List (κ × V)) (k : κ) (v : V) (j : κ) : valV (putK kvs k v) j = if j = k then some v else valV kvs j := by
  unfold putK
  by_cases h : (kvs.any fun kv => decide (kv.1 = k)) = true
  · rw [if_pos h]
    induction kvs with
    | nil => cases h
    | cons p r ih =>
      rw [List.map_cons]
      by_cases hp : p.1 = k
      · rw [if_pos hp]
        by_cases hj : j = k
        · rw [if_pos hj, valV_pos (by rw [hj]; exact hp)]
        · rw [if_neg hj, valV_neg (fun z => hj (by rw [← z]; exact hp)), valV_neg (fun z => hj (by rw [← z]; exact hp))]
          by_cases hr : (r.any fun kv => decide (kv.1 = k)) = true
          · have := ih hr
            rw [if_neg hj] at this
            exact this
          · have : (r.map fun kv => if kv.1 = k then (kv.1, v) else kv) = r := by
              clear ih h
              induction r with
              | nil => rfl
              | cons q s ih2 =>
                rw [List.any_cons, Bool.or_eq_true] at hr
                have h1 : ¬ q.1 = k := fun z => hr (.inl (decide_eq_true z))
                have h2 : ¬ (s.any fun kv => decide (kv.1 = k)) = true := fun z => hr (.inr z)
                rw [List.map_cons, if_neg h1, ih2 h2]
            rw [this]
      · rw [if_neg hp]
        rw [List.any_cons, decide_eq_false hp, Bool.false_or] at h
        have := ih h
        by_cases hj : p.1 = j
        · rw [valV_pos hj, valV_pos hj, if_neg (fun z => hp (by rw [hj]; exact z))]
        · rw [valV_neg hj, valV_neg hj]; exact this
  · rw [if_neg h]
    induction kvs with
    | nil =>
      rw [List.nil_append]
      by_cases hj : j = k
      · rw [if_pos hj, valV_pos hj.symm]
      · rw [if_neg hj, valV_neg (fun z => hj z.symm)]
    | cons p r ih =>
      rw [List.any_cons, Bool.or_eq_true] at h
      have h1 : ¬ p.1 = k := fun z => h (.inl (decide_eq_true z))
      have h2 : ¬ (r.any fun kv => decide (kv.1 = k)) = true := fun z => h (.inr z)
      rw [List.cons_append]
      by_cases hj : p.1 = j
      · rw [valV_pos hj, valV_pos hj, if_neg (fun z => h1 (by rw [hj]; exact z))]
      · rw [valV_neg hj, valV_neg hj]; exact ih h2
theorem len_put {κ : Type} [DecidableEq κ] (kvs : List (κ × V)) (k : κ) (v : V) : (putK kvs k v).length ≤ kvs.length + 1 := by
  unfold putK
  split
  · rw [List.length_map]; exact Nat.le_succ _
  · rw [List.length_append]; exact Nat.le_refl _

/-! ### rising lists of places, parts of webs -/
def Ris (n : Nat) (pl : List Int) : Prop := pl.Pairwise (· < ·) ∧ ∀ p ∈ pl, 0 ≤ p ∧ p < (n : Int)
theorem Ris.nodup {n : Nat} {pl : List Int} (h : Ris n pl) : pl.Nodup := List.nodup_iff_pairwise_ne.mpr (h.1.imp fun {a b} z e => by omega)
theorem Ris.len {n : Nat} {pl : List Int} (h : Ris n pl) : pl.length ≤ n := by
  have := nd_len (m := up n) h.nodup fun x hx => mem_up.mpr (h.2 x hx)
  rwa [up_len] at this
theorem idx_get {pl : List Int} {a : Int} (h : a ∈ pl) : pl[pl.idxOf a]? = some a := by
  have hl := List.idxOf_lt_length_of_mem h
  rw [List.getElem?_eq_getElem hl, List.getElem_idxOf hl]
theorem idx_of {pl : List Int} (nd : pl.Nodup) {i : Nat} {a : Int} (h : pl[i]? = some a) : pl.idxOf a = i := by
  obtain ⟨hi, e⟩ := List.getElem?_eq_some_iff.mp h
  have hm : a ∈ pl := List.mem_of_getElem? h
  have hl := List.idxOf_lt_length_of_mem hm
  have e2 := List.getElem_idxOf hl
  have pw := List.pairwise_iff_getElem.mp (List.nodup_iff_pairwise_ne.mp nd)
  rcases Nat.lt_trichotomy (pl.idxOf a) i with z | z | z
  · exact absurd (e2.trans e.symm) (pw _ _ hl hi z)
  · exact z
  · exact absurd (e.trans e2.symm) (pw _ _ hi hl z)
theorem ris_lt {n : Nat} {pl : List Int} (h : Ris n pl) {i j : Nat} {a b : Int} (hi : pl[i]? = some a) (hj : pl[j]? = some b) : i < j ↔ a < b := by
  obtain ⟨li, ei⟩ := List.getElem?_eq_some_iff.mp hi
  obtain ⟨lj, ej⟩ := List.getElem?_eq_some_iff.mp hj
  have pw := List.pairwise_iff_getElem.mp h.1
  constructor
  · intro z
    have := pw i j li lj z
    omega
  · intro z
    rcases Nat.lt_trichotomy i j with c | c | c
    · exact c
    · subst c; omega
    · have := pw j i lj li c
      omega
def partL (ts : List (Int × Int)) (pl : List Int) : List (Int × Int) :=
  (ts.filter fun t => decide (t.1 ∈ pl) && decide (t.2 ∈ pl)).map fun t => ((pl.idxOf t.1 : Int), (pl.idxOf t.2 : Int))
theorem mem_part {ts : List (Int × Int)} {pl : List Int} (nd : pl.Nodup) {t : Int × Int} : t ∈ partL ts pl ↔
    ∃ (i j : Nat) (a b : Int), t = ((i : Int), (j : Int)) ∧ pl[i]? = some a ∧ pl[j]? = some b ∧ (a, b) ∈ ts := by
  unfold partL
  rw [List.mem_map]
  constructor
  · rintro ⟨s, hs, rfl⟩
    obtain ⟨h1, h2⟩ := List.mem_filter.mp hs
    rw [Bool.and_eq_true, decide_eq_true_eq, decide_eq_true_eq] at h2
    exact ⟨_, _, s.1, s.2, rfl, idx_get h2.1, idx_get h2.2, h1⟩
  · rintro ⟨i, j, a, b, rfl, hi, hj, h⟩
    refine ⟨(a, b), List.mem_filter.mpr ⟨h, ?_⟩, ?_⟩
    · rw [Bool.and_eq_true, decide_eq_true_eq, decide_eq_true_eq]
      exact ⟨List.mem_of_getElem? hi, List.mem_of_getElem? hj⟩
    · dsimp only
      rw [idx_of nd hi, idx_of nd hj]
theorem part_pw {n : Nat} {ts : List (Int × Int)} {pl : List Int} (hp : Ris n pl) (hw : ts.Pairwise ltT) : (partL ts pl).Pairwise ltT := by
  unfold partL
  rw [List.pairwise_map]
  refine (hw.sublist List.filter_sublist).imp_of_mem fun {s t} hs ht h => ?_
  have h1 := (List.mem_filter.mp hs).2
  have h2 := (List.mem_filter.mp ht).2
  rw [Bool.and_eq_true, decide_eq_true_eq, decide_eq_true_eq] at h1 h2
  have l1 := ris_lt hp (idx_get h1.1) (idx_get h2.1)
  have l2 := ris_lt hp (idx_get h1.2) (idx_get h2.2)
  rcases h with h | ⟨h, k⟩
  · exact .inl (by have := l1.mpr h; dsimp only; omega)
  · refine .inr ⟨by dsimp only; rw [h], ?_⟩
    have := l2.mpr k
    dsimp only; omega
theorem part_wok {n : Nat} {ts : List (Int × Int)} {pl : List Int} (hp : Ris n pl) (hw : WOk n ts) : WOk pl.length (partL ts pl) := by
  refine ⟨part_pw hp hw.1, fun t ht => ?_⟩
  obtain ⟨i, j, a, b, rfl, hi, hj, h⟩ := (mem_part hp.nodup).mp ht
  have hb := hw.2 _ h
  have l := ris_lt hp hi hj
  have := l.mpr hb.2.1
  have := (List.getElem?_eq_some_iff.mp hj).1
  dsimp only
  omega
theorem part_len {ts : List (Int × Int)} {pl : List Int} : (partL ts pl).length ≤ ts.length := by
  unfold partL; rw [List.length_map]; exact List.length_filter_le _ _
theorem ris_up (n : Nat) : Ris n (up n) := by
  refine ⟨?_, fun p hp => mem_up.mp hp⟩
  unfold up
  rw [List.pairwise_map]
  exact List.pairwise_lt_range.imp fun h => by omega
theorem up_get {n i : Nat} (h : i < n) : (up n)[i]? = some (i : Int) := by
  unfold up
  rw [List.getElem?_map, List.getElem?_range h]; rfl
theorem part_up {n : Nat} {ts : List (Int × Int)} (hw : WOk n ts) : partL ts (up n) = ts := by
  refine pw_eq (part_pw (ris_up n) hw.1) hw.1 fun t => ?_
  rw [mem_part (ris_up n).nodup]
  constructor
  · rintro ⟨i, j, a, b, rfl, hi, hj, h⟩
    have li : i < n := by have := (List.getElem?_eq_some_iff.mp hi).1; rwa [up_len] at this
    have lj : j < n := by have := (List.getElem?_eq_some_iff.mp hj).1; rwa [up_len] at this
    rw [up_get li] at hi
    rw [up_get lj] at hj
    cases hi; cases hj
    exact h
  · intro h
    have b := hw.2 t h
    refine ⟨t.1.toNat, t.2.toNat, t.1, t.2, ?_, ?_, ?_, h⟩
    · cases t with | mk x y => dsimp only at b ⊢; congr 1 <;> omega
    · rw [up_get (by omega)]; congr 1; omega
    · rw [up_get (by omega)]; congr 1; omega
theorem part_nil (ts : List (Int × Int)) : partL ts [] = [] := by
  unfold partL
  have : (ts.filter fun t => decide (t.1 ∈ ([] : List Int)) && decide (t.2 ∈ ([] : List Int))) = [] := by
    rw [List.filter_eq_nil_iff]; intro a _; simp
  rw [this]; rfl
/-- some of the places -/
def pick (pl inn : List Int) : List Int := inn.map fun p => pl.getD p.toNat 0
theorem pick_get {pl inn : List Int} {n : Nat} (hi : Ris pl.length inn) {i : Nat} {p : Int} (h : inn[i]? = some p) : ∃ a, pl[p.toNat]? = some a ∧ (pick pl inn)[i]? = some a := by
  have b := hi.2 p (List.mem_of_getElem? h)
  have hl : p.toNat < pl.length := by omega
  refine ⟨pl[p.toNat], List.getElem?_eq_getElem hl, ?_⟩
  unfold pick
  rw [List.getElem?_map, h]
  show some (pl.getD p.toNat 0) = _
  rw [List.getD_eq_getElem?_getD, List.getElem?_eq_getElem hl]; rfl
theorem pick_ris {n : Nat} {pl inn : List Int} (hp : Ris n pl) (hi : Ris pl.length inn) : Ris n (pick pl inn) := by
  refine ⟨?_, fun x hx => ?_⟩
  · rw [List.pairwise_iff_getElem]
    intro i j li lj hij
    have li' : i < inn.length := by unfold pick at li; rwa [List.length_map] at li
    have lj' : j < inn.length := by unfold pick at lj; rwa [List.length_map] at lj
    obtain ⟨a, ha, ga⟩ := pick_get (n := n) hi (List.getElem?_eq_getElem li')
    obtain ⟨b, hb, gb⟩ := pick_get (n := n) hi (List.getElem?_eq_getElem lj')
    rw [List.getElem?_eq_getElem li] at ga
    rw [List.getElem?_eq_getElem lj] at gb
    have e1 := Option.some.inj ga
    have e2 := Option.some.inj gb
    rw [e1, e2]
    have := (List.pairwise_iff_getElem.mp hi.1) i j li' lj' hij
    have b1 := hi.2 _ (List.getElem_mem li')
    have b2 := hi.2 _ (List.getElem_mem lj')
    exact (ris_lt hp ha hb).mp (by omega)
  · unfold pick at hx
    obtain ⟨p, hp', rfl⟩ := List.mem_map.mp hx
    have b := hi.2 p hp'
    have hl : p.toNat < pl.length := by omega
    rw [List.getD_eq_getElem?_getD, List.getElem?_eq_getElem hl]
    exact hp.2 _ (List.getElem_mem hl)
theorem part_part {n : Nat} {ts : List (Int × Int)} {pl inn : List Int} (hw : ts.Pairwise ltT) (hp : Ris n pl) (hi : Ris pl.length inn) :
    partL (partL ts pl) inn = partL ts (pick pl inn) := by
  have hq := pick_ris hp hi
  refine pw_eq (part_pw hi (part_pw hp hw)) (part_pw hq hw) fun t => ?_
  rw [mem_part hi.nodup, mem_part hq.nodup]
  constructor
  · rintro ⟨i, j, a, b, rfl, h1, h2, h3⟩
    obtain ⟨i', j', a', b', e, k1, k2, k3⟩ := (mem_part hp.nodup).mp h3
    cases e
    obtain ⟨x, hx, gx⟩ := pick_get (n := n) hi h1
    obtain ⟨y, hy, gy⟩ := pick_get (n := n) hi h2
    rw [Int.toNat_natCast, k1] at hx
    rw [Int.toNat_natCast, k2] at hy
    cases hx; cases hy
    exact ⟨i, j, _, _, rfl, gx, gy, k3⟩
  · rintro ⟨i, j, a, b, rfl, h1, h2, h3⟩
    have li : i < inn.length := by have := (List.getElem?_eq_some_iff.mp h1).1; unfold pick at this; rwa [List.length_map] at this
    have lj : j < inn.length := by have := (List.getElem?_eq_some_iff.mp h2).1; unfold pick at this; rwa [List.length_map] at this
    obtain ⟨x, hx, gx⟩ := pick_get (n := n) hi (List.getElem?_eq_getElem li)
    obtain ⟨y, hy, gy⟩ := pick_get (n := n) hi (List.getElem?_eq_getElem lj)
    rw [h1] at gx
    rw [h2] at gy
    cases gx; cases gy
    have b1 := hi.2 _ (List.getElem_mem li)
    have b2 := hi.2 _ (List.getElem_mem lj)
    refine ⟨i, j, inn[i], inn[j], rfl, List.getElem?_eq_getElem li, List.getElem?_eq_getElem lj, (mem_part hp.nodup).mpr ⟨inn[i].toNat, inn[j].toNat, a, b, ?_, hx, hy, h3⟩⟩
    congr 1 <;> omega
end My

set_option Elab.async false
set_option linter.all false
set_option maxRecDepth 100000
namespace My
open PySem PySem.Spec PyProof.Rows L2 GxR

/-! ### dict comprehensions with keys of any kind (DPut) -/
section
variable {X : Cx}
theorem d_dictPut {pins : List (Addr × Obj)} {σ : L2.St} {H H' : Hp} {s : Shared} {E : Value → Shared → Prop} {D : Addr} {y v : V} {u r : Value} {Q : Unit → Shared → Prop} (hu : X.A.units + 1 < cLine) (I : Inv X pins σ H s) (g : DPut H D y v H')
    (ry : RelV y u) (rv : RelV v r) (h : ∀ s', Inv X pins σ H' s' → Q () s') : wpAny (model X.prog X.w) X.A (dictSet D u r) Q E s := by
  rcases g with ⟨kvs, k, e, rfl, l, rfl⟩ | ⟨kvs, k, b, e, rfl, eb, l, rfl⟩
  · exact d_dictSet I e l ry rv h
  · cases (show u = Value.ref b from ry)
    obtain ⟨z, hd, xs, rel, dd⟩ := dt_of I.hok e
    have hz : xs.length ≤ sizeLine := by
      rw [← Paired.length rel]; exact z
    have hp := length_putK kvs k v
    refine wpAny_dictSet_heap (hsz := hz) (show X.A.units < cLine from Nat.lt_of_succ_lt hu) (L2.key_of I.hok eb) dd fun h' dd' hs => h _ ?_
    obtain ⟨q, es, ep, hq, h2, h3, h4, _, h5⟩ := dd'
    refine d_write I (by rw [e]; exact True.intro) hs ⟨q, hq⟩ ⟨by omega, hd, _, (rel.put k eb rv).keeps fun c ys ec => ?_, q, es, ep, hq, h2, h3, h4, h5⟩
    rw [upd_ne (ne_of ec e (fun z => nomatch z))]; exact ec
/-- the turn behind what is yielded -/
def dcStep (g : TG) (tt : TT) (tk tv : TE) (vs : List Nat) (σ : L2.St) (D : Addr) (Nx : Hp → Prop) (x : V) (H' : Hp) : Prop :=
  g x (wipe σ vs) H' fun σ2 H2 => wipe σ2 vs = wipe σ vs ∧ tt σ2 H2 fun b H3 => if b = true then tk σ2 H3 fun y H4 => tv σ2 H4 fun z H5 => ∃ H6, DPut H5 D y z H6 ∧ Nx H6 else Nx H3
def tDcP (o0 : HO) (wi : TI) (g : TG) (tt : TT) (tk tv : TE) (vs : List Nat) : TE := fun σ H Q => wi σ H fun J H1 => ∀ D, H1 D = none → ∃ W : Nat → Nat → Hp → Prop, (∃ m, W 0 m (upd H1 D o0)) ∧ ∀ i m H, W i m H →
  (J.stop i H ∧ Q (.ref D) H) ∨ (J.go i H ∧ ∃ Nx : Hp → Prop, (∀ H', Nx H' → ∃ m', m' < m ∧ W (i + 1) m' H') ∧ ∀ x H', J.yld i H x H' → dcStep g tt tk tv vs σ D Nx x H')
/-- a new empty dict may be read so -/
def Empt (o0 : HO) : Prop := ∀ (P : Program) (w : World) (H : Hp) (h : Heap), sysModules < h.objs.size → ObjOk P w H (h.push { cls := .type "dict", data := .dict #[] }) h.objs.size o0
theorem empt_dK : Empt (.dK []) := fun _ _ _ h hb => dk_empty h hb
theorem empt_dT : Empt (.dT []) := fun _ _ _ h hb => dt_empty h hb
abbrev inCell (X : Cx) (s : Shared) (scope : Scope) : Env := compEnvC scope (cellsFrom (s.heap.objs.size + 1) scope.names (cloFrom X.env.cells scope.names [])) s.heap.objs.size X.env
theorem pe_dcP {o0 : HO} {kx vx tg iter : Expr} {ifs : List Expr} {scope : Scope} {own : List (Str × Nat)} {pos : Pos} {wi : TI} {g : TG} {tt : TT} {tk tv : TE} (em : Empt o0) (hu : X.A.units + 1 < cLine) (hc : X.calm = true) (hN : X.N.Nodup) (hi : PI X tg iter wi) (ok : BlkOk X.N X.env.scope scope own)
    (hg : ∀ (s : Shared) (H : Hp) (C : Addr) (cl : List (Str × Addr)) (fp : List Addr), PG (X.blk s H scope (compEnvC scope cl C X.env) fp) tg g)
    (ht : ∀ (s : Shared) (H : Hp) (C : Addr) (cl : List (Str × Addr)) (fp : List Addr), PTs (X.blk s H scope (compEnvC scope cl C X.env) fp) ifs tt)
    (hk : ∀ (s : Shared) (H : Hp) (C : Addr) (cl : List (Str × Addr)) (fp : List Addr), PE (X.blk s H scope (compEnvC scope cl C X.env) fp) kx tk)
    (he : ∀ (s : Shared) (H : Hp) (C : Addr) (cl : List (Str × Addr)) (fp : List Addr), PE (X.blk s H scope (compEnvC scope cl C X.env) fp) vx tv) (hs : ∀ x, foldedSetIterable iter X.env x = pure x := by intro _; rfl) :
    PE X (.DictComp kx vx [⟨tg, iter, ifs, 0⟩] scope pos) (tDcP o0 wi g tt tk tv (own.map (·.2))) := by
  refine ⟨fun pins s σ H Q I h => ?_⟩
  rw [arm_eval_DictComp]
  have fr : ∀ y ∈ scope.names, y.2 = .free → ∃ c, X.env.cells.lookup y.1 = some c := fun y hy e => (ok.free y hy e).elim (fun k => I.ok.has _ (.inl k)) fun k => I.ok.has _ (.inr k)
  refine wpAny_comprehension_free rfl hs (closure_ok fr) ok.kind (fun y hy e => by rw [ok.uniq y hy, e]) ?_
  refine thn (hi.run pins s σ H _ I h) fun _ _ hx => thn hx fun _ s2 h2 => ?_
  obtain ⟨it, fp, tn, J, H2, rfl, I2, T, st2, f2, q⟩ := h2
  refine wpAny_newObj_type (newEnv_comp ?_)
  generalize hD : s2.heap.objs.size = D
  obtain ⟨W, ⟨m0, w0⟩, turn⟩ := q D (I2.hok.fresh (Nat.le_of_eq hD))
  generalize hs3 : (⟨s2.heap.push { cls := .type "dict", data := .dict #[] }, s2.gens, s2.drawn, s2.toks, s2.os⟩ : Shared) = s3
  have I3 : Inv X pins σ (upd H2 D o0) s3 := by
    rw [← hs3]
    refine I2.laid (t' := s2.toks) (fun b o e => Heap.get?_push_of_some _ e) (Nat.le_of_eq hD) ?_
    rw [← hD]; exact em _ _ _ _ I2.big
  have h3 : s3.heap = s2.heap.push { cls := .type "dict", data := .dict #[] } := by rw [← hs3]
  have f3 : ∀ b ∈ fp, FpOk X pins (upd H2 D o0) b ∧ b < s3.heap.objs.size := fun b hb => by
    obtain ⟨o, e, _⟩ := T.obj _ _ st2 b hb
    have hlt := Heap.lt_size e
    refine ⟨⟨?_, (f2 b hb).2⟩, by rw [h3, Heap.size_push]; exact Nat.lt_succ_of_lt hlt⟩
    rw [upd_ne (by rw [← hD]; exact Nat.ne_of_lt hlt)]; exact (f2 b hb).1
  have st3 : tn 0 s3.heap := T.keep _ _ _ st2 fun b _ o e => by rw [h3]; exact Heap.get?_push_of_some _ e
  have I4 := block_start I3 ok hN f3
  have pg := hg s3 (upd H2 D o0) s3.heap.objs.size (cellsFrom (s3.heap.objs.size + 1) scope.names (cloFrom X.env.cells scope.names [])) fp
  have pt := ht s3 (upd H2 D o0) s3.heap.objs.size (cellsFrom (s3.heap.objs.size + 1) scope.names (cloFrom X.env.cells scope.names [])) fp
  have pk := hk s3 (upd H2 D o0) s3.heap.objs.size (cellsFrom (s3.heap.objs.size + 1) scope.names (cloFrom X.env.cells scope.names [])) fp
  have pe := he s3 (upd H2 D o0) s3.heap.objs.size (cellsFrom (s3.heap.objs.size + 1) scope.names (cloFrom X.env.cells scope.names [])) fp
  refine (?_ : codeAny _ _ (.compStart (.DictComp kx vx [⟨tg, iter, ifs, 0⟩] scope pos) 0 (.ref it) (.ref D) (inCell X s3 scope)) (compPost (model X.prog X.w) X.A X.xe none (fun v s' => ∃ x H', Inv X pins σ H' s' ∧ RelV x v ∧ Q x H') (.ref D) s3.heap.objs.size) { s3 with heap := pushCells (s3.heap.push { cls := .type "dict", data := .dict #[] }) scope.names })
  have nfp : ∀ b ∈ fp, (upd H2 D o0) b = none := fun b hb => (f3 b hb).1.1
  obtain ⟨ce, hce⟩ : ∃ ce, inCell X s3 scope = ce := ⟨_, rfl⟩
  have cL : ce.locals = s3.heap.objs.size := by rw [← hce]; rfl
  rw [show compEnvC scope (cellsFrom (s3.heap.objs.size + 1) scope.names (cloFrom X.env.cells scope.names [])) s3.heap.objs.size X.env = ce from hce] at I4 pg pt pk pe
  rw [hce]
  generalize upd H2 D o0 = H3 at I3 I4 pg pt pk pe w0 nfp f3
  obtain ⟨s4, hs4⟩ : ∃ s4 : Shared, { s3 with heap := pushCells (s3.heap.push { cls := .type "dict", data := .dict #[] }) scope.names } = s4 := ⟨_, rfl⟩
  rw [hs4] at I4 ⊢
  have st4 : tn 0 s4.heap := T.keep _ _ _ st3 fun b _ o e => by
    rw [← hs4]; exact pushCells_keeps _ _ _ _ (Heap.get?_push_of_some _ e)
  let Y := X.blk s3 H3 scope ce fp
  have stat : ∀ {σ' : L2.St} {H' : Hp} {s' : Shared}, Inv Y [] σ' H' s' → (∀ b ∈ fp, H' b = none) → ∀ b ∈ fp, FpOk Y [] H' b := fun {σ' H' s'} I' hn b hb =>
    ⟨hn b hb, (I'.ok.exf b hb).1, I'.ok.exfs b hb, .inl hb, fun x c e => (I'.ok.exf b hb).2 x c e, fun p hp => absurd (show p ∈ ([] : List (Addr × Obj)) ++ [] from hp) (by simp)⟩
  let Z : Nat → Shared → Prop := fun n s' => ∃ i H', Inv Y [] (wipe σ (own.map (·.2))) H' s' ∧ tn i s'.heap ∧ (∀ b ∈ fp, H' b = none) ∧ W i n H'
  have loop : codeAny (model X.prog X.w) X.A (.compLoop (.DictComp kx vx [⟨tg, iter, ifs, 0⟩] scope pos) 0 (.ref it) (.ref D) ce) (compPost (model X.prog X.w) X.A X.xe none (fun v s' => ∃ x H', Inv X pins σ H' s' ∧ RelV x v ∧ Q x H') (.ref D) s3.heap.objs.size) s4 := by
    refine compLoop_anyD Z ?_ m0 ⟨0, H3, I4, st4, nfp, w0⟩
    rintro n s5 ⟨i, H5, I5, st5, n5, w5⟩
    rcases turn i n H5 w5 with ⟨stop, qq⟩ | ⟨go, Nx, hNx, step⟩
    · refine thnF (T.done Y rfl rfl rfl hc i [] s5 _ H5 (fun _ _ => False) I5 (stat I5 n5) st5 stop) fun r s6 ⟨hr, I6⟩ => ?_
      subst hr
      have I7 : Inv X pins σ H5 s6 := I3.call' (ch := fp) I6.os I6.base I6.hok I6.bare fun b hb => (fun (z : FpOk X pins H3 b) => ⟨z.2.2.2.1, z.2.1, z.2.2.2.2.1, z.2.2.2.2.2⟩) (f3 b hb).1
      have nC : H5 s3.heap.objs.size = none := by
        rw [← cL]; exact I6.free
      obtain ⟨m, hn, _⟩ := I6.loc
      have hn' : s6.heap.Ns s3.heap.objs.size m := by
        rw [← cL]; exact hn
      obtain ⟨e0, e1, e2, e3, e4, e5⟩ : FpOk X pins H5 s3.heap.objs.size := I3.fpOk (Nat.le_refl _) nC
      exact ⟨m, hn', fun h'' sb => ⟨.ref D, H5, I7.turned (t' := s6.toks) (fun b o hb e => (sb.2 b hb).trans e) e0 e1 e3 e4 e5, rfl, qq⟩⟩
    · refine thnF (T.item Y rfl rfl rfl hc i [] s5 _ H5 (fun _ _ => False) I5 (stat I5 n5) st5 go) fun r s6 ⟨u, hr, h6⟩ => ?_
      subst hr
      refine thnF h6 fun _ s7 ⟨x, H7, I7, r7, y7, st7, n7⟩ => ?_
      refine thnF (pg.run _ s7 _ H7 x u _ (I7.pinned (stat I7 n7) (T.obj _ _ st7)) r7 (step x H7 y7)) fun _ s8 ⟨σ8, H8, I8, hw8, q8⟩ => ?_
      refine thnF (pt.run _ s8 σ8 H8 _ I8 q8) fun b s9 ⟨H9, I9, q9⟩ => ?_
      have fin : ∀ {s' : Shared} {H' : Hp}, Inv Y ([] ++ pinsAt fp s7.heap) σ8 H' s' → Nx H' → ∃ m, m < n ∧ Z m s' := fun {s' H'} I' nx => by
        obtain ⟨m', hm, w'⟩ := hNx H' nx
        have pin' : ∀ b ∈ fp, ∀ o, s7.heap.get? b = some o → s'.heap.get? b = some o ∧ H' b = none := fun b hb o e =>
          (fun z => ⟨z.1, z.2.1⟩) (I'.pin (b, o) (List.mem_append_right _ (List.mem_append_right _ (mem_pinsAt hb e))))
        have hl : (wipe σ (own.map (·.2))).length = σ8.length := by rw [← hw8, wipe_length]
        refine ⟨m', hm, i + 1, H', (I'.unpinned (pins := [])).weak hl (fun j v e => by rw [← hw8] at e; exact (wipe_some e).1), T.keep _ _ _ st7 fun b hb o e => (pin' b hb o e).1, fun b hb => ?_, w'⟩
        obtain ⟨o, e, _⟩ := T.obj _ _ st7 b hb
        exact (pin' b hb o e).2
      cases b with
      | false => exact fin I9 q9
      | true =>
        refine thnF (pk.run _ s9 σ8 H9 _ I9 q9) fun z s10 ⟨yk, H10, I10, r10, q10⟩ => ?_
        refine thnF (pe.run _ s10 σ8 H10 _ I10 q10) fun z2 s11 ⟨yv, H11, I11, r11, H12, pu, nx⟩ => ?_
        exact d_dictPut (X := Y) hu I11 pu r10 r11 fun s12 I12 => fin I12 nx
  exact codeAny_compStart_dict loop (T.self X.A 0 _ _ _ st4 loop)
end
theorem dcP_it {o0 : HO} {J : It} {n : Nat} {G : Hp → Prop} {Y : Nat → Hp → V → Hp → Prop} (w : Walk J n G Y) {g : TG} {tt : TT} {tk tv : TE} {vs : List Nat} {σ : L2.St} {H1 : Hp} {D : Addr} {Qd : Hp → Prop} (Pv : Nat → Hp → Prop)
    (h0 : Pv 0 (upd H1 D o0)) (hG : ∀ i H, i ≤ n → Pv i H → G H) (hs : ∀ i x H H', i < n → Pv i H → Y i H x H' → dcStep g tt tk tv vs σ D (Pv (i + 1)) x H') (hd : ∀ H, Pv n H → Qd H) :
    ∃ W : Nat → Nat → Hp → Prop, (∃ m, W 0 m (upd H1 D o0)) ∧ ∀ i m H, W i m H → (J.stop i H ∧ Qd H) ∨
      (J.go i H ∧ ∃ Nx : Hp → Prop, (∀ H', Nx H' → ∃ m', m' < m ∧ W (i + 1) m' H') ∧ ∀ x H', J.yld i H x H' → dcStep g tt tk tv vs σ D Nx x H') := by
  refine ⟨fun i m H => m = n - i ∧ i ≤ n ∧ Pv i H, ⟨n, rfl, Nat.zero_le _, h0⟩, ?_⟩
  rintro i m H ⟨rfl, hi, p⟩
  have q := hG i H hi p
  by_cases hlt : i < n
  · exact .inr ⟨w.goes i H hlt q, Pv (i + 1), fun H' p' => ⟨n - (i + 1), by omega, rfl, hlt, p'⟩, fun x H' y => hs i x H H' hlt p (w.yields i H x H' hlt q y)⟩
  · have e : i = n := by omega
    subst e
    exact .inl ⟨w.stops H q, hd H p⟩
/-! ### one walker for all -/
theorem wk {J : It} {n : Nat} {G : Hp → Prop} {Y : Nat → Hp → V → Hp → Prop} (w : Walk J n G Y) {S : (Hp → Prop) → V → Hp → Prop} {H1 : Hp} {Qd : Hp → Prop} (Pv : Nat → Hp → Prop)
    (h0 : Pv 0 H1) (hG : ∀ i H, i ≤ n → Pv i H → G H) (hs : ∀ i x H H', i < n → Pv i H → Y i H x H' → S (Pv (i + 1)) x H') (hd : ∀ H, Pv n H → Qd H) :
    ∃ W : Nat → Nat → Hp → Prop, (∃ m, W 0 m H1) ∧ ∀ i m H, W i m H → (J.stop i H ∧ Qd H) ∨
      (J.go i H ∧ ∃ Nx : Hp → Prop, (∀ H', Nx H' → ∃ m', m' < m ∧ W (i + 1) m' H') ∧ ∀ x H', J.yld i H x H' → S Nx x H') := by
  refine ⟨fun i m H => m = n - i ∧ i ≤ n ∧ Pv i H, ⟨n, rfl, Nat.zero_le _, h0⟩, ?_⟩
  rintro i m H ⟨rfl, hi, p⟩
  have q := hG i H hi p
  by_cases hlt : i < n
  · exact .inr ⟨w.goes i H hlt q, Pv (i + 1), fun H' p' => ⟨n - (i + 1), by omega, rfl, hlt, p'⟩, fun x H' y => hs i x H H' hlt p (w.yields i H x H' hlt q y)⟩
  · have e : i = n := by omega
    subst e
    exact .inl ⟨w.stops H q, hd H p⟩

end My

set_option Elab.async false
set_option linter.all false
set_option maxRecDepth 100000
namespace My
open PySem PySem.Spec PyProof.Rows L2 GxR

/-! ### name = {k: v for ..}, the name a plain local -/
section
variable {X : Cx}
theorem dc_coreP {o0 : HO} {pins : List (Addr × Obj)} {s : Shared} {σ : L2.St} {H : Hp} {Q : VK} {kx vx tg iter : Expr} {ifs : List Expr} {scope : Scope} {own : List (Str × Nat)} {pos pos' : Pos} {wi : TI} {g : TG} {tt : TT} {tk tv : TE} {use : Option (Value → Sem Unit)} {Qf : Value → Shared → Prop} (em : Empt o0) (hu : X.A.units + 1 < cLine) (hc : X.calm = true) (hN : X.N.Nodup) (I : Inv X pins σ H s) (hi : PI X tg iter wi) (ok : BlkOk X.N X.env.scope scope own)
    (hg : ∀ (s : Shared) (H : Hp) (C : Addr) (cl : List (Str × Addr)) (fp : List Addr), PG (X.blk s H scope (compEnvC scope cl C X.env) fp) tg g)
    (ht : ∀ (s : Shared) (H : Hp) (C : Addr) (cl : List (Str × Addr)) (fp : List Addr), PTs (X.blk s H scope (compEnvC scope cl C X.env) fp) ifs tt)
    (hk : ∀ (s : Shared) (H : Hp) (C : Addr) (cl : List (Str × Addr)) (fp : List Addr), PE (X.blk s H scope (compEnvC scope cl C X.env) fp) kx tk)
    (he : ∀ (s : Shared) (H : Hp) (C : Addr) (cl : List (Str × Addr)) (fp : List Addr), PE (X.blk s H scope (compEnvC scope cl C X.env) fp) vx tv) (hs : ∀ x, foldedSetIterable iter X.env x = pure x)
    (h : tDcP o0 wi g tt tk tv (own.map (·.2)) σ H Q)
    (hRR : ∀ D C s' m H', Inv X pins σ H' s' → Q (.ref D) H' → s'.heap.Ns C m → FpOk X pins H' C → compPost (model X.prog X.w) X.A X.xe use Qf (.ref D) C (.ok .next) s') :
    wpAny (model X.prog X.w) X.A (comprehension (.DictComp kx vx [⟨tg, iter, ifs, 0⟩] scope pos) scope X.env pos' (newObj (.type "dict") (.dict #[])) false (eval iter X.env) use) Qf X.xe s := by
  have fr : ∀ y ∈ scope.names, y.2 = .free → ∃ c, X.env.cells.lookup y.1 = some c := fun y hy e => (ok.free y hy e).elim (fun k => I.ok.has _ (.inl k)) fun k => I.ok.has _ (.inr k)
  refine wpAny_comprehension_free (use := use) rfl hs (closure_ok fr) ok.kind (fun y hy e => by rw [ok.uniq y hy, e]) ?_
  refine thn (hi.run pins s σ H _ I h) fun _ _ hx => thn hx fun _ s2 h2 => ?_
  obtain ⟨it, fp, tn, J, H2, rfl, I2, T, st2, f2, q⟩ := h2
  refine wpAny_newObj_type (newEnv_comp ?_)
  generalize hD : s2.heap.objs.size = D
  obtain ⟨W, ⟨m0, w0⟩, turn⟩ := q D (I2.hok.fresh (Nat.le_of_eq hD))
  generalize hs3 : (⟨s2.heap.push { cls := .type "dict", data := .dict #[] }, s2.gens, s2.drawn, s2.toks, s2.os⟩ : Shared) = s3
  have I3 : Inv X pins σ (upd H2 D o0) s3 := by
    rw [← hs3]
    refine I2.laid (t' := s2.toks) (fun b o e => Heap.get?_push_of_some _ e) (Nat.le_of_eq hD) ?_
    rw [← hD]; exact em _ _ _ _ I2.big
  have h3 : s3.heap = s2.heap.push { cls := .type "dict", data := .dict #[] } := by rw [← hs3]
  have f3 : ∀ b ∈ fp, FpOk X pins (upd H2 D o0) b ∧ b < s3.heap.objs.size := fun b hb => by
    obtain ⟨o, e, _⟩ := T.obj _ _ st2 b hb
    have hlt := Heap.lt_size e
    refine ⟨⟨?_, (f2 b hb).2⟩, by rw [h3, Heap.size_push]; exact Nat.lt_succ_of_lt hlt⟩
    rw [upd_ne (by rw [← hD]; exact Nat.ne_of_lt hlt)]; exact (f2 b hb).1
  have st3 : tn 0 s3.heap := T.keep _ _ _ st2 fun b _ o e => by rw [h3]; exact Heap.get?_push_of_some _ e
  have I4 := block_start I3 ok hN f3
  have pg := hg s3 (upd H2 D o0) s3.heap.objs.size (cellsFrom (s3.heap.objs.size + 1) scope.names (cloFrom X.env.cells scope.names [])) fp
  have pt := ht s3 (upd H2 D o0) s3.heap.objs.size (cellsFrom (s3.heap.objs.size + 1) scope.names (cloFrom X.env.cells scope.names [])) fp
  have pk := hk s3 (upd H2 D o0) s3.heap.objs.size (cellsFrom (s3.heap.objs.size + 1) scope.names (cloFrom X.env.cells scope.names [])) fp
  have pe := he s3 (upd H2 D o0) s3.heap.objs.size (cellsFrom (s3.heap.objs.size + 1) scope.names (cloFrom X.env.cells scope.names [])) fp
  refine (?_ : codeAny _ _ (.compStart (.DictComp kx vx [⟨tg, iter, ifs, 0⟩] scope pos) 0 (.ref it) (.ref D) (inCell X s3 scope)) (compPost (model X.prog X.w) X.A X.xe use Qf (.ref D) s3.heap.objs.size) { s3 with heap := pushCells (s3.heap.push { cls := .type "dict", data := .dict #[] }) scope.names })
  have nfp : ∀ b ∈ fp, (upd H2 D o0) b = none := fun b hb => (f3 b hb).1.1
  obtain ⟨ce, hce⟩ : ∃ ce, inCell X s3 scope = ce := ⟨_, rfl⟩
  have cL : ce.locals = s3.heap.objs.size := by rw [← hce]; rfl
  rw [show compEnvC scope (cellsFrom (s3.heap.objs.size + 1) scope.names (cloFrom X.env.cells scope.names [])) s3.heap.objs.size X.env = ce from hce] at I4 pg pt pk pe
  rw [hce]
  generalize upd H2 D o0 = H3 at I3 I4 pg pt pk pe w0 nfp f3
  obtain ⟨s4, hs4⟩ : ∃ s4 : Shared, { s3 with heap := pushCells (s3.heap.push { cls := .type "dict", data := .dict #[] }) scope.names } = s4 := ⟨_, rfl⟩
  rw [hs4] at I4 ⊢
  have st4 : tn 0 s4.heap := T.keep _ _ _ st3 fun b _ o e => by
    rw [← hs4]; exact pushCells_keeps _ _ _ _ (Heap.get?_push_of_some _ e)
  let Y := X.blk s3 H3 scope ce fp
  have stat : ∀ {σ' : L2.St} {H' : Hp} {s' : Shared}, Inv Y [] σ' H' s' → (∀ b ∈ fp, H' b = none) → ∀ b ∈ fp, FpOk Y [] H' b := fun {σ' H' s'} I' hn b hb =>
    ⟨hn b hb, (I'.ok.exf b hb).1, I'.ok.exfs b hb, .inl hb, fun x c e => (I'.ok.exf b hb).2 x c e, fun p hp => absurd (show p ∈ ([] : List (Addr × Obj)) ++ [] from hp) (by simp)⟩
  let Z : Nat → Shared → Prop := fun n s' => ∃ i H', Inv Y [] (wipe σ (own.map (·.2))) H' s' ∧ tn i s'.heap ∧ (∀ b ∈ fp, H' b = none) ∧ W i n H'
  have loop : codeAny (model X.prog X.w) X.A (.compLoop (.DictComp kx vx [⟨tg, iter, ifs, 0⟩] scope pos) 0 (.ref it) (.ref D) ce) (compPost (model X.prog X.w) X.A X.xe use Qf (.ref D) s3.heap.objs.size) s4 := by
    refine compLoop_anyD Z ?_ m0 ⟨0, H3, I4, st4, nfp, w0⟩
    rintro n s5 ⟨i, H5, I5, st5, n5, w5⟩
    rcases turn i n H5 w5 with ⟨stop, qq⟩ | ⟨go, Nx, hNx, step⟩
    · refine thnF (T.done Y rfl rfl rfl hc i [] s5 _ H5 (fun _ _ => False) I5 (stat I5 n5) st5 stop) fun r s6 ⟨hr, I6⟩ => ?_
      subst hr
      have I7 : Inv X pins σ H5 s6 := I3.call' (ch := fp) I6.os I6.base I6.hok I6.bare fun b hb => (fun (z : FpOk X pins H3 b) => ⟨z.2.2.2.1, z.2.1, z.2.2.2.2.1, z.2.2.2.2.2⟩) (f3 b hb).1
      have nC : H5 s3.heap.objs.size = none := by
        rw [← cL]; exact I6.free
      obtain ⟨m, hn, _⟩ := I6.loc
      have hn' : s6.heap.Ns s3.heap.objs.size m := by
        rw [← cL]; exact hn
      have fpo : FpOk X pins H5 s3.heap.objs.size := I3.fpOk (Nat.le_refl _) nC
      exact hRR D _ s6 m H5 I7 qq hn' fpo
    · refine thnF (T.item Y rfl rfl rfl hc i [] s5 _ H5 (fun _ _ => False) I5 (stat I5 n5) st5 go) fun r s6 ⟨u, hr, h6⟩ => ?_
      subst hr
      refine thnF h6 fun _ s7 ⟨x, H7, I7, r7, y7, st7, n7⟩ => ?_
      refine thnF (pg.run _ s7 _ H7 x u _ (I7.pinned (stat I7 n7) (T.obj _ _ st7)) r7 (step x H7 y7)) fun _ s8 ⟨σ8, H8, I8, hw8, q8⟩ => ?_
      refine thnF (pt.run _ s8 σ8 H8 _ I8 q8) fun b s9 ⟨H9, I9, q9⟩ => ?_
      have fin : ∀ {s' : Shared} {H' : Hp}, Inv Y ([] ++ pinsAt fp s7.heap) σ8 H' s' → Nx H' → ∃ m, m < n ∧ Z m s' := fun {s' H'} I' nx => by
        obtain ⟨m', hm, w'⟩ := hNx H' nx
        have pin' : ∀ b ∈ fp, ∀ o, s7.heap.get? b = some o → s'.heap.get? b = some o ∧ H' b = none := fun b hb o e =>
          (fun z => ⟨z.1, z.2.1⟩) (I'.pin (b, o) (List.mem_append_right _ (List.mem_append_right _ (mem_pinsAt hb e))))
        have hl : (wipe σ (own.map (·.2))).length = σ8.length := by rw [← hw8, wipe_length]
        refine ⟨m', hm, i + 1, H', (I'.unpinned (pins := [])).weak hl (fun j v e => by rw [← hw8] at e; exact (wipe_some e).1), T.keep _ _ _ st7 fun b hb o e => (pin' b hb o e).1, fun b hb => ?_, w'⟩
        obtain ⟨o, e, _⟩ := T.obj _ _ st7 b hb
        exact (pin' b hb o e).2
      cases b with
      | false => exact fin I9 q9
      | true =>
        refine thnF (pk.run _ s9 σ8 H9 _ I9 q9) fun z s10 ⟨yk, H10, I10, r10, q10⟩ => ?_
        refine thnF (pe.run _ s10 σ8 H10 _ I10 q10) fun z2 s11 ⟨yv, H11, I11, r11, H12, pu, nx⟩ => ?_
        exact d_dictPut (X := Y) hu I11 pu r10 r11 fun s12 I12 => fin I12 nx
  exact codeAny_compStart_dict loop (T.self X.A 0 _ _ _ st4 loop)
theorem ps_setDcP {o0 : HO} {i : Nat} {y : Str} {py : Pos} {kx vx tg iter : Expr} {ifs : List Expr} {scope : Scope} {own : List (Str × Nat)} {pos spos : Pos} {wi : TI} {g : TG} {tt : TT} {tk tv : TE} (em : Empt o0) (hu : X.A.units + 1 < cLine) (hc : X.calm = true) (hN : X.N.Nodup) (hy : X.N[i]? = some y) (hyl : X.env.scope.names.lookup y = some .local)
    (hsw : swapsWith (.DictComp kx vx [⟨tg, iter, ifs, 0⟩] scope pos) (some (.Name y py)) spos.line X.env = pure true) (hi : PI X tg iter wi) (ok : BlkOk X.N X.env.scope scope own)
    (hg : ∀ (s : Shared) (H : Hp) (C : Addr) (cl : List (Str × Addr)) (fp : List Addr), PG (X.blk s H scope (compEnvC scope cl C X.env) fp) tg g)
    (ht : ∀ (s : Shared) (H : Hp) (C : Addr) (cl : List (Str × Addr)) (fp : List Addr), PTs (X.blk s H scope (compEnvC scope cl C X.env) fp) ifs tt)
    (hk : ∀ (s : Shared) (H : Hp) (C : Addr) (cl : List (Str × Addr)) (fp : List Addr), PE (X.blk s H scope (compEnvC scope cl C X.env) fp) kx tk)
    (he : ∀ (s : Shared) (H : Hp) (C : Addr) (cl : List (Str × Addr)) (fp : List Addr), PE (X.blk s H scope (compEnvC scope cl C X.env) fp) vx tv) (hs : ∀ x, foldedSetIterable iter X.env x = pure x := by intro _; rfl) :
    PS X (.Assign [.Name y py] (.DictComp kx vx [⟨tg, iter, ifs, 0⟩] scope pos) spos) (tAsg (tDcP o0 wi g tt tk tv (own.map (·.2))) (gName i)) := by
  refine ⟨fun pins s σ H D I h => ?_⟩
  rw [exec_Assign_Name_used _ _ _ _ hsw]
  have h' : tDcP o0 wi g tt tk tv (own.map (·.2)) σ H (fun x H1 => gName i x σ H1 D.nx) := h
  refine wpAny_bind (wpAny_standAt (wpAny_bind (?_ : wpAny _ X.A (do let _ ← comprehension (.DictComp kx vx [⟨tg, iter, ifs, 0⟩] scope pos) scope X.env (firstIterPos [⟨tg, iter, ifs, 0⟩] pos) (newObj (.type "dict") (.dict #[])) false (eval iter X.env) (some (assign (.Name y py) X.env))) _ _ s)))
  refine wpAny_bind (wpAny_mono (dc_coreP (Qf := fun _ s' => SP X pins D .next s') em hu hc hN I hi ok hg ht hk he hs h' fun L C s' m H' I' q hn f => ?_) (fun _ s' hq => wpAny_pure (wpAny_pure hq)) fun _ _ z => z)
  refine (?_ : wpAny _ _ (assign (.Name y py) X.env (.ref L)) _ _ _)
  refine wpAny_assign_Name (store_ok2 (v := V.ref L) I' hN hy (.inl hyl) rfl (fun s2 I2 ⟨a, sb, ha⟩ => ?_) (.inr hyl))
  obtain ⟨f0, f1, f2, f3, f4, f5⟩ := f
  have haC : C ≠ a := by
    rcases ha with z | z
    · rw [z]; exact f1
    · exact fun e => f4 y a z e.symm
  exact ⟨m, hn.sameBut sb haC, fun h3 sb3 => ⟨_, H', I2.turned (t' := s2.toks) (fun b o hb e => (sb3.2 b hb).trans e) f0 f1 f3 f4 f5, q⟩⟩
theorem sw_trueD {kx vx : Expr} {gs : List Comprehension} {scope : Scope} {pos py : Pos} {y : Str} {l : Nat} {env : Env} (hk : env.scope.kind = .function) (hy : env.scope.names.lookup y = some .local) (hl : (py.line == pos.line) = true)
    (ha : (scope.names.any fun (n, k) => n == y && (k == .local || k == .cell)) = false) : swapsWith (.DictComp kx vx gs scope pos) (some (.Name y py)) l env = pure true := by
  have ky : env.kindOf y = some .local := hy
  have hb : env.blockKind = .function := by unfold Env.blockKind; rw [hk]; rfl
  unfold swapsWith
  simp only [hb, ky, ha, Expr.pos, hl]; rfl
end
end My

set_option Elab.async false
set_option linter.all false
set_option maxRecDepth 100000
namespace My
open PySem PySem.Spec PyProof.Rows L2 GxR

/-! ### dicts with tuple keys: update, dict(pairs) -/
def mergeT (kvs more : List (List Key × V)) : List (List Key × V) := more.foldl (fun acc kv => putK acc kv.1 kv.2) kvs
theorem kt_merge {H : Hp} : ∀ {more : List (List Key × V)} {ys : List (List Key × Addr × Value)} {kvs : List (List Key × V)} {xs : List (List Key × Addr × Value)}, KT H more ys → KT H kvs xs → KT H (mergeT kvs more) (storedAllH xs ys)
  | _, _, _, _, .nil, q => q
  | _, _, kvs, xs, .cons (a := p) (b := q) (l₁ := l) (l₂ := m) h t, r => by
    obtain ⟨h1, h2, h3⟩ := h
    have z := KT.put r p.1 (b := q.2.1) h2 h3
    rw [show storedH xs p.1 q.2.1 q.2.2 = storedH xs q.1 q.2.1 q.2.2 from by rw [h1]] at z
    have w : KT H (mergeT (putK kvs p.1 p.2) l) (storedAllH (storedH xs q.1 q.2.1 q.2.2) m) := kt_merge t z
    exact w
theorem len_mergeT : ∀ (more kvs : List (List Key × V)), (mergeT kvs more).length ≤ kvs.length + more.length
  | [], _ => Nat.le_refl _
  | p :: m, kvs => by
    have h1 := len_mergeT m (putK kvs p.1 p.2)
    have h2 := length_putK kvs p.1 p.2
    rw [List.length_cons]
    show (mergeT (putK kvs p.1 p.2) m).length ≤ _
    omega
theorem valV_mergeT (j : List Key) : ∀ (more kvs : List (List Key × V)), (valV (mergeT kvs more) j).isSome = ((valV kvs j).isSome || (valV more j).isSome)
  | [], kvs => by rw [show valV ([] : List (List Key × V)) j = none from rfl]; exact (Bool.or_false _).symm
  | p :: m, kvs => by
    show (valV (mergeT (putK kvs p.1 p.2) m) j).isSome = _
    rw [valV_mergeT j m, valV_put]
    by_cases h : j = p.1
    · rw [if_pos h, valV_pos h.symm]; simp
    · rw [if_neg h, valV_neg (fun z => h z.symm)]
/-- the keys' hashes differ -/
def Apart (w : World) (more : List (List Key × V)) : Prop := (more.map fun kv => reduceHash (Builtin.Tuple.tupleHashOf (kv.1.map (keyH w)))).Nodup
theorem kt_hash {P : Program} {w : World} {H : Hp} : ∀ {more : List (List Key × V)} {ys : List (List Key × Addr × Value)}, KT H more ys → (ys.map fun x => (tupleKind (mixKind P w)).hash x.1) = more.map fun kv => reduceHash (Builtin.Tuple.tupleHashOf (kv.1.map (keyH w)))
  | _, _, .nil => rfl
  | _, _, .cons (a := p) (b := q) h t => by
    rw [List.map_cons, List.map_cons, kt_hash t]
    have e : q.1 = p.1 := h.1.symm
    rw [e]; rfl
section
variable {X : Cx}
def rUpdT (w : World) : V → List V → Hp → VK → Prop := fun x xs H Q => ∃ a b kvs ms, x = .ref a ∧ xs = [.ref b] ∧ H a = some (.dT kvs) ∧ H b = some (.dT ms) ∧ a ≠ b ∧ kvs.length + ms.length ≤ sizeLine ∧ (kvs ≠ [] ∨ Apart w ms) ∧ Q .non (upd H a (.dT (mergeT kvs ms)))
theorem mt_updT (hu : X.A.units + 65 < cLine) : MtR X "dict.update" (rUpdT X.w) := by
  intro pins s σ H x xs v us Q I rx rs h
  obtain ⟨a, b, kvs, ms, rfl, rfl, ea, eb, hab, hz, hap, q⟩ := h
  cases rx
  obtain ⟨u, rfl, ru⟩ := vals1 rs
  cases ru
  obtain ⟨za, ha, xa, ra, da⟩ := dt_of I.hok ea
  obtain ⟨zb, hb, xb, rb, db⟩ := dt_of I.hok eb
  have la : xa.length = kvs.length := (Paired.length ra).symm
  have lb : xb.length = ms.length := (Paired.length rb).symm
  have hl : (mergeT kvs ms).length ≤ sizeLine := Nat.le_trans (len_mergeT ms kvs) hz
  refine call_update_dictH (tupleKind_room_in1 (by omega : X.A.units + 1 < cLine)) hab hb da db ?_ (by omega) fun h' dd' _ hs => ?_
  · rcases hap with hap | hap
    · refine .inl fun z => hap ?_
      rw [z] at la
      exact List.eq_nil_of_length_eq_zero la.symm
    · refine .inr ⟨fun y hy => ?_, by rw [kt_hash rb]; exact hap⟩
      obtain ⟨o, es, ep, _, _, _, _, his, _⟩ := db
      obtain ⟨o', items, n, e1, e2, _⟩ := his y hy
      exact ⟨o', e1, e2⟩
  · obtain ⟨q', es, ep, hq, h2, h3, h4, _, h5⟩ := dd'
    refine ⟨.non, upd H a (.dT (mergeT kvs ms)), d_write (t' := s.toks) I (by rw [ea]; exact True.intro) hs ⟨q', hq⟩ ⟨hl, ha, _, (kt_merge rb ra).keeps fun c ys ec => ?_, q', es, ep, hq, h2, h3, h4, h5⟩, rfl, q⟩
    rw [upd_ne (ne_of ec ea (fun z => nomatch z))]; exact ec

/-- dict(xs) of a list of pairs (tuple, value) -/
def rDictPT (K : PySem.W.Frag) : List V → Hp → VK → Prop := fun xs H Q => ∃ (a : Addr) (ps : List Addr) (kvs : List (List Key × V)), xs = [.ref a] ∧ SqL K H a (ps.map V.ref) ∧ Paired (fun p kv => ∃ b, H p = some (.tup [.ref b, kv.2]) ∧ H b = some (.tup (kv.1.map kV))) ps kvs ∧
  ∀ p, H p = none → Q (.ref p) (upd H p (.dT (mergeT [] kvs)))
theorem pairsT_of {pins : List (Addr × Obj)} {σ : L2.St} {H : Hp} {s : Shared} (I : Inv X pins σ H s) : ∀ {ps : List Addr} {kvs : List (List Key × V)}, Paired (fun p kv => ∃ b, H p = some (.tup [.ref b, kv.2]) ∧ H b = some (.tup (kv.1.map kV))) ps kvs →
    ∃ prs : List (List Key × Addr × Value), KT H kvs prs ∧ prs.length = ps.length ∧ ∀ (j : Nat) (q : List Key × Addr × Value), prs[j]? = some q → ∃ p, ps[j]? = some p ∧ IsTup s.heap p #[.ref q.2.1, q.2.2]
  | _, _, .nil => ⟨[], .nil, rfl, fun j q e => by simp at e⟩
  | _, _, .cons (a := p) (b := kv) h t => by
    obtain ⟨prs, r, hl, hp⟩ := pairsT_of I t
    obtain ⟨b, h1, h2⟩ := h
    obtain ⟨its, rv, ht, _⟩ := I.tuple (SqT.of (K := X.K) h1)
    obtain ⟨u, y, rfl, ru, ry⟩ := vals2 rv
    cases ru
    refine ⟨(kv.1, b, y) :: prs, .cons ⟨rfl, h2, ry⟩ r, by rw [List.length_cons, List.length_cons, hl], fun j q e => ?_⟩
    cases j with
    | zero =>
      have e' : (kv.1, b, y) = q := Option.some.inj e
      subst e'
      exact ⟨p, rfl, ht⟩
    | succ j =>
      obtain ⟨b', e1, e2⟩ := hp j q (by simpa using e)
      exact ⟨b', by simpa using e1, e2⟩
theorem call_dictPT (hcalm : X.calm = true) (hu : X.A.units + 65 < cLine) : CallR X (.type "dict") (rDictPT X.K) := by
  intro pins s σ H xs us Q I r q
  obtain ⟨a, ps, kvs, rfl, hq, hp, q⟩ := q
  obtain ⟨u, rfl, rx⟩ := vals1 r
  cases rx
  obtain ⟨its, rv, pl, hz⟩ := I.list hq
  have ei := refs_at rv
  subst ei
  rw [List.length_map] at hz
  obtain ⟨prs, rel, hl, hpr⟩ := pairsT_of I hp
  have keyed : ∀ x ∈ prs, (tupleKind (mixKind X.prog X.w)).is s.heap x.1 x.2.1 := by
    intro x hx
    have all : ∀ {l : List (List Key × V)} {m : List (List Key × Addr × Value)}, KT H l m → ∀ x ∈ m, H x.2.1 = some (.tup (x.1.map kV)) := by
      intro l m q
      induction q with
      | nil => intro x hx; exact nomatch hx
      | @cons p q ps qs hq t ih =>
        intro x hx
        rcases List.mem_cons.mp hx with e | hx
        · subst e
          rw [← hq.1]; exact hq.2.1
        · exact ih x hx
    exact L2.key_of I.hok (all rel x hx)
  refine call_dict_pairsH (knd := tupleKind (mixKind X.prog X.w)) (ps := prs) (PairArg.list a (ps.map Value.ref).toArray (fun j => ps.getD j 0) (prs.map fun x => (Value.ref x.2.1, x.2.2))) (I.ok.hd hcalm) (show X.A.units + 1 + 1 < cLine by omega) ⟨pl, ?_, fun j k v e => ?_⟩ ⟨by rw [List.length_map], fun i key v e => ?_⟩ (fun h' hk x hx => ?_) (by rw [List.length_map, hl]; exact hz) fun h' tk dd' hk => ?_
  · rw [List.size_toArray, List.length_map, List.length_map, hl]
  · rw [List.getElem?_map] at e
    obtain ⟨q0, e0, e1⟩ := Option.map_eq_some_iff.mp e
    cases e1
    obtain ⟨p, ep, ht⟩ := hpr j q0 e0
    have ed : ps.getD j 0 = p := by rw [List.getD_eq_getElem?_getD, ep]; rfl
    refine ⟨?_, .inl ?_⟩
    · show _ = some (Value.ref (ps.getD j 0))
      rw [ed, List.getElem?_toArray, List.getElem?_map, ep]; rfl
    · show s.heap.IsTuple (ps.getD j 0) _
      rw [ed]; obtain ⟨o, h1, h2, n, h3⟩ := ht; exact ⟨o, h1, h2, n, h3⟩
  · rw [show PairRel (prs.map fun x => (Value.ref x.2.1, x.2.2)) i key v = ((prs.map fun x => (Value.ref x.2.1, x.2.2))[i]? = some (key, v)) from rfl, List.getElem?_map] at e
    obtain ⟨q0, e0, e1⟩ := Option.map_eq_some_iff.mp e
    cases e1
    exact ⟨q0.1, q0.2.1, e0, rfl⟩
  · obtain ⟨o, items, n, e1, e2, e3, e4⟩ := keyed x hx
    exact ⟨o, items, n, hk _ _ (Nat.ne_of_lt (Heap.lt_size e1)) (fun z => nomatch z) e1, e2, e3, e4⟩
  · have hm : (s.heap.objs.size == sysModules) = false := beq_eq_false_iff_ne.mpr (Nat.ne_of_gt I.big)
    have hlen : (mergeT [] kvs).length ≤ sizeLine := by
      refine Nat.le_trans (len_mergeT kvs []) ?_
      rw [List.length_nil, Nat.zero_add, Paired.length rel, hl]
      exact hz
    obtain ⟨q', es, ep, hq', h2, h3, h4, _, h5⟩ := dd'
    refine ⟨.ref s.heap.objs.size, upd H s.heap.objs.size (.dT (mergeT [] kvs)), I.laid (t' := tk) (fun b o e => hk b o (fun z => nomatch z) e) (Nat.le_refl _) ⟨hlen, hm, _, (kt_merge rel .nil).keeps fun c ys ec => ?_, q', es, ep, hq', h2, h3, h4, h5⟩, rfl, q _ (I.hok.fresh (Nat.le_refl _))⟩
    rw [upd_ne (ne_of_none ec (I.hok.fresh (Nat.le_refl _)))]; exact ec

/-! ### a pair the other way about -/
theorem cut2 {s : Shared} {A : Around} {E : Value → Shared → Prop} {sl : Addr} {vs : Value} {Q : Int × Int × Nat → Shared → Prop} (hs : s.heap.IsSliceOf sl .none .none vs) (ps : IsPart vs (some (-1))) (h : Q (1, -1, 2) s) :
    wpAny (model X.prog X.w) A (Builtin.Slice.sliceApplied (.ref sl) (pure (2 : Int))) Q E s := by
  obtain ⟨os, hos, hcs, hds⟩ := id hs
  unfold Builtin.Slice.sliceApplied Builtin.Slice.sliceFields
  refine wpAny_bind (wpAny_bind (wpAny_field hos hds (x := .none) rfl (wpAny_bind (wpAny_field hos hds (x := .none) rfl (wpAny_bind (wpAny_field hos hds (x := vs) rfl (wpAny_pure ?_)))))))
  refine wpAny_bind (HT.slicePart_ ps ?_)
  show wpAny _ _ (if ((-1 : Int) == 0) = true then _ else _) _ _ s
  rw [if_neg (by decide)]
  refine wpAny_bind (HT.slicePart_ .none (wpAny_bind (HT.slicePart_ .none (wpAny_bind (wpAny_pure ?_)))))
  exact wpAny_pure h
theorem pick2 (x y : Value) : ((List.range 2).filterMap fun (m : Nat) => (#[x, y] : Array Value)[((1 : Int) + (m : Int) * -1).toNat]?).toArray = #[y, x] := rfl
theorem rev2 {s : Shared} {A : Around} {E : Value → Shared → Prop} {t sl : Addr} {x y vs : Value} {Q : Value → Shared → Prop} (ht : IsTup s.heap t #[x, y]) (hs : s.heap.IsSliceOf sl .none .none vs) (ps : IsPart vs (some (-1)))
    (h : Q (.ref s.heap.objs.size) { s with heap := s.heap.push { cls := .type "tuple", data := .seq #[y, x] } }) : wpAny (model X.prog X.w) A (getItem (.ref t) (.ref sl)) Q E s := by
  obtain ⟨os, hos, hcs, hds⟩ := id hs
  have hTs : s.TypeIs (.ref sl) "slice" := ⟨os, hos, hcs⟩
  have hz : sizeOk (.seq #[y, x]) := by show 2 ≤ sizeLine; decide
  unfold getItem
  try with_reducible refine wpAny_holding ?_
  first | refine wpAny_bind (wpAny_pure ?_) | skip
  refine wpAny_bind (wpAny_sequenceKey ht.typeIs (by decide) ?_)
  refine wpAny_bind (wpAny_callSpecial?_slot (name := Str.ofString "__getitem__") ht.typeIs PyProof.Rows.slot_tuple_getitem (wpAny_call_entry PyProof.Rows.slot_tuple_getitem ht.typeIs entry_tuple_getitem ?_ (args_tuple_getitem _ _)))
  show wpAny _ _ (Builtin.Tuple.tupleItemsOf (.ref t) >>= _) _ _ s
  refine wpAny_bind (tupleItemsOf_ ht (wpAny_bind (wpAny_typeOf hTs ?_)))
  rw [if_pos (by decide)]
  refine wpAny_bind (cut2 hs ps ?_)
  show wpAny _ _ (if ((1 : Int) == 0 && (-1 : Int) == 1 && (2 : Nat) == 2) = true then _ else _) _ _ s
  rw [if_neg (by decide), pick2]
  first
    | exact wpAny_bind (m := Builtin.Tuple.tupleExact _) (wpAny_newObj_type (wpAny_pure ⟨_, rfl, wpAny_pure h⟩) hz)
    | exact wpAny_bind (m := Builtin.Tuple.tupleExact _) (wpAny_newObj_type (wpAny_bind (wpAny_pure (wpAny_pure ⟨_, rfl, wpAny_pure h⟩))) hz)
    | exact wpAny_bind (wpAny_bind (m := Builtin.Tuple.tupleExact _) (wpAny_newObj_type (wpAny_pure (wpAny_pure ⟨_, rfl, wpAny_pure h⟩)) hz))
    | exact wpAny_bind (wpAny_bind (m := Builtin.Tuple.tupleExact _) (wpAny_newObj_type (wpAny_pure ⟨_, rfl, wpAny_pure h⟩) hz))
def tRev2 (te : TE) : TE := fun σ H Q => te σ H fun x H1 => ∃ a u v, x = .ref a ∧ H1 a = some (.tup [u, v]) ∧ ∀ p, H1 p = none → Q (.ref p) (upd H1 p (.tup [v, u]))
theorem pe_rev2 {e : Expr} {te : TE} {k : Nat} {p1 p2 p3 pos : Pos} (he : PE X e te) : PE X (.Subscript e (.Slice none none (some (.UnaryOp .USub (.Constant (.int 1) k p1) p2)) p3) pos) (tRev2 te) := by
  refine ⟨fun pins s σ H Q I h => Subscript_ (thn (he.run pins s σ H _ I h) fun v s1 ⟨x, H1, I1, r1, a, x0, x1, ex, hx, q⟩ => ?_)⟩
  subst ex; cases r1
  have hst : PO X (some (.UnaryOp .USub (.Constant (.int 1) k p1) p2)) (tPart (tUn (rU fun i => .int (-i)) (tC (.int 1)))) := po_some (pe_un un_neg pe_int)
  refine wpAny_Slice (thn (po_none.run pins s1 σ H1 (fun o H2 => o = none ∧ H2 = H1) I1 ⟨rfl, rfl⟩) fun vl s2 ⟨l, H2, I2, pl, el, e2⟩ => ?_); subst el e2
  refine thn (po_none.run pins s2 σ H2 (fun o H3 => o = none ∧ H3 = H2) I2 ⟨rfl, rfl⟩) fun vu s3 ⟨u, H3, I3, pu, eu, e3⟩ => ?_; subst eu e3
  refine thn (hst.run pins s3 σ H3 (fun o H4 => o = some (-1) ∧ H4 = H3) I3 ⟨1, rfl, -1, rfl, rfl, rfl⟩) fun vs s4 ⟨o, H4, I4, ps, eo, e4⟩ => ?_; subst eo e4
  cases pl; cases pu
  generalize hs5 : ({ s4 with heap := s4.heap.push { cls := .type "slice", data := .fields #[.none, .none, vs] } } : Shared) = s5
  have I5 : Inv X pins σ H4 s5 := by
    rw [← hs5]
    exact I4.kept (t' := s4.toks) fun b ob q => Heap.get?_push_of_some _ q
  obtain ⟨its, r, ht, hz⟩ := I5.tuple (SqT.of (K := X.K) hx)
  obtain ⟨u0, u1, rfl, r0, r1⟩ := vals2 r
  have hsl : s5.heap.IsSliceOf s4.heap.objs.size .none .none vs := by rw [← hs5]; exact Heap.IsSliceOf.new _ _ _ _
  refine (?_ : wpAny (model X.prog X.w) X.A (subscriptTail e (.Slice none none (some (.UnaryOp .USub (.Constant (.int 1) k p1) p2)) p3) (.ref a) (.ref s4.heap.objs.size)) (EP X pins σ Q) X.xe s5)
  refine tail_any (ops := [.ref a, .ref s4.heap.objs.size]) ht.typeIs (PyProof.Rows.slot_tuple_getitem.lookup) ?_ (by with_unfolding_all rfl)
  refine rev2 ht hsl ps ⟨.ref _, _, I5.laid (t' := s5.toks) (o := .tup [x1, x0]) (fun b ob q => Heap.get?_push_of_some _ q) (Nat.le_refl _) ?_, rfl, q _ (I5.hok.fresh (Nat.le_refl _))⟩
  exact ⟨by show 2 ≤ sizeLine; decide, [u1, u0], .cons r1 (.cons r0 .nil), IsTup.new _ _⟩

/-! ### {k: v} -/
def tDisp1 (o0 : HO) (tk tv : TE) : TE := fun σ H Q => ∀ p, H p = none → tk σ (upd H p o0) fun x H1 => tv σ H1 fun y H2 => ∃ H3, DPut H2 p x y H3 ∧ Q (.ref p) H3
theorem pe_disp1 {o0 : HO} {k v : Expr} {tk tv : TE} {pos : Pos} (em : Empt o0) (hu : X.A.units + 1 < cLine) (hk : PE X k tk) (hv : PE X v tv) : PE X (.Dict [some k] [v] pos) (tDisp1 o0 tk tv) := by
  refine ⟨fun pins s σ H Q I q => ?_⟩
  have hn := I.hok.fresh (Nat.le_refl s.heap.objs.size)
  have I1 := I.laid (a := s.heap.objs.size) (o := o0) (h' := s.heap.push { cls := .type "dict", data := .dict #[] }) (t' := s.toks) (fun _ _ q => Heap.get?_push_of_some _ q) (Nat.le_refl _) (em _ _ _ _ I.big)
  refine wpAny_Dict_any rfl rfl (by exact fun z => nomatch z) (by show 1 ≤ 15; decide) ?_
  refine pairTrees_cons_walk (thn (hk.run pins _ σ _ _ I1 (q _ hn)) fun u s1 ⟨x, H1, J1, rx, q1⟩ => thn (hv.run pins s1 σ H1 _ J1 q1) fun w2 s2 ⟨y, H2, J2, ry, H3, pu, q2⟩ => ?_)
  refine pairTrees_nil_walk ?_
  unfold storeAll
  rw [List.forIn_cons]
  refine wpAny_bind (wpAny_bind (d_dictPut hu J2 pu rx ry fun s3 J3 => wpAny_pure ?_))
  show wpAny _ _ (forIn [] PUnit.unit _) _ _ s3
  rw [List.forIn_nil]
  exact wpAny_pure ⟨.ref s.heap.objs.size, H3, J3, rfl, q2⟩
end
/-! ### hashes of pairs of places -/
def hv (a b : Nat) : Int := reduceHash (Builtin.Tuple.tupleHashOf [hashInt (a : Int), hashInt (b : Int)])
theorem hv_nd : ((List.range 144).map fun k => hv (k / 12) (k % 12)).Nodup := by decide +kernel
def pk (t : Int × Int) : List Key := [Sum.inl t.1, Sum.inl t.2]
theorem pk_inj {s t : Int × Int} (h : pk s = pk t) : s = t := by
  cases s; cases t; cases h; rfl
theorem hv_inj {a b c d : Nat} (ha : a < 12) (hb : b < 12) (hc : c < 12) (hd : d < 12) (h : hv a b = hv c d) : a = c ∧ b = d := by
  have pw := List.pairwise_iff_getElem.mp (List.nodup_iff_pairwise_ne.mp hv_nd)
  have l : ((List.range 144).map fun k => hv (k / 12) (k % 12)).length = 144 := by rw [List.length_map, List.length_range]
  have g : ∀ k (hk : k < ((List.range 144).map fun k => hv (k / 12) (k % 12)).length), ((List.range 144).map fun k => hv (k / 12) (k % 12))[k] = hv (k / 12) (k % 12) := fun k hk => by
    rw [List.getElem_map, List.getElem_range]
  have e1 : (12 * a + b) / 12 = a := by omega
  have e2 : (12 * a + b) % 12 = b := by omega
  have e3 : (12 * c + d) / 12 = c := by omega
  have e4 : (12 * c + d) % 12 = d := by omega
  have hi : 12 * a + b < ((List.range 144).map fun k => hv (k / 12) (k % 12)).length := by omega
  have hj : 12 * c + d < ((List.range 144).map fun k => hv (k / 12) (k % 12)).length := by omega
  rcases Nat.lt_trichotomy (12 * a + b) (12 * c + d) with z | z | z
  · have := pw _ _ hi hj z
    rw [g, g, e1, e2, e3, e4] at this
    exact absurd h this
  · omega
  · have := pw _ _ hj hi z
    rw [g, g, e1, e2, e3, e4] at this
    exact absurd h.symm this
/-- keys that are pairs of places below twelve -/
theorem apart_pk {w : World} {ms : List (List Key × V)} {cs : List (Int × Int)} (hk : ms.map (·.1) = cs.map pk) (nd : cs.Nodup) (hr : ∀ t ∈ cs, 0 ≤ t.1 ∧ t.1 < 12 ∧ 0 ≤ t.2 ∧ t.2 < 12) : Apart w ms := by
  unfold Apart
  have e : (ms.map fun kv => reduceHash (Builtin.Tuple.tupleHashOf (kv.1.map (keyH w)))) = cs.map fun t => reduceHash (Builtin.Tuple.tupleHashOf ((pk t).map (keyH w))) := by
    have := congrArg (List.map fun k => reduceHash (Builtin.Tuple.tupleHashOf (k.map (keyH w)))) hk
    rw [List.map_map, List.map_map] at this
    exact this
  rw [e, List.nodup_iff_pairwise_ne, List.pairwise_map]
  refine (List.nodup_iff_pairwise_ne.mp nd).imp_of_mem fun {s t} hs ht ne h => ne ?_
  have bs := hr s hs
  have bt := hr t ht
  have hh : ∀ t : Int × Int, 0 ≤ t.1 → 0 ≤ t.2 → reduceHash (Builtin.Tuple.tupleHashOf ((pk t).map (keyH w))) = hv t.1.toNat t.2.toNat := fun t h1 h2 => by
    unfold hv
    rw [Int.toNat_of_nonneg h1, Int.toNat_of_nonneg h2]; rfl
  rw [hh s bs.1 bs.2.2.1, hh t bt.1 bt.2.2.1] at h
  obtain ⟨h1, h2⟩ := hv_inj (by omega) (by omega) (by omega) (by omega) h
  exact Prod.ext (by omega) (by omega)
def JoinA (kvs : List (List Key × V)) (C : List (Int × Int)) : Prop := ∀ o : Int × Int, (valV kvs (pk o)).isSome = decide (o ∈ C)
theorem joinA_put {kvs : List (List Key × V)} {C : List (Int × Int)} (h : JoinA kvs C) (t : Int × Int) (v : V) : JoinA (putK kvs (pk t) v) (C ++ [t]) := fun o => by
  rw [valV_put]
  by_cases e : o = t
  · subst e
    rw [if_pos rfl]
    exact (decide_eq_true (List.mem_append_right _ (List.mem_singleton.mpr rfl))).symm
  · rw [if_neg (fun z => e (pk_inj z)), h o]
    refine decide_eq_decide.mpr ?_
    rw [List.mem_append, List.mem_singleton]
    exact ⟨.inl, fun z => z.elim id fun z => absurd z e⟩
end My

set_option Elab.async false
set_option linter.all false
set_option maxRecDepth 100000
namespace My
open PySem PySem.Spec PyProof.Rows L2 GxR

/-! ### in, of tuples -/
def rInDT (K : PySem.W.Frag) : R2 := fun x y H Q => ∃ d ds, Dp K H x d ∧ Dp K H y (.tuple ds) ∧ SeqAt.shaped d = true ∧ SeqAt.shaped (.tuple ds) = true ∧ Q (.bl (ds.any fun z => PyData.eqv z d)) H
theorem op_inDT {X : Cx} (hu : X.A.units + 65 < cLine) : OpR X (compareOp .In) (rInDT X.K) := fun pins s σ H x y v u Q I rx ry ⟨d, ds, hd, he, sd, se, q⟩ => by
  obtain ⟨as, r1⟩ := Dp.reads I d x v hd rx
  obtain ⟨bs, r2⟩ := Dp.reads I (.tuple ds) y u he ry
  exact SeqAt.in_tuple_reads r2 r1 (SeqAt.canLay_of_shaped se) (SeqAt.canLay_of_shaped sd) (room_in_shaped sd hu) ⟨.bl _, H, I, rfl, q⟩
theorem shaped_tup (ts : List (Int × Int)) : SeqAt.shaped (.tuple (ts.map dT)) = true := by
  unfold SeqAt.shaped
  rw [Bool.and_eq_true, decide_eq_true_eq]
  refine ⟨can_ties ts, ?_⟩
  show PyData.depthAll _ + 1 ≤ 64
  have := dep_ties ts
  omega
theorem any_dT (ts : List (Int × Int)) (t : Int × Int) : ((ts.map dT).any fun z => PyData.eqv z (dT t)) = decide (t ∈ ts) := by
  induction ts with
  | nil => rfl
  | cons a l ih =>
    rw [List.map_cons, List.any_cons, ih, eqv_dT]
    by_cases h : a = t
    · subst h; simp
    · have h' : ¬ t = a := fun e => h e.symm
      simp [h, h']

/-! ### ties of two places, gaps -/
def tieO (a b : Int) : Int × Int := if a < b then (a, b) else (b, a)
theorem tieO_tied {n : Nat} {ts : List (Int × Int)} (hw : WOk n ts) (a b : Int) : tieO a b ∈ ts ↔ ((a, b) ∈ ts ∨ (b, a) ∈ ts) := by
  unfold tieO
  split
  · rename_i h
    constructor
    · exact .inl
    · rintro (z | z)
      · exact z
      · have := hw.2 _ z; dsimp only at this; omega
  · rename_i h
    constructor
    · exact .inr
    · rintro (z | z)
      · have := hw.2 _ z; dsimp only at this; omega
      · exact z
def gapsF (ts : List (Int × Int)) (l : List (Int × Int)) : List (Int × Int) := l.filter fun t => !decide (t ∈ ts)
theorem gaps_app (ts l m : List (Int × Int)) : gapsF ts (l ++ m) = gapsF ts l ++ gapsF ts m := List.filter_append ..
theorem gaps_one (ts : List (Int × Int)) (t : Int × Int) : gapsF ts [t] = if t ∈ ts then [] else [t] := by
  unfold gapsF
  by_cases h : t ∈ ts <;> simp [h]
theorem gaps_sub (ts l : List (Int × Int)) : (gapsF ts l).Sublist l := List.filter_sublist
theorem gaps_len {n : Nat} {ts : List (Int × Int)} (hn : n ≤ 100) : (gapsF ts (pup n n)).length ≤ 10000 := Nat.le_trans (gaps_sub _ _).length_le (pup_len' hn (Nat.le_refl n))
theorem gaps_wok {n : Nat} (ts : List (Int × Int)) : WOk n (gapsF ts (pup n n)) := wok_sub (gaps_sub _ _)
theorem pw_ext {l m : List (Int × Int)} (hl : l.Pairwise ltT) (hm : m.Pairwise ltT) (h : ∀ t, t ∈ l ↔ t ∈ m) : l = m := by
  have nd : ∀ {k : List (Int × Int)}, k.Pairwise ltT → k.Nodup := fun hk => List.nodup_iff_pairwise_ne.mpr (hk.imp fun {s t} h e => by subst e; exact ltT_irr h)
  refine List.Perm.eq_of_pairwise (le := ltT) (fun a b _ _ h1 h2 => by rcases h1 with z | ⟨z, y⟩ <;> rcases h2 with u | ⟨u, v⟩ <;> omega) hl hm ((List.perm_ext_iff_of_nodup (nd hl) (nd hm)).mpr h)
theorem gaps_gaps {n : Nat} {ts : List (Int × Int)} (hw : WOk n ts) : gapsF (gapsF ts (pup n n)) (pup n n) = ts := by
  refine pw_ext (gaps_wok _).1 hw.1 fun t => ?_
  unfold gapsF
  rw [List.mem_filter, Bool.not_eq_true', decide_eq_false_iff_not, List.mem_filter, Bool.not_eq_true', decide_eq_false_iff_not]
  constructor
  · rintro ⟨h1, h2⟩
    exact Classical.byContradiction fun z => h2 ⟨h1, z⟩
  · intro h
    refine ⟨(mem_pup (Nat.le_refl n)).mpr ?_, fun z => z.2 h⟩
    have := hw.2 t h
    omega
def JoinD (kvs : List (List Key × V)) (ts : List (Int × Int)) : Prop := ∀ a b : Int, (valV kvs [Sum.inl a, Sum.inl b]).isSome = decide ((a, b) ∈ ts)
theorem join_put {kvs : List (List Key × V)} {ts : List (Int × Int)} (h : JoinD kvs ts) (t : Int × Int) (v : V) : JoinD (putK kvs [Sum.inl t.1, Sum.inl t.2] v) (ts ++ [t]) := fun a b => by
  rw [valV_put]
  cases t with | mk x y =>
  dsimp only
  by_cases h2 : a = x ∧ b = y
  · obtain ⟨rfl, rfl⟩ := h2
    rw [if_pos rfl]
    exact (decide_eq_true (List.mem_append_right _ (List.mem_singleton.mpr rfl))).symm
  · have n2 : ¬ ([Sum.inl a, Sum.inl b] : List Key) = [Sum.inl x, Sum.inl y] := fun e => by
      cases e; exact h2 ⟨rfl, rfl⟩
    rw [if_neg n2, h a b]
    refine decide_eq_decide.mpr ?_
    rw [List.mem_append, List.mem_singleton]
    constructor
    · exact .inl
    · rintro (z | z)
      · exact z
      · cases z; exact absurd ⟨rfl, rfl⟩ h2

end My

set_option Elab.async false
set_option linter.all false
set_option maxRecDepth 100000
namespace My
open PySem PySem.Spec PyProof.Rows L2 GxR

section
variable {P : Program} {w : World} {K : PySem.W.Frag} {mg : Str → Option Value} {base : Heap}
/-! ### tie_of -/
abbrev s_tie_of : Stmt := topS 5
abbrev N_tie_of : List Str := ["a", "b"]
theorem sc_tie_of : FnScope N_tie_of ["a", "b"] (defScope s_tie_of) := ⟨rfl, rfl, rfl, by decide +kernel, rfl, by decide +kernel, by decide +kernel⟩
def sp_tie_of : Sp := fun vs H Q _ => ∃ a b : Int, vs = [.int a, .int b] ∧ ∀ p, H p = none → Q (.ref p) (upd H p (.tup [.int (tieO a b).1, .int (tieO a b).2]))
theorem ok_tie_of {f : Addr} {fd : FuncData} (B : Bts mg) (F : Fun K "tie_of" "tie_of" s_tie_of f fd) : FnOk P w K mg base CX0 1 f fd ["a", "b"] sp_tie_of := by
  refine F.ok sc_tie_of (fun vs H Q E h => ?_) (fun cdv A outer s H vs Q E hr h => ?_)
  · obtain ⟨a, b, rfl, _⟩ := h; rfl
  · obtain ⟨a, b, rfl, q⟩ := h
    refine ⟨_, (pss_one (ps_ret (pe_ifExp (pt_cmpR op_lt (pv 0) (pv 1) (nomark _)) (pe_tup (pa_cons (pv 0) (pa_cons (pv 1) pa_nil))) (pe_tup (pa_cons (pv 1) (pa_cons (pv 0) pa_nil)))))), ?_⟩
    unfold tieO at q
    refine ⟨_, rfl, _, rfl, _, _, rfl, rfl, _, rfl, ite2 (fun e => ?_) (fun e => ?_)⟩
    · rw [if_pos (of_decide_eq_true e)] at q
      exact ⟨_, rfl, _, rfl, by show 2 ≤ sizeLine; decide, q⟩
    · rw [if_neg (fun z => e (decide_eq_true z))] at q
      exact ⟨_, rfl, _, rfl, by show 2 ≤ sizeLine; decide, q⟩
/-! ### tied -/
abbrev s_tied : Stmt := topS 4
abbrev N_tied : List Str := ["web", "a", "b"]
theorem sc_tied : FnScope N_tied ["web", "a", "b"] (defScope s_tied) := ⟨rfl, rfl, rfl, by decide +kernel, rfl, by decide +kernel, by decide +kernel⟩
def sp_tied : Sp := fun vs H Q _ => ∃ (v : V) (n : Nat) (ts : List (Int × Int)) (a b : Int), vs = [v, .int a, .int b] ∧ Web H v n ts ∧ ∀ H', Same H H' → Q (.bl (decide (tieO a b ∈ ts))) H'
theorem ok_tied {f : Addr} {fd : FuncData} (B : Bts mg) (F : Fun K "tied" "tied" s_tied f fd) (c_tie_of : Cl P w K mg base 1 "tie_of" sp_tie_of) : FnOk P w K mg base CX0 2 f fd ["web", "a", "b"] sp_tied := by
  refine F.ok sc_tied (fun vs H Q E h => ?_) (fun cdv A outer s H vs Q E hr h => ?_)
  · obtain ⟨v, n, ts, a, b, rfl, _⟩ := h; rfl
  · obtain ⟨v, n, ts, a, b, rfl, ⟨p, q', us, rfl, ep, eq, hT⟩, q⟩ := h
    refine ⟨_, (pss_one (ps_ret (pe_cmpR (op_inDT (u65 hr)) (pe_c c_tie_of hr (by decide) (by rfl) (pa_cons (pv 1) (pa_cons (pv 2) pa_nil))) (pe_ix ix_tup (pv 0) pe_int (fun _ _ => rfl)) (by rfl)))), ?_⟩
    refine ⟨_, rfl, _, rfl, a, b, rfl, fun t nt => ?_⟩
    have s1 := same_new (o := .tup [.int (tieO a b).1, .int (tieO a b).2]) nt
    refine ⟨_, rfl, p, _, _, _, rfl, rfl, SqT.of (s1 _ _ ep), rfl, ?_⟩
    refine ⟨dT (tieO a b), ts.map dT, (show Tie _ (.ref t) (tieO a b) from ⟨t, rfl, upd_same⟩).dp, .tup (SqT.of (s1 _ _ eq)) (hT.mono (Same.tst s1)).dp, shaped_dT _, shaped_tup ts, ?_⟩
    rw [any_dT]
    exact q _ s1

end
end My

set_option Elab.async false
set_option linter.all false
set_option maxRecDepth 100000
namespace My
open PySem PySem.Spec PyProof.Rows L2 GxR

def NearD (kvs : List (List Key × V)) (ts : List (Int × Int)) : Prop := ∀ a b : Int, (valV kvs [Sum.inl a, Sum.inl b]).isSome = decide ((a, b) ∈ ts ∨ (b, a) ∈ ts)
theorem near_put {kvs : List (List Key × V)} {ts : List (Int × Int)} (h : NearD kvs ts) (t : Int × Int) (u v : V) :
    NearD (putK (putK kvs [Sum.inl t.1, Sum.inl t.2] v) [Sum.inl t.2, Sum.inl t.1] u) (ts ++ [t]) := fun a b => by
  rw [valV_put, valV_put]
  cases t with | mk x y =>
  dsimp only
  by_cases h1 : a = y ∧ b = x
  · obtain ⟨rfl, rfl⟩ := h1
    rw [if_pos rfl]
    exact (decide_eq_true (.inr (List.mem_append_right _ (List.mem_singleton.mpr rfl)))).symm
  · have n1 : ¬ ([Sum.inl a, Sum.inl b] : List Key) = [Sum.inl y, Sum.inl x] := fun e => by
      cases e; exact h1 ⟨rfl, rfl⟩
    rw [if_neg n1]
    by_cases h2 : a = x ∧ b = y
    · obtain ⟨rfl, rfl⟩ := h2
      rw [if_pos rfl]
      exact (decide_eq_true (.inl (List.mem_append_right _ (List.mem_singleton.mpr rfl)))).symm
    · have n2 : ¬ ([Sum.inl a, Sum.inl b] : List Key) = [Sum.inl x, Sum.inl y] := fun e => by
        cases e; exact h2 ⟨rfl, rfl⟩
      rw [if_neg n2, h a b]
      refine decide_eq_decide.mpr ?_
      rw [List.mem_append, List.mem_append, List.mem_singleton, List.mem_singleton]
      constructor
      · rintro (z | z)
        · exact .inl (.inl z)
        · exact .inr (.inl z)
      · rintro ((z | z) | (z | z))
        · exact .inl z
        · cases z; exact absurd ⟨rfl, rfl⟩ h2
        · exact .inr z
        · cases z; exact absurd ⟨rfl, rfl⟩ h1

section
variable {P : Program} {w : World} {K : PySem.W.Frag} {mg : Str → Option Value} {base : Heap}
end
end My

set_option Elab.async false
set_option linter.all false
set_option maxRecDepth 100000
namespace My
open PySem PySem.Spec PyProof.Rows L2 GxR

/-! ### forcings: what the law's own going on makes -/
abbrev Ar := Int × Int
def sw (t : Ar) : Ar := (t.2, t.1)
theorem sw_sw (t : Ar) : sw (sw t) = t := rfl
def InR (n : Nat) (t : Ar) : Prop := 0 ≤ t.1 ∧ t.1 < (n : Int) ∧ 0 ≤ t.2 ∧ t.2 < (n : Int)
def allP (n : Nat) : List Ar := (up n).flatMap fun a => (up n).map fun b => (a, b)
theorem mem_allP {n : Nat} {t : Ar} : t ∈ allP n ↔ InR n t := by
  unfold allP InR
  rw [List.mem_flatMap]
  constructor
  · rintro ⟨a, ha, h⟩
    obtain ⟨b, hb, rfl⟩ := List.mem_map.mp h
    have h1 := mem_up.mp ha
    have h2 := mem_up.mp hb
    exact ⟨h1.1, h1.2, h2.1, h2.2⟩
  · rintro ⟨h1, h2, h3, h4⟩
    exact ⟨t.1, mem_up.mpr ⟨h1, h2⟩, List.mem_map.mpr ⟨t.2, mem_up.mpr ⟨h3, h4⟩, rfl⟩⟩
theorem up_pw' (n : Nat) : (up n).Pairwise (· < ·) := by
  unfold up
  rw [List.pairwise_map]
  exact List.pairwise_lt_range.imp fun {x y} h => Int.ofNat_lt.mpr h
theorem allP_pw (n : Nat) : (allP n).Pairwise ltT := by
  unfold allP
  rw [List.pairwise_flatMap]
  refine ⟨fun a _ => ?_, (up_pw' n).imp fun {a b} h x hx y hy => ?_⟩
  · rw [List.pairwise_map]
    exact (up_pw' n).imp fun h => .inr ⟨rfl, h⟩
  · obtain ⟨_, _, rfl⟩ := List.mem_map.mp hx
    obtain ⟨_, _, rfl⟩ := List.mem_map.mp hy
    exact .inl h
theorem allP_len (n : Nat) : (allP n).length = n * n := by
  unfold allP
  have : ∀ l : List Int, (l.flatMap fun a => (up n).map fun b => (a, b)).length = l.length * n := by
    intro l
    induction l with
    | nil => exact (Nat.zero_mul _).symm
    | cons a l ih => rw [List.flatMap_cons, List.length_append, ih, List.length_map, up_len, List.length_cons, Nat.succ_mul, Nat.add_comm]
  rw [this, up_len]
theorem nd_pw {l : List Ar} (h : l.Pairwise ltT) : l.Nodup := List.nodup_iff_pairwise_ne.mpr (h.imp fun {s t} h e => by subst e; exact ltT_irr h)
def nrB (ts : List Ar) (a b : Int) : Bool := decide ((a, b) ∈ ts ∨ (b, a) ∈ ts)
def tA (ts : List Ar) (a b c : Int) : Bool := !decide (c = b) && (nrB ts a c && !nrB ts b c)
def tB' (ts : List Ar) (a b c : Int) : Bool := !decide (c = a) && (nrB ts c b && !nrB ts a c)
def frcA (ts : List Ar) (a b : Int) (l : List Int) : List Ar := (l.filter (tA ts a b)).map fun c => (a, c)
def frcB (ts : List Ar) (a b : Int) (l : List Int) : List Ar := (l.filter (tB' ts a b)).map fun c => (c, b)
def frcL (n : Nat) (ts : List Ar) (t : Ar) : List Ar := frcA ts t.1 t.2 (up n) ++ frcB ts t.1 t.2 (up n)
theorem frcA_step (ts : List Ar) (a b : Int) (l : List Int) (c : Int) : frcA ts a b (l ++ [c]) = frcA ts a b l ++ (if tA ts a b c = true then [(a, c)] else []) := by
  unfold frcA
  rw [List.filter_append, List.map_append]
  by_cases h : tA ts a b c = true
  · rw [if_pos h, List.filter_cons_of_pos h]; rfl
  · rw [if_neg h, List.filter_cons_of_neg h]; rfl
theorem frcB_step (ts : List Ar) (a b : Int) (l : List Int) (c : Int) : frcB ts a b (l ++ [c]) = frcB ts a b l ++ (if tB' ts a b c = true then [(c, b)] else []) := by
  unfold frcB
  rw [List.filter_append, List.map_append]
  by_cases h : tB' ts a b c = true
  · rw [if_pos h, List.filter_cons_of_pos h]; rfl
  · rw [if_neg h, List.filter_cons_of_neg h]; rfl
theorem frcA_len (ts : List Ar) (a b : Int) (l : List Int) : (frcA ts a b l).length ≤ l.length := by
  unfold frcA; rw [List.length_map]; exact List.length_filter_le _ _
theorem frcB_len (ts : List Ar) (a b : Int) (l : List Int) : (frcB ts a b l).length ≤ l.length := by
  unfold frcB; rw [List.length_map]; exact List.length_filter_le _ _
theorem mem_frc {n : Nat} {ts : List Ar} {t x : Ar} : x ∈ frcL n ts t ↔
    (x.1 = t.1 ∧ 0 ≤ x.2 ∧ x.2 < (n : Int) ∧ tA ts t.1 t.2 x.2 = true) ∨ (x.2 = t.2 ∧ 0 ≤ x.1 ∧ x.1 < (n : Int) ∧ tB' ts t.1 t.2 x.1 = true) := by
  unfold frcL frcA frcB
  rw [List.mem_append, List.mem_map, List.mem_map]
  constructor
  · rintro (⟨c, hc, rfl⟩ | ⟨c, hc, rfl⟩)
    · obtain ⟨h1, h2⟩ := List.mem_filter.mp hc
      have := mem_up.mp h1
      exact .inl ⟨rfl, this.1, this.2, h2⟩
    · obtain ⟨h1, h2⟩ := List.mem_filter.mp hc
      have := mem_up.mp h1
      exact .inr ⟨rfl, this.1, this.2, h2⟩
  · rintro (⟨h1, h2, h3, h4⟩ | ⟨h1, h2, h3, h4⟩)
    · exact .inl ⟨x.2, List.mem_filter.mpr ⟨mem_up.mpr ⟨h2, h3⟩, h4⟩, Prod.ext h1.symm rfl⟩
    · exact .inr ⟨x.1, List.mem_filter.mpr ⟨mem_up.mpr ⟨h2, h3⟩, h4⟩, Prod.ext rfl h1.symm⟩
theorem frc_nd (n : Nat) (ts : List Ar) (t : Ar) : (frcL n ts t).Nodup := by
  unfold frcL frcA frcB
  rw [List.nodup_append]
  refine ⟨?_, ?_, fun x hx y hy e => ?_⟩
  · rw [List.nodup_iff_pairwise_ne, List.pairwise_map]
    exact ((List.nodup_iff_pairwise_ne.mp (up_nodup n)).sublist List.filter_sublist).imp fun h e => h (Prod.ext_iff.mp e).2
  · rw [List.nodup_iff_pairwise_ne, List.pairwise_map]
    exact ((List.nodup_iff_pairwise_ne.mp (up_nodup n)).sublist List.filter_sublist).imp fun h e => h (Prod.ext_iff.mp e).1
  · subst e
    obtain ⟨c, hc, rfl⟩ := List.mem_map.mp hx
    obtain ⟨d, hd, e⟩ := List.mem_map.mp hy
    have h1 := (List.mem_filter.mp hc).2
    have e2 := (Prod.ext_iff.mp e).2
    unfold tA at h1
    rw [Bool.and_eq_true, Bool.not_eq_true', decide_eq_false_iff_not] at h1
    exact h1.1 e2.symm
theorem frc_rng {n : Nat} {ts : List Ar} {t x : Ar} (ht : InR n t) (h : x ∈ frcL n ts t) : InR n x := by
  obtain ⟨a1, a2, a3, a4⟩ := ht
  rcases mem_frc.mp h with ⟨h1, h2, h3, _⟩ | ⟨h1, h2, h3, _⟩
  · exact ⟨by omega, by omega, h2, h3⟩
  · exact ⟨h2, h3, by omega, by omega⟩
/-- the forced ones, rising -/
def frcS (n : Nat) (ts : List Ar) (t : Ar) : List Ar := (allP n).filter fun x => decide (x ∈ frcL n ts t)
theorem mem_frcS {n : Nat} {ts : List Ar} {t x : Ar} (ht : InR n t) : x ∈ frcS n ts t ↔ x ∈ frcL n ts t := by
  unfold frcS
  rw [List.mem_filter, decide_eq_true_eq, mem_allP]
  exact ⟨fun h => h.2, fun h => ⟨frc_rng ht h, h⟩⟩
theorem frcS_pw (n : Nat) (ts : List Ar) (t : Ar) : (frcS n ts t).Pairwise ltT := (allP_pw n).sublist List.filter_sublist
theorem frcS_eq {n : Nat} {ts fs : List Ar} {t : Ar} (ht : InR n t) (hp : fs.Perm (frcL n ts t)) (hs : fs.Pairwise (fun s t => ¬ ltT t s)) : fs = frcS n ts t :=
  pw_eq (pw_lt hs (hp.nodup_iff.mpr (frc_nd n ts t))) (frcS_pw n ts t) fun x => hp.mem_iff.trans (mem_frcS ht).symm
/-- what is found and what waits, behind the forced ones fs -/
def grow (fs : List Ar) (fw : List Ar × List Ar) : List Ar × List Ar := fs.foldl (fun fw o => if o ∈ fw.1 then fw else (fw.1 ++ [o], fw.2 ++ [o])) fw
theorem grow_step (fs : List Ar) (o : Ar) (fw : List Ar × List Ar) : grow (fs ++ [o]) fw = if o ∈ (grow fs fw).1 then grow fs fw else ((grow fs fw).1 ++ [o], (grow fs fw).2 ++ [o]) := by
  unfold grow; rw [List.foldl_append]; rfl
def comeR (n : Nat) (ts : List Ar) : Nat → List Ar × List Ar → List Ar
  | 0, fw => fw.1
  | k + 1, fw => match fw.2.getLast? with
    | none => fw.1
    | some x => comeR n ts k (grow (frcS n ts x) (fw.1, fw.2.dropLast))
def comeF (n : Nat) (ts : List Ar) (t : Ar) : List Ar := comeR n ts (2 * (n * n) + 1) ([t], [t])
theorem comeR_nil (n : Nat) (ts cs : List Ar) : ∀ k, comeR n ts k (cs, []) = cs
  | 0 => rfl
  | _ + 1 => rfl
structure GrowI (n : Nat) (fw : List Ar × List Ar) : Prop where
  nd : fw.1.Nodup
  rng : ∀ t ∈ fw.1, InR n t
  sub : ∀ t ∈ fw.2, InR n t
theorem grow_all {n : Nat} : ∀ {fs : List Ar} {fw : List Ar × List Ar}, GrowI n fw → (∀ t ∈ fs, InR n t) → GrowI n (grow fs fw) ∧ ∃ k, (grow fs fw).1.length = fw.1.length + k ∧ (grow fs fw).2.length = fw.2.length + k
  | [], fw, h, _ => ⟨h, 0, rfl, rfl⟩
  | o :: fs, fw, h, hr => by
    show GrowI n (grow fs (if o ∈ fw.1 then fw else (fw.1 ++ [o], fw.2 ++ [o]))) ∧ _
    have ho := hr o List.mem_cons_self
    by_cases hm : o ∈ fw.1
    · have e : grow (o :: fs) fw = grow fs fw := by
        show grow fs (if o ∈ fw.1 then fw else _) = _
        rw [if_pos hm]
      rw [if_pos hm, e]
      exact grow_all h fun t ht => hr t (List.mem_cons_of_mem _ ht)
    · have e : grow (o :: fs) fw = grow fs (fw.1 ++ [o], fw.2 ++ [o]) := by
        show grow fs (if o ∈ fw.1 then fw else _) = _
        rw [if_neg hm]
      have h' : GrowI n (fw.1 ++ [o], fw.2 ++ [o]) := by
        refine ⟨?_, fun t ht => ?_, fun t ht => ?_⟩
        · rw [List.nodup_append]
          refine ⟨h.nd, List.nodup_cons.mpr ⟨List.not_mem_nil, List.nodup_nil⟩, fun a ha b hb e => ?_⟩
          rw [List.mem_singleton.mp hb] at e
          subst e; exact hm ha
        · rcases List.mem_append.mp ht with z | z
          · exact h.rng t z
          · rw [List.mem_singleton.mp z]; exact ho
        · rcases List.mem_append.mp ht with z | z
          · exact h.sub t z
          · rw [List.mem_singleton.mp z]; exact ho
      rw [if_neg hm, e]
      obtain ⟨i1, k, l1, l2⟩ := grow_all h' fun t ht => hr t (List.mem_cons_of_mem _ ht)
      rw [List.length_append] at l1 l2
      exact ⟨i1, k + 1, by rw [l1]; show _ + 1 + k = _; omega, by rw [l2]; show _ + 1 + k = _; omega⟩
theorem cs_len {n : Nat} {cs : List Ar} (nd : cs.Nodup) (h : ∀ t ∈ cs, InR n t) : cs.length ≤ n * n := by
  rw [← allP_len n]
  exact nd_len nd fun t ht => mem_allP.mpr (h t ht)

/-! ### the first pointing, as the law's own way makes it -/
def firstG (n : Nat) (ts : List Ar) : List Ar → List Ar → Option (List Ar)
  | [], C => some C
  | t :: r, C => if t ∈ C ∨ sw t ∈ C then firstG n ts r C else if sw t ∈ comeF n ts t then none else firstG n ts r (C ++ comeF n ts t)
def firstF (n : Nat) (ts : List Ar) : Option (List Ar) := (firstG n ts ts []).map fun C => ts.map fun t => if t ∈ C then t else sw t
/-- arrows for the ties, in their order -/
def nrm (p : Ar) : Ar := if p.1 < p.2 then p else sw p
def Pts (ts ps : List Ar) : Prop := ps.map nrm = ts
theorem nrm_t {t : Ar} (h : t.1 < t.2) : nrm t = t := if_pos h
theorem nrm_sw {t : Ar} (h : t.1 < t.2) : nrm (sw t) = t := by
  unfold nrm sw
  dsimp only
  rw [if_neg (by omega)]
theorem first_pts {n : Nat} {ts ps : List Ar} (hw : WOk n ts) (h : firstF n ts = some ps) : Pts ts ps := by
  unfold firstF at h
  obtain ⟨C, _, rfl⟩ := Option.map_eq_some_iff.mp h
  unfold Pts
  rw [List.map_map]
  have : ∀ t ∈ ts, (nrm ∘ fun t => if t ∈ C then t else sw t) t = id t := fun t ht => by
    have b := hw.2 t ht
    show nrm (if t ∈ C then t else sw t) = t
    split
    · exact nrm_t b.2.1
    · exact nrm_sw b.2.1
  rw [List.map_congr_left this, List.map_id]
end My

set_option Elab.async false
set_option linter.all false
set_option maxRecDepth 100000
namespace My
open PySem PySem.Spec PyProof.Rows L2 GxR

theorem inV_int (ns : List Int) (x : Int) : inV (.int x) (ns.map V.int) = decide (x ∈ ns) := by
  unfold inV
  induction ns with
  | nil => rfl
  | cons a l ih =>
    rw [List.map_cons, List.any_cons, ih]
    by_cases h : a = x
    · subst h; simp [eqV]
    · have h' : ¬ x = a := fun e => h e.symm
      simp [eqV, h, h']
/-! ### the places that each place is tied to -/
def nearT (p : Int) (t : Ar) : Option Int := if t.1 = p then some t.2 else if t.2 = p then some t.1 else none
def nearL (ts : List Ar) (p : Int) : List Int := ts.filterMap (nearT p)
theorem nearL_step (ts : List Ar) (t : Ar) (p : Int) : nearL (ts ++ [t]) p = nearL ts p ++ (if t.1 = p then [t.2] else if t.2 = p then [t.1] else []) := by
  unfold nearL
  rw [List.filterMap_append]
  congr 1
  rw [List.filterMap_cons, List.filterMap_nil]
  unfold nearT
  by_cases h1 : t.1 = p
  · rw [if_pos h1, if_pos h1]
  · rw [if_neg h1, if_neg h1]
    by_cases h2 : t.2 = p
    · rw [if_pos h2, if_pos h2]
    · rw [if_neg h2, if_neg h2]
theorem nearL_len (ts : List Ar) (p : Int) : (nearL ts p).length ≤ ts.length := List.length_filterMap_le _ _
theorem mem_nearL {ts : List Ar} {p c : Int} : c ∈ nearL ts p ↔ ((p, c) ∈ ts ∨ (c, p) ∈ ts) := by
  unfold nearL
  rw [List.mem_filterMap]
  constructor
  · rintro ⟨⟨x, y⟩, ht, e⟩
    unfold nearT at e
    dsimp only at e
    by_cases h1 : x = p
    · rw [if_pos h1] at e; cases e; subst h1; exact .inl ht
    · rw [if_neg h1] at e
      by_cases h2 : y = p
      · rw [if_pos h2] at e; cases e; subst h2; exact .inr ht
      · rw [if_neg h2] at e; cases e
  · rintro (h | h)
    · exact ⟨_, h, if_pos rfl⟩
    · refine ⟨_, h, ?_⟩
      unfold nearT
      dsimp only
      by_cases h1 : c = p
      · rw [if_pos h1, h1]
      · rw [if_neg h1, if_pos rfl]
theorem nearL_nrB {ts : List Ar} {p c : Int} : decide (c ∈ nearL ts p) = nrB ts p c := by
  unfold nrB
  exact decide_eq_decide.mpr mem_nearL
theorem nrB_comm (ts : List Ar) (a b : Int) : nrB ts a b = nrB ts b a := decide_eq_decide.mpr Or.comm
theorem nearL_nd {n : Nat} {ts : List Ar} (hw : WOk n ts) (p : Int) : (nearL ts p).Nodup := by
  unfold nearL
  rw [List.nodup_iff_pairwise_ne, List.pairwise_filterMap]
  refine hw.1.imp_of_mem fun {s t} hs ht h c hc d hd e => ?_
  have bs := hw.2 s hs
  have bt := hw.2 t ht
  subst e
  cases s with | mk s1 s2 =>
  cases t with | mk t1 t2 =>
  unfold nearT at hc hd
  unfold ltT at h
  dsimp only at *
  split at hc
  · split at hd
    · cases hc; cases hd; omega
    · split at hd
      · cases hc; cases hd; omega
      · cases hd
  · split at hc
    · split at hd
      · cases hc; cases hd; omega
      · split at hd
        · cases hc; cases hd; omega
        · cases hd
    · cases hc
/-! ### what a forced_by makes -/
def tE (ts : List Ar) (a b : Int) (c : Int) : Bool := !decide (c = b) && !decide (c ∈ nearL ts b)
def endsL (ts : List Ar) (a b : Int) (l : List Int) : List Ar := (l.filter (tE ts a b)).map fun c => (a, c)
def begL (ts : List Ar) (a b : Int) (l : List Int) : List Ar := (l.filter (tE ts b a)).map fun c => (c, b)
theorem endsL_step (ts : List Ar) (a b : Int) (l : List Int) (c : Int) : endsL ts a b (l ++ [c]) = endsL ts a b l ++ (if tE ts a b c = true then [(a, c)] else []) := by
  unfold endsL
  rw [List.filter_append, List.map_append]
  by_cases h : tE ts a b c = true
  · rw [if_pos h, List.filter_cons_of_pos h]; rfl
  · rw [if_neg h, List.filter_cons_of_neg h]; rfl
theorem begL_step (ts : List Ar) (a b : Int) (l : List Int) (c : Int) : begL ts a b (l ++ [c]) = begL ts a b l ++ (if tE ts b a c = true then [(c, b)] else []) := by
  unfold begL
  rw [List.filter_append, List.map_append]
  by_cases h : tE ts b a c = true
  · rw [if_pos h, List.filter_cons_of_pos h]; rfl
  · rw [if_neg h, List.filter_cons_of_neg h]; rfl
theorem endsL_len (ts : List Ar) (a b : Int) (l : List Int) : (endsL ts a b l).length ≤ l.length := by
  unfold endsL; rw [List.length_map]; exact List.length_filter_le _ _
theorem begL_len (ts : List Ar) (a b : Int) (l : List Int) : (begL ts a b l).length ≤ l.length := by
  unfold begL; rw [List.length_map]; exact List.length_filter_le _ _
def fbL (ts : List Ar) (t : Ar) : List Ar := endsL ts t.1 t.2 (nearL ts t.1) ++ begL ts t.1 t.2 (nearL ts t.2)
theorem near_rng {n : Nat} {ts : List Ar} (hw : WOk n ts) {p c : Int} (h : nrB ts p c = true) : 0 ≤ c ∧ c < (n : Int) := by
  rcases of_decide_eq_true h with z | z
  · have := hw.2 _ z; dsimp only at this; omega
  · have := hw.2 _ z; dsimp only at this; omega
theorem mem_fb {n : Nat} {ts : List Ar} (hw : WOk n ts) {t x : Ar} : x ∈ fbL ts t ↔ x ∈ frcL n ts t := by
  have tE' : ∀ a b c, tE ts a b c = (!decide (c = b) && !nrB ts b c) := fun a b c => by unfold tE; rw [nearL_nrB]
  rw [mem_frc]
  unfold fbL endsL begL
  rw [List.mem_append, List.mem_map, List.mem_map]
  constructor
  · rintro (⟨c, hc, rfl⟩ | ⟨c, hc, rfl⟩)
    · obtain ⟨h1, h2⟩ := List.mem_filter.mp hc
      have h1' : nrB ts t.1 c = true := by rw [← nearL_nrB]; exact decide_eq_true h1
      have r := near_rng hw h1'
      refine .inl ⟨rfl, r.1, r.2, ?_⟩
      rw [tE', Bool.and_eq_true] at h2
      unfold tA
      rw [h2.1, h1', h2.2]; rfl
    · obtain ⟨h1, h2⟩ := List.mem_filter.mp hc
      have h1' : nrB ts t.2 c = true := by rw [← nearL_nrB]; exact decide_eq_true h1
      have r := near_rng hw h1'
      refine .inr ⟨rfl, r.1, r.2, ?_⟩
      rw [tE', Bool.and_eq_true] at h2
      unfold tB'
      rw [h2.1, nrB_comm, h1', h2.2]; rfl
  · rintro (⟨h1, h2, h3, h4⟩ | ⟨h1, h2, h3, h4⟩)
    · unfold tA at h4
      rw [Bool.and_eq_true, Bool.and_eq_true] at h4
      refine .inl ⟨x.2, List.mem_filter.mpr ⟨?_, ?_⟩, Prod.ext h1.symm rfl⟩
      · exact of_decide_eq_true (nearL_nrB.trans h4.2.1)
      · rw [tE', h4.1, h4.2.2]; rfl
    · unfold tB' at h4
      rw [Bool.and_eq_true, Bool.and_eq_true, nrB_comm] at h4
      refine .inr ⟨x.1, List.mem_filter.mpr ⟨?_, ?_⟩, Prod.ext rfl h1.symm⟩
      · exact of_decide_eq_true (nearL_nrB.trans h4.2.1)
      · rw [tE', h4.1, h4.2.2]; rfl
theorem fb_nd {n : Nat} {ts : List Ar} (hw : WOk n ts) (t : Ar) : (fbL ts t).Nodup := by
  unfold fbL endsL begL
  rw [List.nodup_append]
  refine ⟨?_, ?_, fun x hx y hy e => ?_⟩
  · rw [List.nodup_iff_pairwise_ne, List.pairwise_map]
    exact ((List.nodup_iff_pairwise_ne.mp (nearL_nd hw _)).sublist List.filter_sublist).imp fun h e => h (Prod.ext_iff.mp e).2
  · rw [List.nodup_iff_pairwise_ne, List.pairwise_map]
    exact ((List.nodup_iff_pairwise_ne.mp (nearL_nd hw _)).sublist List.filter_sublist).imp fun h e => h (Prod.ext_iff.mp e).1
  · subst e
    obtain ⟨c, hc, rfl⟩ := List.mem_map.mp hx
    obtain ⟨d, hd, e⟩ := List.mem_map.mp hy
    have h1 := (List.mem_filter.mp hc).2
    have e2 := (Prod.ext_iff.mp e).2
    unfold tE at h1
    rw [Bool.and_eq_true, Bool.not_eq_true', decide_eq_false_iff_not] at h1
    exact h1.1 e2.symm
theorem srt_eq {l m fs : List Ar} (hp : fs.Perm l) (nd : l.Nodup) (hs : fs.Pairwise (fun s t => ¬ ltT t s)) (hm : m.Pairwise ltT) (h : ∀ x, x ∈ l ↔ x ∈ m) : fs = m :=
  pw_eq (pw_lt hs (hp.nodup_iff.mpr nd)) hm fun x => hp.mem_iff.trans (h x)
theorem fb_eq {n : Nat} {ts fs : List Ar} {t : Ar} (hw : WOk n ts) (ht : InR n t) (hp : fs.Perm (fbL ts t)) (hs : fs.Pairwise (fun s t => ¬ ltT t s)) : fs = frcS n ts t :=
  srt_eq hp (fb_nd hw t) hs (frcS_pw n ts t) fun x => (mem_fb hw).trans (mem_frcS ht).symm
/-! ### all arrows, rising -/
def arS (n : Nat) (ts : List Ar) : List Ar := (allP n).filter fun x => nrB ts x.1 x.2
theorem arS_pw (n : Nat) (ts : List Ar) : (arS n ts).Pairwise ltT := (allP_pw n).sublist List.filter_sublist
theorem nrB_lt {n : Nat} {ts : List Ar} (hw : WOk n ts) {a b : Int} (h : nrB ts a b = true) : 0 ≤ a ∧ a < (n : Int) ∧ 0 ≤ b ∧ b < (n : Int) ∧ a ≠ b := by
  rcases of_decide_eq_true h with z | z
  · have := hw.2 _ z; dsimp only at this; omega
  · have := hw.2 _ z; dsimp only at this; omega
theorem mem_arS {n : Nat} {ts : List Ar} (hw : WOk n ts) {x : Ar} : x ∈ arS n ts ↔ (x ∈ ts ∨ sw x ∈ ts) := by
  unfold arS
  rw [List.mem_filter, mem_allP]
  constructor
  · rintro ⟨_, h⟩
    exact of_decide_eq_true h
  · intro h
    have h' : nrB ts x.1 x.2 = true := decide_eq_true h
    have b := nrB_lt hw h'
    exact ⟨⟨b.1, b.2.1, b.2.2.1, b.2.2.2.1⟩, h'⟩
theorem ar_nd {n : Nat} {ts : List Ar} (hw : WOk n ts) : (ts ++ ts.map sw).Nodup := by
  have nd := nd_pw hw.1
  rw [List.nodup_append]
  refine ⟨nd, ?_, fun x hx y hy e => ?_⟩
  · rw [List.nodup_iff_pairwise_ne, List.pairwise_map]
    refine (List.nodup_iff_pairwise_ne.mp nd).imp fun {s t} h e => h ?_
    rw [← sw_sw s, e, sw_sw]
  · subst e
    obtain ⟨z, hz, rfl⟩ := List.mem_map.mp hy
    have b1 := hw.2 _ hx
    have b2 := hw.2 _ hz
    unfold sw at b1
    dsimp only at b1
    omega
theorem ar_eq {n : Nat} {ts fs : List Ar} (hw : WOk n ts) (hp : fs.Perm (ts ++ ts.map sw)) (hs : fs.Pairwise (fun s t => ¬ ltT t s)) : fs = arS n ts := by
  refine srt_eq hp (ar_nd hw) hs (arS_pw n ts) fun x => ?_
  rw [mem_arS hw, List.mem_append, List.mem_map]
  constructor
  · rintro (z | ⟨y, hy, rfl⟩)
    · exact .inl z
    · exact .inr hy
  · rintro (z | z)
    · exact .inl z
    · exact .inr ⟨_, z, sw_sw x⟩
theorem arS_inR {n : Nat} {ts : List Ar} {x : Ar} (h : x ∈ arS n ts) : InR n x := mem_allP.mp (List.mem_filter.mp h).1
theorem arS_len {n : Nat} {ts : List Ar} : (arS n ts).length ≤ n * n := by
  rw [← allP_len n]; exact List.length_filter_le _ _
theorem frcS_len {n : Nat} {ts : List Ar} {t : Ar} : (frcS n ts t).length ≤ n * n := by
  rw [← allP_len n]; exact List.length_filter_le _ _
theorem frc_ar {n : Nat} {ts : List Ar} {t x : Ar} (h : x ∈ frcL n ts t) : nrB ts x.1 x.2 = true := by
  rcases mem_frc.mp h with ⟨h1, h2, h3, h4⟩ | ⟨h1, h2, h3, h4⟩
  · unfold tA at h4
    rw [Bool.and_eq_true, Bool.and_eq_true] at h4
    rw [h1]; exact h4.2.1
  · unfold tB' at h4
    rw [Bool.and_eq_true, Bool.and_eq_true] at h4
    rw [h1]; exact h4.2.1
theorem frcS_ar {n : Nat} {ts : List Ar} {t x : Ar} (ht : InR n t) (h : x ∈ frcS n ts t) : x ∈ arS n ts := by
  have h' := (mem_frcS ht).mp h
  exact List.mem_filter.mpr ⟨mem_allP.mpr (frc_rng ht h'), frc_ar h'⟩
theorem frc_sw {n : Nat} {ts : List Ar} {t x : Ar} : x ∈ frcL n ts (sw t) ↔ sw x ∈ frcL n ts t := by
  rw [mem_frc, mem_frc]
  unfold sw tA tB'
  dsimp only
  rw [nrB_comm ts t.2 x.2, nrB_comm ts x.1 t.1]
  constructor
  · rintro (h | h)
    · first | exact .inr h | exact .inl h
    · first | exact .inr h | exact .inl h
  · rintro (h | h)
    · first | exact .inr h | exact .inl h
    · first | exact .inr h | exact .inl h
theorem frc_symm {n : Nat} {ts : List Ar} {t x : Ar} (ht : InR n t) (ha : nrB ts t.1 t.2 = true) (h : x ∈ frcL n ts t) : t ∈ frcL n ts x := by
  obtain ⟨r1, r2, r3, r4⟩ := ht
  rw [mem_frc] at h ⊢
  rcases h with ⟨h1, h2, h3, h4⟩ | ⟨h1, h2, h3, h4⟩
  · unfold tA at h4 ⊢
    rw [Bool.and_eq_true, Bool.and_eq_true, Bool.not_eq_true', decide_eq_false_iff_not] at h4
    refine .inl ⟨h1.symm, r3, r4, ?_⟩
    rw [h1, ha, nrB_comm, h4.2.2, decide_eq_false (fun e => h4.1 e.symm)]; rfl
  · unfold tB' at h4 ⊢
    rw [Bool.and_eq_true, Bool.and_eq_true, Bool.not_eq_true', decide_eq_false_iff_not] at h4
    refine .inr ⟨h1.symm, r1, r2, ?_⟩
    rw [h1, ha, nrB_comm, h4.2.2, decide_eq_false (fun e => h4.1 e.symm)]; rfl
/-! ### forced, turned -/
theorem frcS_sw {n : Nat} {ts fs : List Ar} {t : Ar} (ht : InR n t) (hp : fs.Perm ((frcS n ts t).map sw)) (hs : fs.Pairwise (fun s t => ¬ ltT t s)) : fs = frcS n ts (sw t) := by
  have ht' : InR n (sw t) := ⟨ht.2.2.1, ht.2.2.2, ht.1, ht.2.1⟩
  refine srt_eq hp ?_ hs (frcS_pw n ts _) fun x => ?_
  · rw [List.nodup_iff_pairwise_ne, List.pairwise_map]
    refine (List.nodup_iff_pairwise_ne.mp (nd_pw (frcS_pw n ts t))).imp fun {s t} h e => h ?_
    rw [← sw_sw s, e, sw_sw]
  · rw [mem_frcS ht', frc_sw, List.mem_map]
    constructor
    · rintro ⟨y, hy, rfl⟩
      exact (mem_frcS ht).mp hy
    · intro h
      exact ⟨_, (mem_frcS ht).mpr h, sw_sw x⟩
end My

set_option Elab.async false
set_option linter.all false
set_option maxRecDepth 100000
namespace My
open PySem PySem.Spec PyProof.Rows L2

/-! ### str of data, where no text is being made of anything yet -/
def rStrD (K : PySem.W.Frag) : List V → Hp → VK → Prop := fun xs H Q => ∃ a d, xs = [.ref a] ∧ Dp K H (.ref a) d ∧ d.showable = true ∧ d.hasDict = false ∧ d.depth ≤ 50 ∧ d.shown.length ≤ sizeLine ∧ Q (.str d.shown) H
theorem call_strD {X : Cx} (hg : X.A.guards = some []) (hu : X.A.units + 65 < cLine) : CallR X (.type "str") (rStrD X.K) := by
  rintro pins s σ H xs us Q I r ⟨a, d, rfl, hd, h1, h2, h3, h4, q⟩
  obtain ⟨u, rfl, r1⟩ := vals1 r
  obtain rfl : u = Value.ref a := r1
  obtain ⟨as, rr⟩ := Dp.reads I d _ _ hd rfl
  exact str_of_reads rr h1 (fun z => by rw [h2] at z; cases z) hg (by omega) (fun _ _ e => e) (fun h' t tk k => ⟨.str _, H, I.kept k, ⟨_, rfl⟩, q⟩) h4

/-! ### cuts: what holds behind a piece is named, and the rest is shown from that alone -/
section
variable {X : Cx} {st : Stmt} {rest : List Stmt} {t u : TS} {e : Expr} {te : TE} {tt : TT}
def tCut (t u : TS) : TS := fun D σ H => ∃ M : L2.St → Hp → Prop, t { D with nx := M } σ H ∧ ∀ σ' H', M σ' H' → u D σ' H'
theorem pss_cut (h1 : PS X st t) (h2 : PSs X rest u) : PSs X (st :: rest) (tCut t u) := by
  constructor
  rintro pins s σ H D I ⟨M, h, hM⟩
  refine wpAny_execs_cons (wpAny_mono (h1.run pins s σ H { D with nx := M } I h) (fun f s1 z => ?_) fun _ _ z => z)
  match f, z with
  | .next, ⟨σ', H', I', m⟩ => exact h2.run pins s1 σ' H' D I' (hM _ _ m)
  | .ret _, z => exact z
  | .brk, z => exact z
  | .cont, z => exact z
def tCutE (t : TE) : TE := fun σ H Q => ∃ M : VK, t σ H M ∧ ∀ v H', M v H' → Q v H'
theorem pe_cut (h : PE X e te) : PE X e (tCutE te) := by
  constructor
  rintro pins s σ H Q I ⟨M, m, hM⟩
  refine wpAny_mono (h.run pins s σ H M I m) (fun v s1 z => ?_) fun _ _ z => z
  obtain ⟨x, H', I', r, z⟩ := z
  exact ⟨x, H', I', r, hM _ _ z⟩
def tCutT (t : TT) : TT := fun σ H Q => ∃ M : Bool → Hp → Prop, t σ H M ∧ ∀ v H', M v H' → Q v H'
theorem pt_cut (h : PT X e tt) : PT X e (tCutT tt) := by
  constructor
  rintro pins s σ H Q I ⟨M, m, hM⟩
  refine wpAny_mono (h.run pins s σ H M I m) (fun v s1 z => ?_) fun _ _ z => z
  obtain ⟨H', I', z⟩ := z
  exact ⟨H', I', hM _ _ z⟩
end
/-! ### a def run at the top -/
section
variable {P : Program} {w : World} {K : PySem.W.Frag} {mg : Str → Option Value} {base : Heap}
/-- a call of a def with one argument from the law's own caller -/
def TopRun (P : Program) (w : World) (K : PySem.W.Frag) (mg : Str → Option Value) (base : Heap) (f : Addr) (fd : FuncData) (y : Str) (sp : Sp) : Prop :=
  ∀ (s : Shared) (H : Hp) (u : Value) (v : V) (Q : VK) (E : XK), Env0 P w K mg base callerA [] s H → BindsTo s fd ⟨[u], []⟩ [(y, u)] → RelV v u → sp [v] H Q E →
    codeAny (model P w) callerA (.call (.ref f) ⟨[u], []⟩) (CR CX0 [] P w H s Q E) s
theorem top_run {x y : Str} {st : Stmt} {f : Addr} {fd : FuncData} {N : List Str} {k : Nat} {sp : Sp} (F : Fun K x x st f fd) (S : FnScope N [y] (defScope st)) (room : Room (k + 1) callerA)
    (body : ∀ (cdv : Value) (s : Shared) (H : Hp) (v : V) (Q : VK) (E : XK), Room k (callerA.deeper (envOfC x (defScope st) s.heap.objs.size f cdv)) → sp [v] H Q E →
      ∃ t, PSs (cxOf CX0 P w K mg base N x (defScope st) f cdv callerA [] s H E).nox (defBody st) t ∧ t { nx := fun _ H' => Q .non H', rt := Q } (start N [v]) H) :
    TopRun P w K mg base f fd y sp := by
  intro s H u v Q E e0 hb rv hsp
  obtain ⟨oc, od, kV, doc, pm, an, cdv, ct, osl, rfl, lk, hcd⟩ := F.ex
  have here : K.In s.heap := e0.mod.kin.keeps fun b o z => (e0.bs b o z).1
  have free := e0.mod.nolimit.keeps fun b o z => (e0.bs b o z).1
  refine codeAny_call_function room.depth (here _ _ lk) rfl S.co S.gen rfl (PySem.W.codeRec_of here hcd) (hb _ _ _ _ ?_)
  refine wpAny_newFunctionEnv_cells S.kind ?_ fun env he s1 inn => ?_
  · rintro ⟨n, z⟩ hz
    rcases S.par n (List.of_mem_zip (l₁ := [y]) (l₂ := [u]) hz).1 with loc | cel
    · exact Or.inl loc
    · exact Or.inr ⟨cel, PySem.W.cellsFrom_some _ _ _ (Or.inl cel)⟩
  subst he
  refine ⟨free.keeps inn.toInCall.keep, codeAny_func ?_⟩
  obtain ⟨t, ht, hq⟩ := body cdv s H v Q E (room.deeper _) hsp
  have I0 := inv_start (CX := CX0) (E := E) (vs := [v]) (us := [u]) S room.hd e0 rfl (.cons rv .nil) inn
  refine wpAny_mono (ht.nox.run [] s1 (start N [v]) H _ I0 hq) (fun fl s' out => ?_) fun _ _ z => z
  cases fl with
  | ret z =>
    obtain ⟨v', σ', H', J, r', q'⟩ := out
    exact ⟨v', H', J.os, J.bare, J.base, J.hok, r', q'⟩
  | next =>
    obtain ⟨σ', H', J, q'⟩ := out
    exact ⟨V.non, H', J.os, J.bare, J.base, J.hok, rfl, q'⟩
  | brk => obtain ⟨_, _, _, no⟩ := out; exact no.elim
  | cont => obtain ⟨_, _, _, no⟩ := out; exact no.elim
end
end My

set_option Elab.async false
set_option linter.all false
set_option maxRecDepth 100000
namespace My
open PySem PySem.Spec PyProof.Rows L2

/-! ### the law's call, from what its def does when it is called from the top -/
/-- what the heap tracks when the law is called: the tables, empty, and the script where it is none of the fixed part -/
structure Trk (K : PySem.W.Frag) (s : Shared) (cs : List (Addr × Addr)) (a : Addr) (xs : Array Value) (ys : List V) (H : Hp) : Prop where
  tab : ∀ p ∈ cs, H p.2 = some (.tbl #[])
  scr : SqL K H a ys
  any : ∀ b u, H b = some u → (∃ p ∈ cs, p.2 = b) ∨ (b = a ∧ K.lookup a = none ∧ u = .frz { cls := .type "list", data := .seq xs } (.lst ys))
section
variable {P : Program} {w : World} {K : PySem.W.Frag} {mg mb : Str → Option Value} {fa a : Addr} {cs : List (Addr × Addr)} {fd : FuncData} {y : Str} {sp : Sp} {s : Shared} {vs : List Value} {ns : List Int} {H : Hp}
theorem trk_out (hT : ∀ p ∈ cs, s.heap.get? p.2 = some ⟨.none, none, .fields #[], #[]⟩) (ha : s.heap.get? a = some { cls := .type "list", data := .seq vs.toArray }) {ys : List V} (t : Trk K s cs a vs.toArray ys H) {b : Addr} {o : Obj} (e : s.heap.get? b = some o) (h1 : ∀ us n, o.data = .seq us n → False) (h2 : o.data = .fields #[] → False) : H b = none := by
  cases z : H b with
  | none => rfl
  | some u =>
    exfalso
    rcases t.any b u z with ⟨p, hp, rfl⟩ | ⟨rfl, _, _⟩
    · rw [hT p hp] at e; cases e; exact h2 rfl
    · rw [ha] at e; cases e; exact h1 _ _ rfl
theorem trk_call (KX : K.In s.heap) (g1 : s.heap.Ns mainGlobals mg) (g2 : s.heap.Ns builtinsNs mb) (g3 : ∀ x : Str, x ≠ "__name__" → mb x = bootBuiltins x) (g4 : s.heap.NoLimit) (g5 : s.gens = #[])
    (hT : ∀ p ∈ cs, s.heap.get? p.2 = some ⟨.none, none, .fields #[], #[]⟩) (nT : ∀ p ∈ cs, K.lookup p.2 = none) (hC : ∀ p ∈ cs, PySem.W.CodeHd s.heap p.1 p.2)
    (g6 : ∃ (bm : Addr) (ob : Obj), mg "__builtins__" = some (.ref bm) ∧ bm ≠ builtinsNs ∧ s.heap.get? bm = some ob ∧ ob.cls = .type "module" ∧ ob.dict = some builtinsNs ∧ ob.data = .plain)
    (ha : s.heap.get? a = some { cls := .type "list", data := .seq vs.toArray })
    (R : ∀ base : Heap, K.In base → base.Ns mainGlobals mg → (∀ p ∈ cs, LamX.TabB base mg p.1 p.2) → TopRun P w K mg base fa fd y sp) (hbind : ∀ (s : Shared) (u : Value), BindsTo s fd ⟨[u], []⟩ [(y, u)])
    (t : Trk K s cs a vs.toArray (ns.map V.int) H) (ok : HOk P w H s.heap) (hsp : sp [.ref a] H (fun v _ => v = .bl true) fun _ _ _ => False) :
    codeAny (model P w) callerA (.call (.ref fa) ⟨[.ref a], []⟩) (fun r s' => r = .ok (.ret (.bool true)) ∧ OldK s.heap s'.heap ∧ s'.os = s.os ∧ AllBare s'.gens) s := by
  have up : ∀ {b : Addr} {o : Obj}, s.heap.get? b = some o → (∀ us n, o.data = .seq us n → False) → (o.data = .fields #[] → False) → (hidT s.heap H).get? b = some o := fun e h1 h2 => hidT_get e (trk_out hT ha t e h1 h2)
  have upN : ∀ {b : Addr} {m : Str → Option Value}, s.heap.Ns b m → (hidT s.heap H).Ns b m := by
    rintro b m ⟨o, es, ep, e, d, r⟩
    exact ⟨o, es, ep, up e (fun us n z => by rw [d] at z; cases z) (fun z => by rw [d] at z; cases z), d, r⟩
  have upK : K.In (hidT s.heap H) := by
    intro b o e
    refine hidT_get (KX b o e) ?_
    cases z : H b with
    | none => rfl
    | some u =>
      exfalso
      rcases t.any b u z with ⟨p, hp, rfl⟩ | ⟨rfl, nk, _⟩
      · rw [nT p hp] at e; cases e
      · rw [nk] at e; cases e
  have upM : L2.Mod K mg (hidT s.heap H) := by
    obtain ⟨mc, k1, k2⟩ := g4
    exact ⟨upK, upN g1, ⟨mb, upN g2, g3⟩, ⟨mc, upN k1, k2⟩⟩
  have upT : ∀ p ∈ cs, LamX.TabB (hidT s.heap H) mg p.1 p.2 := by
    intro p hp
    have hp2 := hT p hp
    constructor
    · obtain ⟨o, us, file, tf, flags, tg, inF, text, tt, e1, r1, r2, r3, more⟩ := hC p hp
      refine ⟨o, us, file, tf, flags, tg, inF, text, tt, up e1 (fun z n k => by rw [r2] at k; cases k) (fun k => ?_), r1, r2, r3, more⟩
      rw [r2] at k; cases k; simp at r3
    · obtain ⟨bm, ob, b1, b2, b3, b4, b5, b6⟩ := g6
      refine ⟨bm, ob, b1, b2, fun z => ?_, fun z => ?_, up b3 (fun us n k => by rw [b6] at k; cases k) (fun k => by rw [b6] at k; cases k), b4, b5, b6⟩
      · obtain ⟨o, es, ep, e, hd, _⟩ := g1
        rw [z, e] at b3; cases b3; rw [hd] at b6; cases b6
      · rw [z, hp2] at b3; cases b3; cases b6
    · intro z
      obtain ⟨o, es, ep, e, hd, _⟩ := g1
      rw [z, hp2] at e; cases e; cases hd
  have e0 : Env0 P w K mg (hidT s.heap H) callerA [] s H := by
    refine ⟨rfl, upM, fun b o e => of_hidT e, Nat.le_of_eq (hidT_size _ _), trivial, fun b hb => ?_, ok, .of_eq g5⟩
    exact absurd (show b ∈ ([] : List Addr) from hb) List.not_mem_nil
  refine codeAny_mono (R _ upK (upN g1) upT s H (.ref a) (.ref a) _ _ e0 (hbind s _) rfl hsp) fun r s' h => ?_
  match r, h with
  | .error e, h => exact h.elim
  | .ok .next, h => exact h.elim
  | .ok .brk, h => exact h.elim
  | .ok .cont, h => exact h.elim
  | .ok (.ret u), ⟨v, H', os, bare, un, ok', rv, hv⟩ =>
    obtain rfl : v = .bl true := hv
    obtain rfl : u = Value.bool true := rv
    have key : ∀ b o, s.heap.get? b = some o → (¬ ∃ p ∈ cs, p.2 = b) → s'.heap.get? b = some o := by
      intro b o e nb
      cases z : H b with
      | none => exact un.keep b o e z (fun k => absurd (show b ∈ ([] : List Addr) from k) List.not_mem_nil) List.not_mem_nil
      | some u =>
        rcases t.any b u z with k | ⟨rfl, _, rfl⟩
        · exact absurd k nb
        · have z2 := ok' _ _ (un.frzs _ _ _ z)
          rw [ha] at e; cases e
          exact z2.1
    have tabs : ∀ p ∈ cs, ∃ more : Array Value, s'.heap.get? p.2 = some ⟨.none, none, .fields more, #[]⟩ := by
      intro p hp
      obtain ⟨more, z⟩ := un.tbls p.2 #[] (t.tab p hp)
      exact ⟨_, ok' _ _ z⟩
    refine ⟨rfl, ⟨fun b o e => ?_, fun b o e => ?_⟩, os, bare⟩
    · by_cases hb : ∃ p ∈ cs, p.2 = b
      · obtain ⟨p, hp, rfl⟩ := hb
        obtain ⟨more, hm⟩ := tabs p hp
        rw [hT p hp] at e; cases e
        refine Or.inr (Or.inl ⟨((hC p hp).tab (hT p hp)).isCodeTable, rfl, #[], more, rfl, ?_⟩)
        rw [Array.empty_append]; exact hm
      · exact Or.inl (key b o e hb)
    · by_cases hb : ∃ p ∈ cs, p.2 = b
      · obtain ⟨p, hp, rfl⟩ := hb
        obtain ⟨more, hm⟩ := tabs p hp
        exact ⟨_, hm⟩
      · exact ⟨o, key b o e hb⟩
end
section
open Classical
variable {K : PySem.W.Frag} {a : Addr} {cs : List (Addr × Addr)} {s : Shared} {vs : List Value} {ns : List Int}
noncomputable def trkH (K : PySem.W.Frag) (cs : List (Addr × Addr)) (a : Addr) (xs : Array Value) (ys : List V) : Hp := fun b =>
  if ∃ p ∈ cs, p.2 = b then some (.tbl #[]) else if b = a ∧ K.lookup a = none then some (.frz { cls := .type "list", data := .seq xs } (.lst ys)) else none
theorem trkH_ok {P : Program} {w : World} (KX : K.In s.heap) (hT : ∀ p ∈ cs, s.heap.get? p.2 = some ⟨.none, none, .fields #[], #[]⟩) (ha : s.heap.get? a = some { cls := .type "list", data := .seq vs.toArray }) (hi : IntsAre vs ns) (hl : ns.length ≤ sizeLine) :
    Trk K s cs a vs.toArray (ns.map V.int) (trkH K cs a vs.toArray (ns.map V.int)) ∧ HOk P w (trkH K cs a vs.toArray (ns.map V.int)) s.heap := by
  have na : ¬ ∃ p ∈ cs, p.2 = a := by
    rintro ⟨p, hp, rfl⟩
    rw [hT p hp] at ha; cases ha
  have rv := vals_ints hi
  refine ⟨⟨fun p hp => if_pos ⟨p, hp, rfl⟩, ?_, fun b u e => ?_⟩, fun b u e => ?_⟩
  · cases hk : K.lookup a with
    | some o =>
      have e := KX a o hk
      rw [ha] at e; cases e
      exact Or.inr ⟨_, vs.toArray, _, hk, rfl, rfl, rfl, by rw [List.size_toArray, hi.length]; exact hl, by simpa using rv⟩
    | none => exact Or.inl (Or.inr ⟨_, (if_neg na).trans (if_pos ⟨rfl, hk⟩)⟩)
  · by_cases hb : ∃ p ∈ cs, p.2 = b
    · exact Or.inl hb
    · have e1 := (if_neg hb).symm.trans e
      by_cases hb2 : b = a ∧ K.lookup a = none
      · have e2 := (if_pos hb2).symm.trans e1
        cases e2
        exact Or.inr ⟨hb2.1, hb2.2, rfl⟩
      · have e2 := (if_neg hb2).symm.trans e1
        cases e2
  · by_cases hb : ∃ p ∈ cs, p.2 = b
    · have e1 := (if_pos hb).symm.trans e
      cases e1
      obtain ⟨p, hp, rfl⟩ := hb
      exact hT p hp
    · have e1 := (if_neg hb).symm.trans e
      by_cases hb2 : b = a ∧ K.lookup a = none
      · have e2 := (if_pos hb2).symm.trans e1
        cases e2
        obtain ⟨rfl, _⟩ := hb2
        exact ⟨ha, by rw [List.length_map]; exact hl, vs, _, rv, ha⟩
      · have e2 := (if_neg hb2).symm.trans e1
        cases e2
end
/-- what is known of a law's def at the head's heap -/
def TopAt (l : PySem.W.OpenLaw) (w : World) (K : PySem.W.Frag) (n : Nat) (y : Str) (mg : Str → Option Value) (fa : Addr) (h : Heap) : Prop :=
  ∃ (fd : FuncData) (cs : List (Addr × Addr)) (sp : Sp), (∀ p ∈ cs, h.get? p.2 = some ⟨.none, none, .fields #[], #[]⟩) ∧ (∀ p ∈ cs, K.lookup p.2 = none) ∧ (∀ p ∈ cs, PySem.W.CodeHd h p.1 p.2) ∧ (∀ (s : Shared) (u : Value), BindsTo s fd ⟨[u], []⟩ [(y, u)]) ∧
    (∀ (H : Hp) (a : Addr) (ns : List Int), ns.length ≤ n → (∀ z ∈ ns, Builtin.Int.intBits z ≤ 1048576) → (∀ p ∈ cs, H p.2 = some (.tbl #[])) → SqL K H a (ns.map V.int) → sp [.ref a] H (fun v _ => v = .bl true) fun _ _ _ => False) ∧
    ∀ base : Heap, K.In base → base.Ns mainGlobals mg → (∀ p ∈ cs, LamX.TabB base mg p.1 p.2) → TopRun l.prog w K mg base fa fd y sp
theorem walk_top {l : PySem.W.OpenLaw} {n : Nat} {q : Program} {loose : List Str} {XP : (Str → Option Value) → Heap → Prop} {YP : World → Heap → Prop} {d : DefRec} {y : Str} (hn : l.most = some n) (hn2 : n ≤ sizeLine) (hdf : d.params.defaults = [])
    (F : ∀ (w : World) (mg : Str → Option Value) (fa : Addr) (h : Heap), YP w h → h.Ns mainGlobals mg → mg d.name = some (.ref fa) → ∃ K : PySem.W.Frag, K.In h ∧ TopAt l w K n y mg fa h) :
    PySem.W.WalkO q loose XP YP l.row.toRowW d [] (fun f vs => PySem.call f vs) := by
  apply Att.attach_callB hn hdf
  intro w s0 s1 mg mb fa o pm cd doc a vs ns G Y _ _ _ hm hobj hints hlen hbits hgens
  obtain ⟨K, KX, fd, cs, sp, hT, nT, hC, hb, hsp, hF⟩ := F w mg fa _ Y G.T.g hm
  obtain ⟨tr, ok⟩ := trkH_ok (P := l.prog) (w := w) (cs := cs) KX hT hobj hints (Nat.le_trans hlen hn2)
  exact trk_call KX G.T.g G.T.b G.T.builtins G.T.nolimit hgens hT nT hC G.T.bmain hobj hF hb tr ok (hsp _ a ns hlen hbits tr.tab tr.scr)
end My

set_option Elab.async false
set_option linter.all false
set_option maxRecDepth 100000
namespace My
open PySem PySem.Spec PyProof.Rows L2 GxR

/-! ### what stays while a law goes on -/
theorem same_fr {L : Addr} {H0 H H' : Hp} (s : Same H0 H) (n0 : H0 L = none) (f : Fr L H H') : Same H0 H' := fun b o e =>
  f b o (fun z => by rw [z, n0] at e; cases e) (s b o e)
theorem sq_same {K : PySem.W.Frag} {H H' : Hp} {a : Addr} {xs : List V} (s : Same H H') (h : SqL K H a xs) : SqL K H' a xs := by
  rcases h with (h | ⟨o, h⟩) | h
  · exact .inl (.inl (s _ _ h))
  · exact .inl (.inr ⟨o, s _ _ h⟩)
  · exact .inr h
theorem same_refl (H : Hp) : Same H H := fun _ _ e => e
theorem wok_len {n : Nat} {ts : List Ar} (hW : WOk n ts) (hn : n ≤ 100) : ts.length ≤ 10000 :=
  Nat.le_trans (nd_len (m := pup n n) (nd_pw hW.1) fun t ht => (mem_pup (Nat.le_refl n)).mpr (by have := hW.2 t ht; omega)) (pup_len' hn (Nat.le_refl n))
theorem Eqd.bl {m : Nat} {H : Hp} {i : Bool} : Eqd m H (.bl i) (.bl i) := by
  cases m with
  | zero => exact ⟨rfl, .inr (.inl ⟨i, rfl⟩)⟩
  | succ m => exact .inl ⟨rfl, .inr (.inl ⟨i, rfl⟩)⟩
theorem Eqd.non {m : Nat} {H : Hp} : Eqd m H .non .non := by
  cases m with
  | zero => exact ⟨rfl, .inl rfl⟩
  | succ m => exact .inl ⟨rfl, .inl rfl⟩
theorem lst_eqd {H : Hp} {p q : Addr} {vs us : List V} {ts : List Ar} (hp : H p = some (.lst vs)) (hq : H q = some (.lst us)) (h : Ties H vs ts) (k : Ties H us ts) (l : ts.length ≤ 10000) : Eqd 2 H (.ref p) (.ref q) := by
  refine .inr ⟨p, q, vs, us, rfl, rfl, .inr ⟨hp, hq⟩, by rw [h.len, k.len], by rw [h.len]; exact l, fun i v u e f => ?_⟩
  obtain ⟨t1, e1, h1⟩ := h.at e
  obtain ⟨t2, e2, h2⟩ := k.at f
  rw [e1] at e2; cases e2
  exact tie_eqd h1 h2
theorem Eqd.up2 {m : Nat} {H : Hp} {x y : V} (h : Eqd m H x y) : Eqd (m + 2) H x y := h.up.up
theorem eqv_ties (ts : List Ar) : PyData.eqv (.list (ts.map dT)) (.list (ts.map dT)) = true := SeqAt.eqv_refl _ (can_ties ts)
theorem eqv_tiesT (ts : List Ar) : PyData.eqv (.tuple (ts.map dT)) (.tuple (ts.map dT)) = true := SeqAt.eqv_refl _ (can_ties ts)
theorem cutTo (xs : List V) (j : Nat) : cutV xs none (some (j : Int)) = xs.take j := by
  unfold cutV
  rw [HT.sIx_nat, HT.sIx_none, List.drop_zero, Nat.sub_zero]
  by_cases h : j ≤ xs.length
  · rw [Nat.min_eq_left h]
  · rw [Nat.min_eq_right (by omega), List.take_length, List.take_of_length_le (by omega)]
theorem Ties.take {H : Hp} : ∀ {vs : List V} {ts : List Ar} (j : Nat), Ties H vs ts → Ties H (vs.take j) (ts.take j)
  | _, _, 0, _ => by simp only [List.take_zero]; exact trivial
  | [], [], _ + 1, _ => trivial
  | _ :: _, _ :: _, j + 1, h => ⟨h.1, Ties.take j h.2⟩
  | [], _ :: _, _ + 1, h => h.elim
  | _ :: _, [], _ + 1, h => h.elim
theorem Ties.mem {H : Hp} {vs : List V} {ts : List Ar} {i : Nat} {v : V} (h : Ties H vs ts) (e : vs[i]? = some v) : ∃ t, t ∈ ts ∧ Tie H v t := by
  obtain ⟨t, e1, h1⟩ := h.at e
  exact ⟨t, List.mem_of_getElem? e1, h1⟩

theorem nd_get {qs : List Addr} (nd : qs.Nodup) {i j : Nat} {q : Addr} (h1 : qs[i]? = some q) (h2 : qs[j]? = some q) : i = j := by
  obtain ⟨li, ei⟩ := List.getElem?_eq_some_iff.mp h1
  obtain ⟨lj, ej⟩ := List.getElem?_eq_some_iff.mp h2
  have pw := List.pairwise_iff_getElem.mp (List.nodup_iff_pairwise_ne.mp nd)
  rcases Nat.lt_trichotomy i j with z | z | z
  · exact absurd (ei.trans ej.symm) (pw _ _ li lj z)
  · exact z
  · exact absurd (ej.trans ei.symm) (pw _ _ lj li z)
theorem same_free {H H' : Hp} {p : Addr} (s : Same H H') (h : H' p = none) : H p = none := by
  cases z : H p with
  | none => rfl
  | some o => rw [s _ _ z] at h; cases h
theorem neI (a b : Int) : (!decide (V.int a = V.int b)) = !decide (a = b) := congrArg (! ·) (decide_eq_decide.mpr ⟨fun e => V.int.inj e, fun e => congrArg V.int e⟩)
theorem natOf {a : Int} (h : 0 ≤ a) : ∃ k : Nat, a = (k : Int) := ⟨a.toNat, (Int.toNat_of_nonneg h).symm⟩
/-! ### a web as a text -/
def dW (n : Nat) (ts : List Ar) : PyData := .tuple [.int (n : Int), .tuple (ts.map dT)]
theorem Web.dp {K : PySem.W.Frag} {H : Hp} {v : V} {n : Nat} {ts : List Ar} (h : Web H v n ts) : Dp K H v (dW n ts) := by
  obtain ⟨p, q, vs, rfl, h1, h2, h3⟩ := h
  exact .tup (SqT.of h1) (.cons (.int _) (.cons (.tup (SqT.of h2) h3.dp) .nil))
theorem log_small {i : Int} (h0 : 0 ≤ i) (h : i < 100) : decide (i.natAbs.log2 < 1920) = true := by
  refine decide_eq_true ?_
  have : i.natAbs.log2 ≤ i.natAbs := Nat.log2_le_self _
  omega
theorem show_ties {n : Nat} {ts : List Ar} (hn : n ≤ 100) (hR : ∀ t ∈ ts, InR n t) : PyData.showableAll (ts.map dT) = true ∧ PyData.hasDictAll (ts.map dT) = false := by
  induction ts with
  | nil => exact ⟨rfl, rfl⟩
  | cons t l ih =>
    obtain ⟨i1, i2⟩ := ih fun x hx => hR x (List.mem_cons_of_mem _ hx)
    obtain ⟨a1, a2, a3, a4⟩ := hR t List.mem_cons_self
    rw [List.map_cons, PyData.showableAll, PyData.hasDictAll, i1, i2]
    constructor
    · show (PyData.showableAll [.int t.1, .int t.2] && true) = true
      rw [PyData.showableAll, PyData.showableAll, PyData.showableAll, PyData.showable, PyData.showable, log_small a1 (by omega), log_small a3 (by omega)]; rfl
    · rfl
theorem txt_small : ∀ k : Nat, k < 100 → ((toString ((k : Nat) : Int) : String) : Str).length ≤ 2 := by decide +kernel
theorem txt_len {i : Int} (h0 : 0 ≤ i) (h : i < 100) : ((toString i : String) : Str).length ≤ 2 := by
  obtain ⟨k, rfl⟩ : ∃ k : Nat, i = (k : Int) := ⟨i.toNat, (Int.toNat_of_nonneg h0).symm⟩
  exact txt_small k (by omega)
theorem tupleText_len (l : List Str) : (tupleText l).length ≤ piled l + 3 := by
  unfold tupleText
  rw [strLen_append, strLen_append]
  have e1 : ((("(" : String) : Str)).length = 1 := rfl
  have e3 : (((if l.length == 1 then ",)" else ")" : String) : Str)).length ≤ 2 := by split <;> decide
  rw [e1]
  by_cases h : l = []
  · subst h
    have : (Str.join ", " []).length = 0 := rfl
    omega
  · have := join_length_add l h
    omega
theorem shown_ties {n : Nat} {ts : List Ar} (hn : n ≤ 100) (hR : ∀ t ∈ ts, InR n t) : piled (PyData.shownAll (ts.map dT)) ≤ 13 * ts.length := by
  induction ts with
  | nil => exact Nat.le_refl _
  | cons t l ih =>
    have i1 := ih fun x hx => hR x (List.mem_cons_of_mem _ hx)
    obtain ⟨a1, a2, a3, a4⟩ := hR t List.mem_cons_self
    rw [List.map_cons, PyData.shownAll, piled_cons, List.length_cons]
    have h1 := tupleText_len (PyData.shownAll [.int t.1, .int t.2])
    rw [PyData.shownAll, PyData.shownAll, PyData.shownAll, piled_cons, piled_cons, piled_nil, PyData.shown, PyData.shown] at h1
    have h2 := txt_len a1 (by omega)
    have h3 := txt_len a3 (by omega)
    have h4 : (dT t).shown = tupleText [((toString t.1 : String) : Str), ((toString t.2 : String) : Str)] := by
      unfold dT
      rw [PyData.shown, PyData.shownAll, PyData.shownAll, PyData.shownAll, PyData.shown, PyData.shown]
    rw [h4]
    omega
theorem web_show {n : Nat} {ts : List Ar} (hW : WOk n ts) (hn : n ≤ 12) (hl : ts.length ≤ 10000) : (dW n ts).showable = true ∧ (dW n ts).hasDict = false ∧ (dW n ts).depth ≤ 50 ∧ (dW n ts).shown.length ≤ sizeLine := by
  have hR : ∀ t ∈ ts, InR n t := fun t ht => by
    have := hW.2 t ht
    exact ⟨this.1, by omega, by omega, this.2.2⟩
  obtain ⟨s1, s2⟩ := show_ties (n := n) (by omega) hR
  have s3 := shown_ties (n := n) (by omega) hR
  have s4 := dep_ties ts
  refine ⟨?_, ?_, ?_, ?_⟩
  · unfold dW
    rw [PyData.showable, PyData.showableAll, PyData.showableAll, PyData.showableAll, PyData.showable, PyData.showable, s1, log_small (by omega) (by omega)]; rfl
  · unfold dW
    rw [PyData.hasDict, PyData.hasDictAll, PyData.hasDictAll, PyData.hasDictAll, PyData.hasDict, PyData.hasDict, s2]; rfl
  · unfold dW
    rw [PyData.depth, PyData.depthAll, PyData.depthAll, PyData.depthAll, PyData.depth, PyData.depth]
    omega
  · unfold dW
    rw [PyData.shown, PyData.shownAll, PyData.shownAll, PyData.shownAll, PyData.shown, PyData.shown]
    have h1 := tupleText_len [((toString (n : Int) : String) : Str), tupleText (PyData.shownAll (ts.map dT))]
    rw [piled_cons, piled_cons, piled_nil] at h1
    have h2 := tupleText_len (PyData.shownAll (ts.map dT))
    have h3 := txt_len (i := (n : Int)) (by omega) (by omega)
    have h4 : 200000 ≤ sizeLine := by decide
    omega
/-- what str tells of a web -/
theorem web_str {K : PySem.W.Frag} {H : Hp} {v : V} {n : Nat} {ts : List Ar} {Q : VK} (h : Web H v n ts) (hW : WOk n ts) (hn : n ≤ 12) (hl : ts.length ≤ 10000) (q : Q (.str (dW n ts).shown) H) : rStrD K [v] H Q := by
  obtain ⟨s1, s2, s3, s4⟩ := web_show hW hn hl
  have hd := h.dp (K := K)
  obtain ⟨p, q', vs, rfl, _⟩ := h
  exact ⟨p, _, rfl, hd, s1, s2, s3, s4, q⟩
end My

set_option Elab.async false
set_option linter.all false
set_option maxRecDepth 100000
namespace My
open PySem PySem.Spec PyProof.Rows L2 GxR
/-! ### one table -/
theorem frm_tst {PT : Addr} {H H' : Hp} (s : FrM [PT] H H') (tg : TabG H PT) : Tst H H' := fun b xs e => by
  refine s b _ (fun z => ?_) e
  obtain ⟨ps, h1, _⟩ := tg
  rw [List.mem_singleton.mp z, h1] at e; cases e
theorem frm_lst {PT p : Addr} {H H' : Hp} {xs : List V} (s : FrM [PT] H H') (tg : TabG H PT) (e : H p = some (.lst xs)) : H' p = some (.lst xs) := by
  refine s p _ (fun z => ?_) e
  obtain ⟨ps, h1, _⟩ := tg
  rw [List.mem_singleton.mp z, h1] at e; cases e
theorem tab_same {H H' : Hp} {PT : Addr} (h : TabG H PT) (s : Same H H') : TabG H' PT := by
  obtain ⟨ps, h1, h2⟩ := h
  exact ⟨ps, s _ _ h1, h2⟩
structure St1 (PT : Addr) (H0 H : Hp) : Prop where
  fr : FrM [PT] H0 H
  tg : TabG H PT
theorem St1.same {PT : Addr} {H0 H H' : Hp} (h : St1 PT H0 H) (s : Same H H') : St1 PT H0 H' := ⟨h.fr.trans (FrM.same s), tab_same h.tg s⟩
theorem St1.tab {PT : Addr} {H0 H H' : Hp} (h : St1 PT H0 H) (s : FrM [PT] H H') (t : TabG H' PT) : St1 PT H0 H' := ⟨h.fr.trans s, t⟩
theorem St1.free {PT p : Addr} {H0 H : Hp} (h : St1 PT H0 H) (e : H p = none) : H0 p = none := by
  cases z : H0 p with
  | none => rfl
  | some o =>
    exfalso
    by_cases hp : p = PT
    · obtain ⟨ps, h1, _⟩ := h.tg
      rw [hp, h1] at e; cases e
    · rw [h.fr p o (fun w => hp (List.mem_singleton.mp w)) z] at e; cases e
theorem St1.frL {PT L : Addr} {H0 H H' : Hp} {c : Int} (h : St1 PT H0 H) (lf : Lf H L c) (n0 : H0 L = none) (f : Fr L H H') : St1 PT H0 H' := by
  obtain ⟨x, y, z, e, _⟩ := lf
  obtain ⟨ps, h1, h2⟩ := h.tg
  have nP : PT ≠ L := fun w => by rw [w, e] at h1; cases h1
  exact ⟨fun b o nb eb => f b o (fun w => by rw [w, n0] at eb; cases eb) (h.fr b o nb eb), ⟨ps, f _ _ nP h1, h2⟩⟩
theorem St1.sq {K : PySem.W.Frag} {PT a : Addr} {H0 H : Hp} {xs : List V} (h0 : TabG H0 PT) (h : St1 PT H0 H) (e : SqL K H0 a xs) : SqL K H a xs := by
  obtain ⟨ps, p1, _⟩ := h0
  have k : ∀ {o : HO}, H0 a = some o → (∀ ps, o ≠ .tbl ps) → H a = some o := fun {o} ea nb => by
    refine h.fr a o (fun z => ?_) ea
    rw [List.mem_singleton.mp z, p1] at ea; cases ea; exact nb _ rfl
  rcases e with (e | ⟨o, e⟩) | e
  · exact .inl (.inl (k e fun _ z => by cases z))
  · exact .inl (.inr ⟨o, k e fun _ z => by cases z⟩)
  · exact .inr e
theorem lf_tab {PT L : Addr} {H H' : Hp} {c : Int} (lf : Lf H L c) (s : FrM [PT] H H') (tg : TabG H PT) : Lf H' L c := by
  obtain ⟨x, y, z, e, h⟩ := lf
  obtain ⟨ps, h1, _⟩ := tg
  refine ⟨x, y, z, s _ _ (fun w => ?_) e, h⟩
  rw [List.mem_singleton.mp w, h1] at e; cases e
/-! one table, and what stands beside it -/
theorem St1.refl {PT : Addr} {H : Hp} (t : TabG H PT) : St1 PT H H := ⟨FrM.refl _ _, t⟩
theorem St1.trans {PT : Addr} {H0 H1 H2 : Hp} (a : St1 PT H0 H1) (b : St1 PT H1 H2) : St1 PT H0 H2 := ⟨a.fr.trans b.fr, b.tg⟩
theorem tab_ne {PT p : Addr} {H : Hp} {xs : List V} (t : TabG H PT) (e : H p = some (.lst xs)) : p ≠ PT := fun z => by
  obtain ⟨ps, h1, _⟩ := t
  rw [z, h1] at e; cases e
theorem St1.put {PT p : Addr} {H0 H : Hp} {o : HO} {xs : List V} (h : St1 PT H0 H) (e : H0 p = none) (e2 : H p = some (.lst xs)) : St1 PT H0 (upd H p o) := by
  obtain ⟨ps, h1, h2⟩ := h.tg
  exact ⟨h.fr.putN e, ps, by rw [upd_ne (Ne.symm (tab_ne h.tg e2))]; exact h1, h2⟩
theorem St1.new {PT p : Addr} {H0 H : Hp} {o : HO} (h : St1 PT H0 H) (e : H p = none) : St1 PT H0 (upd H p o) := h.same (same_new e)
theorem St1.lst {PT p : Addr} {H0 H : Hp} {xs : List V} (h : St1 PT H0 H) (t : TabG H0 PT) (e : H0 p = some (.lst xs)) : H p = some (.lst xs) := frm_lst h.fr t e
theorem St1.tst {PT : Addr} {H0 H : Hp} (h : St1 PT H0 H) (t : TabG H0 PT) : Tst H0 H := frm_tst h.fr t
end My

set_option Elab.async false
set_option linter.all false
set_option maxRecDepth 100000
namespace My
open PySem PySem.Spec PyProof.Rows L2 GxR

/-! ### sorted(d), d a dict whose keys are pairs -/
theorem kt_ties {H : Hp} {kvs : List (List Key × V)} {xs : List (List Key × Addr × Value)} (r : KT H kvs xs) : ∀ {cs : List (Int × Int)}, kvs.map (·.1) = cs.map pk → Ties H (xs.map fun x => V.ref x.2.1) cs := by
  induction r with
  | nil =>
    intro cs e
    cases cs with
    | nil => exact trivial
    | cons c cs => cases e
  | cons h t ih =>
    rename_i p q l m
    intro cs e
    cases cs with
    | nil => cases e
    | cons c cs =>
      rw [List.map_cons, List.map_cons] at e
      obtain ⟨e1, e2⟩ := List.cons.inj e
      refine ⟨⟨q.2.1, rfl, ?_⟩, ih e2⟩
      rw [h.2.1, e1]; rfl
section
variable {X : Cx}
/-- what sorted does behind the collecting -/
theorem sort_rest {pins : List (Addr × Obj)} {σ : L2.St} {H : Hp} {s : Shared} {L : List Value} {cs : List (Int × Int)} {R : PySem.Fin → Shared → Prop} {E : Value → Shared → Prop} (I1 : Inv X pins σ H s) (hT : Ties H (L.map backV) cs) (rf : ∀ v ∈ L, ∃ b, v = Value.ref b) (hLz : L.length ≤ sizeLine)
    (hR : ∀ (p : Addr) (s' : Shared) (ys : List V) (ts : List (Int × Int)), Ties H ys ts → ts.Perm cs → ts.Pairwise (fun s t => ¬ ltT t s) → H p = none → Inv X pins σ (upd H p (.lst ys)) s' → R (.done (.ret (.ref p))) s') :
    wpAny (model X.prog X.w) X.A.in1 (newList L >>= fun l => holding [l] (call (.builtin "list.sort") [l]) >>= fun _ => ret l) R E s := by
  refine wpAny_bind (wpAny_newList ?_ hLz)
  have at0 : (s.heap.push (seqObj "list" L.toArray 0)).get? s.heap.objs.size = some (seqObj "list" L.toArray 0) := Heap.get?_push_size _ rfl
  have pr : ∀ v ∈ L, Srt.IsPair s.heap v (My.key H (backV v)).1 (My.key H (backV v)).2 := fun v hv => by
    have hb := hT.all (backV v) (List.mem_map.mpr ⟨v, hv, rfl⟩)
    obtain ⟨b, rfl⟩ := rf v hv
    obtain ⟨b', e, hb⟩ := hb
    cases e
    obtain ⟨_, its, r2, o2, ho2, hc2, n2, hd2⟩ := I1.hok _ _ hb
    obtain ⟨u1, u2, rfl, ⟨t1, rfl⟩, ⟨t2, rfl⟩⟩ := vals2 r2
    exact ⟨b, o2, t1, t2, n2, rfl, ho2, hc2, hd2⟩
  show wpAny _ _ _ _ _ { s with heap := s.heap.push (seqObj "list" L.toArray 0) }
  refine wpAny_bind (wpAny_holding (wpAny_call_entry PyProof.Rows.slot_list_sort ⟨_, at0, rfl⟩ PyProof.Rows.entry_list_sort (SrtO.list_sort_ord (s := { s with heap := s.heap.push (seqObj "list" L.toArray 0) }) (SrtO.swo_lex fun v => My.key H (backV v)) at0 hLz (fun h2 => ?_) fun out hs hb => ⟨_, rfl, ?_⟩) (PyProof.Rows.args_list_sort _)))
  · refine SrtO.pairs_sortableO (s := { s with heap := s.heap.push (seqObj "list" L.toArray 0) }) (k := fun v => My.key H (backV v)) (by omega) (fun v hv => (pr v hv).keeps fun b o e _ => Heap.get?_push_of_some _ e) fun o e => ?_
    have e' := e.symm.trans at0
    cases e'
    intro c
    exact absurd (Value.type.inj c) (by decide)
  · obtain ⟨e', he'⟩ := PyProof.Rows.sortedHeap_at (vs := L) (out := out.toArray) at0
    have ro : ∀ v ∈ out, ∃ b, v = Value.ref b := fun v hv => rf v (hb.perm.mem_iff.mp hv)
    have hs' : SrtO.Srtd (ltP (My.key H)) (out.map backV) := SrtO.srtd_map hs
    obtain ⟨ts, h1, h2, h3⟩ := srt_ties hs' (hb.perm.map backV) hT
    refine wpAny_pure (hR s.heap.objs.size _ _ ts h1 h2 h3 (I1.hok.fresh (Nat.le_refl _)) (I1.laid (t' := s.toks) (fun b ob e => ?_) (Nat.le_refl _) ⟨?_, out, e', vals_back ro, he'⟩))
    · have hlt : b < s.heap.objs.size := Heap.lt_size e
      rw [PyProof.Rows.sortedHeap_old (Nat.ne_of_lt hlt) (by rw [Heap.size_push]; exact Nat.lt_succ_of_lt hlt)]
      exact Heap.get?_push_of_some _ e
    · rw [List.length_map, hb.perm.length_eq]; exact hLz
end
def rSortedDT : List V → Hp → VK → Prop := fun vs H Q => ∃ (a : Addr) (kvs : List (List Key × V)) (cs : List (Int × Int)), vs = [.ref a] ∧ H a = some (.dT kvs) ∧ kvs.map (·.1) = cs.map pk ∧
  ∀ ys p ts, Ties H ys ts → ts.Perm cs → ts.Pairwise (fun s t => ¬ ltT t s) → H p = none → Q (.ref p) (upd H p (.lst ys))
def rSortedTT (K : PySem.W.Frag) : List V → Hp → VK → Prop := fun vs H Q => ∃ (a : Addr) (us : List V) (cs : List (Int × Int)), vs = [.ref a] ∧ SqT K H a us ∧ Ties H us cs ∧
  ∀ ys p ts, Ties H ys ts → ts.Perm cs → ts.Pairwise (fun s t => ¬ ltT t s) → H p = none → Q (.ref p) (upd H p (.lst ys))
section
variable {X : Cx}
theorem call_sortedDT (hc : X.calm = true) : CallR X (.builtin "sorted") rSortedDT := by
  rintro pins s σ H vs us Q I r ⟨a, kvs, cs, rfl, ha, hk, q⟩
  obtain ⟨u, rfl, ru⟩ := vals1 r
  obtain rfl : u = Value.ref a := ru
  obtain ⟨z, lo, xs, rel, o, es, ep, ho, hex, hdat, hes, his, hnd⟩ := dt_of I.hok ha
  have hsz : es.size = xs.length := size_of_entries hes
  have hlen : kvs.length = xs.length := Paired.length rel
  obtain ⟨L, hL⟩ : ∃ L : List Value, L = xs.map fun x => Value.ref x.2.1 := ⟨_, rfl⟩
  have hLl : L.length = xs.length := by rw [hL, List.length_map]
  have hback : L.map backV = xs.map fun x => V.ref x.2.1 := by
    rw [hL, List.map_map]; rfl
  have hT : Ties H (L.map backV) cs := by rw [hback]; exact kt_ties rel hk
  refine Calls.call_function_entry PyProof.Rows.kind_sorted PyProof.Rows.plain_sorted PyProof.Rows.entry_sorted (PyProof.Rows.args_sorted1 _) (?_ : wpAny _ _ (Builtin.«sorted» ⟨[.ref a], []⟩) _ _ s)
  unfold Builtin.«sorted»
  refine wpAny_bind (m := checkCount "sorted" 1 1 _) (wpAny_pure (wpAny_bind (PySem.W.kdu_collect (A := X.A.in1) (PySem.KdlSrc.rawDict (es := es) (ep := ep) lo) (I.ok.hd hc) ⟨o, ho, hex, hdat⟩ (by rw [hsz, ← hlen]; exact z) fun h' tk acc kp hacc => ?_)))
  have hA : acc.toList = L := by
    refine List.ext_getElem? fun j => ?_
    rw [hL, List.getElem?_map]
    by_cases hj : j < xs.length
    · have hj2 : j < acc.size := by rw [hacc.1, hsz]; exact hj
      obtain ⟨hi, e⟩ := hacc.2 j acc[j] (Array.getElem?_eq_getElem hj2)
      have e1 := entry_at hes j
      rw [Array.getElem?_eq_getElem hi, List.getElem?_eq_getElem hj] at e1
      have e2 := Option.some.inj e1
      rw [Array.getElem?_toList, Array.getElem?_eq_getElem hj2, e, e2, List.getElem?_eq_getElem hj]; rfl
    · rw [List.getElem?_eq_none (l := acc.toList) (by rw [Array.length_toList, hacc.1, hsz]; omega), List.getElem?_eq_none (l := xs) (by omega)]; rfl
  rw [hA]
  refine sort_rest (I.kept kp) hT (fun v hv => ?_) (by rw [hLl, ← hlen]; exact z) fun p s' ys ts h1 h2 h3 np J => ⟨_, rfl, .ref p, _, J, rfl, q ys p ts h1 h2 h3 np⟩
  rw [hL] at hv
  obtain ⟨x, _, rfl⟩ := List.mem_map.mp hv
  exact ⟨_, rfl⟩
theorem collect_tup {prog : Program} {w : World} {A : Around} {E : Value → Shared → Prop} {s : Shared} {l : Addr} {vs : List Value} {Q : List Value → Shared → Prop} (hl : IsTup s.heap l vs.toArray) (hsz : vs.length ≤ sizeLine)
    (h : ∀ h', (∀ b o, s.heap.get? b = some o → h'.get? b = some o) → Q vs { s with heap := h' }) : wpAny (model prog w) A (collect (.ref l)) Q E s := by
  obtain ⟨o, ho, hc, n, hd⟩ := id hl
  have up : (s.heap.push (seqObj "list" #[] 0)).get? l = some o := Heap.get?_push_of_some _ ho
  have me : (s.heap.push (seqObj "list" #[] 0)).get? s.heap.objs.size = some (seqObj "list" #[] 0) := Heap.get?_push_size _ rfl
  unfold collect
  refine wpAny_bind (wpAny_runValue (codeAny_builtin entry_proto_collect' (?_ : wpAny _ _ (do again (.builtin "list.__iadd__" ⟨[← newList [], .ref l], []⟩)) _ _ s)))
  refine wpAny_bind (wpAny_newList (wpAny_pure ⟨Code.quiet_builtin _ (by decide +kernel), codeAny_builtin entry_list_iadd' (?_ : wpAny _ _ (Builtin.List.listExtendWith (.ref s.heap.objs.size) (.ref l) (.ref s.heap.objs.size)) _ _ { s with heap := s.heap.push (seqObj "list" #[] 0) })⟩))
  unfold Builtin.List.listExtendWith
  refine wpAny_bind (wpAny_typeOf (T := "tuple") ⟨o, up, hc⟩ ?_)
  have tt : (Value.type "tuple" == Value.type "tuple") = true := rfl
  rw [if_pos (by rw [tt]; simp)]
  refine wpAny_bind (listItems_at up hd (wpAny_bind (listItems_at me rfl ?_)))
  rw [if_neg (by simp)]
  refine wpAny_bind (listUpdate_at me rfl (wpAny_pure ?_) (Nat.zero_le _) (by show (#[] ++ vs.toArray).size ≤ sizeLine + 1; simp only [Array.size_append, List.size_toArray, List.length_nil]; omega))
  show wpAny (model prog w) A (load s.heap.objs.size >>= fun o => match o.data with | .seq xs _ => pure xs.toList | _ => unsupported "internal:collect") Q E { s with heap := (s.heap.push (seqObj "list" #[] 0)).update s.heap.objs.size (Obj.mapSeq (· ++ vs.toArray)) }
  refine wpAny_bind (wpAny_load (get?_update_seq me _) (?_ : wpAny _ _ (pure ((#[] : Array Value) ++ vs.toArray).toList) Q E _))
  rw [show ((#[] : Array Value) ++ vs.toArray).toList = vs by simp]
  refine wpAny_pure (h _ fun b ob e => ?_)
  rw [Heap.get?_update_ne _ _ _ _ (Nat.ne_of_lt (Heap.lt_size e))]
  exact Heap.get?_push_of_some _ e
theorem back_refs {H : Hp} : ∀ {us : List V} {its : List Value} {cs : List (Int × Int)}, Vals us its → Ties H us cs → its.map backV = us ∧ ∀ v ∈ its, ∃ b, v = Value.ref b
  | _, _, _, .nil, _ => ⟨rfl, fun v hv => absurd hv List.not_mem_nil⟩
  | _ :: _, _ :: _, [], .cons _ _, h => h.elim
  | _ :: _, _ :: _, _ :: _, .cons r t, h => by
    obtain ⟨i1, i2⟩ := back_refs t h.2
    obtain ⟨p, rfl, _⟩ := h.1
    cases r
    refine ⟨by rw [List.map_cons, i1]; rfl, fun v hv => ?_⟩
    rcases List.mem_cons.mp hv with rfl | hv
    · exact ⟨_, rfl⟩
    · exact i2 v hv
theorem call_sortedTT : CallR X (.builtin "sorted") (rSortedTT X.K) := by
  rintro pins s σ H vs us Q I r ⟨a, ws, cs, rfl, ha, hT, q⟩
  obtain ⟨u, rfl, ru⟩ := vals1 r
  obtain rfl : u = Value.ref a := ru
  obtain ⟨its, rv, ht, hz⟩ := I.tuple ha
  obtain ⟨b1, b2⟩ := back_refs rv hT
  refine Calls.call_function_entry PyProof.Rows.kind_sorted PyProof.Rows.plain_sorted PyProof.Rows.entry_sorted (PyProof.Rows.args_sorted1 _) (?_ : wpAny _ _ (Builtin.«sorted» ⟨[.ref a], []⟩) _ _ s)
  unfold Builtin.«sorted»
  have hz' : its.length ≤ sizeLine := by rw [← rv.length]; exact hz
  refine wpAny_bind (m := checkCount "sorted" 1 1 _) (wpAny_pure (wpAny_bind (collect_tup ht hz' fun h' kp => ?_)))
  exact sort_rest (I.kept (t' := s.toks) kp) (by rw [b1]; exact hT) b2 hz' fun p s' ys ts h1 h2 h3 np J => ⟨_, rfl, .ref p, _, J, rfl, q ys p ts h1 h2 h3 np⟩
end
end My

set_option Elab.async false
set_option linter.all false
set_option maxRecDepth 100000
namespace My
open PySem PySem.Spec PyProof.Rows L2 GxR
/-! ### lists of numbers as data -/
def dI (ns : List Int) : PyData := .list (ns.map PyData.int)
theorem dpI {K : PySem.W.Frag} {H : Hp} : ∀ ns : List Int, DpAll K H (ns.map V.int) (ns.map PyData.int)
  | [] => .nil
  | _ :: ns => .cons (.int _) (dpI ns)
theorem shaped_dI (ns : List Int) : SeqAt.shaped (dI ns) = true := by
  unfold SeqAt.shaped dI
  rw [Bool.and_eq_true, decide_eq_true_eq]
  constructor
  · show PyData.canLayAll0 _ = true
    induction ns with
    | nil => rfl
    | cons a l ih => rw [List.map_cons, PyData.canLayAll0, ih]; rfl
  · show PyData.depthAll _ + 1 ≤ 64
    have : PyData.depthAll (ns.map PyData.int) = 0 := by
      induction ns with
      | nil => rfl
      | cons a l ih => rw [List.map_cons, PyData.depthAll, ih]; rfl
    omega
theorem eqv_dI (ns : List Int) : PyData.eqv (dI ns) (dI ns) = true := by
  show PyData.eqvAll (ns.map PyData.int) (ns.map PyData.int) = true
  induction ns with
  | nil => rfl
  | cons a l ih =>
    rw [List.map_cons]
    show ((a == a) && PyData.eqvAll (l.map PyData.int) (l.map PyData.int)) = true
    rw [ih, beq_self_eq_true]; rfl
theorem cutFrom (xs : List V) (j : Nat) : cutV xs (some (j : Int)) none = xs.drop j := by
  unfold cutV
  rw [HT.sIx_nat, HT.sIx_none]
  by_cases h : j ≤ xs.length
  · rw [Nat.min_eq_left h, ← List.length_drop, List.take_length]
  · rw [Nat.min_eq_right (by omega), Nat.sub_self, List.take_zero, List.drop_eq_nil_of_le (by omega)]
/-! ### lists of lists of arrows as data -/
def dL (c : List Ar) : PyData := .list (c.map dT)
theorem can_lists (cls : List (List Ar)) : PyData.canLayAll0 (cls.map dL) = true := by
  induction cls with
  | nil => rfl
  | cons a l ih =>
    rw [List.map_cons, PyData.canLayAll0, ih]
    have : (dL a).canLay0 = true := can_ties a
    rw [this]; rfl
theorem dep_lists (cls : List (List Ar)) : PyData.depthAll (cls.map dL) ≤ 2 := by
  induction cls with
  | nil => exact Nat.zero_le _
  | cons a l ih =>
    rw [List.map_cons, PyData.depthAll]
    have : (dL a).depth ≤ 2 := by
      show PyData.depthAll (a.map dT) + 1 ≤ 2
      have := dep_ties a
      omega
    omega
theorem shaped_lists (cls : List (List Ar)) : SeqAt.shaped (.list (cls.map dL)) = true := by
  unfold SeqAt.shaped
  rw [Bool.and_eq_true, decide_eq_true_eq]
  refine ⟨can_lists cls, ?_⟩
  show PyData.depthAll _ + 1 ≤ 64
  have := dep_lists cls
  omega
theorem any_dL {cls : List (List Ar)} {c : List Ar} (h : c ∈ cls) : ((cls.map dL).any fun z => PyData.eqv z (dL c)) = true :=
  List.any_eq_true.mpr ⟨dL c, List.mem_map.mpr ⟨c, h, rfl⟩, eqv_ties c⟩
end My

set_option Elab.async false
set_option linter.all false
set_option maxRecDepth 100000
namespace My
open PySem PySem.Spec PyProof.Rows L2 GxR
/-! the least module of some places: closed under what parts it -/
def adjB (ts : List (Int × Int)) (a b : Int) : Bool := decide (tieO a b ∈ ts)
def partsB (ts : List (Int × Int)) (S : List Int) (p : Int) : Bool := (S.map (adjB ts p)).any id && !((S.map (adjB ts p)).all id)
theorem parts_iff {ts : List (Int × Int)} {S : List Int} {p : Int} : partsB ts S p = true ↔ (∃ a ∈ S, adjB ts p a = true) ∧ ∃ b ∈ S, adjB ts p b = false := by
  unfold partsB
  rw [Bool.and_eq_true, List.any_eq_true, Bool.not_eq_true', List.all_eq_false]
  constructor
  · rintro ⟨⟨x, hx, e⟩, y, hy, f⟩
    obtain ⟨a, ha, rfl⟩ := List.mem_map.mp hx
    obtain ⟨b, hb, rfl⟩ := List.mem_map.mp hy
    exact ⟨⟨a, ha, e⟩, b, hb, Bool.eq_false_iff.mpr f⟩
  · rintro ⟨⟨a, ha, e⟩, b, hb, f⟩
    exact ⟨⟨_, List.mem_map_of_mem ha, e⟩, _, List.mem_map_of_mem hb, Bool.eq_false_iff.mp f⟩
theorem parts_mono {ts : List (Int × Int)} {S M : List Int} {p : Int} (h : ∀ x ∈ S, x ∈ M) (e : partsB ts S p = true) : partsB ts M p = true := by
  obtain ⟨⟨a, ha, e1⟩, b, hb, e2⟩ := parts_iff.mp e
  exact parts_iff.mpr ⟨⟨a, h a ha, e1⟩, b, h b hb, e2⟩
/-- no place of the web parts M -/
def Clo (n : Nat) (ts : List (Int × Int)) (M : List Int) : Prop := ∀ p : Int, 0 ≤ p → p < n → p ∉ M → partsB ts M p = false
/-- reached from the places S0 by what parts -/
structure Lm (n : Nat) (ts : List (Int × Int)) (S0 ks : List Int) : Prop where
  sub : ∀ x ∈ S0, x ∈ ks
  rng : ∀ x ∈ ks, 0 ≤ x ∧ x < (n : Int)
  nd : ks.Nodup
  low : ∀ M, Clo n ts M → (∀ x ∈ S0, x ∈ M) → ∀ x ∈ ks, x ∈ M
/-- the least module of S0, rising -/
structure Least (n : Nat) (ts : List (Int × Int)) (S0 L : List Int) : Prop where
  lm : Lm n ts S0 L
  clo : Clo n ts L
  rise : L.Pairwise (· < ·)
def newP (n : Nat) (ts : List (Int × Int)) (ks : List Int) (i : Nat) : List Int := (up i).filter fun p => decide (p ∉ ks) && partsB ts ks p
theorem newP_step (n : Nat) (ts : List (Int × Int)) (ks : List Int) (i : Nat) : newP n ts ks (i + 1) = newP n ts ks i ++ (if (decide ((i : Int) ∉ ks) && partsB ts ks (i : Int)) = true then [(i : Int)] else []) := by
  unfold newP
  rw [up_succ, List.filter_append, List.filter_cons]
  rfl
theorem lm_more {n : Nat} {ts : List (Int × Int)} {S0 ks : List Int} (h : Lm n ts S0 ks) : Lm n ts S0 (ks ++ newP n ts ks n) := by
  have mm : ∀ x, x ∈ newP n ts ks n → (0 ≤ x ∧ x < (n : Int)) ∧ x ∉ ks ∧ partsB ts ks x = true := fun x hx => by
    obtain ⟨a, b⟩ := List.mem_filter.mp hx
    rw [Bool.and_eq_true] at b
    exact ⟨mem_up.mp a, of_decide_eq_true b.1, b.2⟩
  refine ⟨fun x hx => List.mem_append_left _ (h.sub x hx), fun x hx => ?_, ?_, fun M hM hS x hx => ?_⟩
  · rcases List.mem_append.mp hx with z | z
    · exact h.rng x z
    · exact (mm x z).1
  · rw [List.nodup_append]
    exact ⟨h.nd, (up_nodup n).filter _, fun a ha b hb e => (mm b hb).2.1 (e ▸ ha)⟩
  · rcases List.mem_append.mp hx with z | z
    · exact h.low M hM hS x z
    · obtain ⟨⟨a, b⟩, c, d⟩ := mm x z
      by_cases hx : x ∈ M
      · exact hx
      · have := hM x a b hx
        rw [parts_mono (h.low M hM hS) d] at this
        cases this
theorem lm_clo {n : Nat} {ts : List (Int × Int)} {ks : List Int} (e : newP n ts ks n = []) : Clo n ts ks := fun p a b c => by
  cases hh : partsB ts ks p with
  | false => rfl
  | true =>
    have : p ∈ newP n ts ks n := List.mem_filter.mpr ⟨mem_up.mpr ⟨a, b⟩, by rw [hh, decide_eq_true c]; rfl⟩
    rw [e] at this; cases this
theorem parts_congr {ts : List (Int × Int)} {S M : List Int} {p : Int} (h : ∀ x, x ∈ S ↔ x ∈ M) : partsB ts S p = partsB ts M p := by
  cases e : partsB ts M p with
  | true => exact parts_mono (fun x hx => (h x).mpr hx) e
  | false =>
    cases e' : partsB ts S p with
    | false => rfl
    | true => rw [parts_mono (fun x hx => (h x).mp hx) e'] at e; cases e
theorem least_of {n : Nat} {ts : List (Int × Int)} {S0 ks ys : List Int} (h : Lm n ts S0 ks) (c : Clo n ts ks) (p : ys.Perm ks) (r : ys.Pairwise (· ≤ ·)) : Least n ts S0 ys := by
  have hm : ∀ x, x ∈ ys ↔ x ∈ ks := fun x => p.mem_iff
  have nd : ys.Nodup := p.nodup_iff.mpr h.nd
  refine ⟨⟨fun x hx => (hm x).mpr (h.sub x hx), fun x hx => h.rng x ((hm x).mp hx), nd, fun M hM hS x hx => h.low M hM hS x ((hm x).mp hx)⟩, fun q a b hq => ?_, ?_⟩
  · rw [parts_congr hm]
    exact c q a b fun z => hq ((hm q).mpr z)
  · exact (List.pairwise_and_iff.mpr ⟨r, nd⟩).imp fun {a b} h => by have h1 := h.1; have h2 := h.2; omega
theorem rise_ext : ∀ {A B : List Int}, A.Pairwise (· < ·) → B.Pairwise (· < ·) → (∀ x, x ∈ A ↔ x ∈ B) → A = B := fun {A B} ha hb h => by
  refine List.Perm.eq_of_pairwise (le := (· < ·)) (fun a b _ _ x y => by omega) ha hb ?_
  exact (List.perm_ext_iff_of_nodup (ha.imp fun h => Int.ne_of_lt h) (hb.imp fun h => Int.ne_of_lt h)).mpr h
theorem Least.uniq {n : Nat} {ts : List (Int × Int)} {S0 A B : List Int} (a : Least n ts S0 A) (b : Least n ts S0 B) : A = B :=
  rise_ext a.rise b.rise fun x => ⟨a.lm.low B b.clo b.lm.sub x, b.lm.low A a.clo a.lm.sub x⟩
/-- of a closed rising list itself -/
theorem Least.self {n : Nat} {ts : List (Int × Int)} {S0 L : List Int} (h : Least n ts S0 L) : Least n ts L L :=
  ⟨⟨fun _ z => z, h.lm.rng, h.lm.nd, fun M _ hS => hS⟩, h.clo, h.rise⟩
end My

set_option Elab.async false
set_option linter.all false
set_option maxRecDepth 100000
namespace My
open PySem PySem.Spec PyProof.Rows L2 GxR
/-! modules that overlap: both together, what is common, what one has beside the other -/
theorem adj_comm (ts : List (Int × Int)) (a b : Int) : adjB ts a b = adjB ts b a := by
  unfold adjB tieO
  by_cases h : a < b
  · rw [if_pos h, if_neg (by omega)]
  · by_cases k : b < a
    · rw [if_neg h, if_pos k]
    · have : a = b := by omega
      subst this; rfl
theorem clo_iff {n : Nat} {ts : List (Int × Int)} {M : List Int} : Clo n ts M ↔ ∀ p : Int, 0 ≤ p → p < n → p ∉ M → ∀ a ∈ M, ∀ b ∈ M, adjB ts p a = adjB ts p b := by
  constructor
  · intro h p h0 h1 hp a ha b hb
    have e := h p h0 h1 hp
    cases ea : adjB ts p a with
    | true =>
      cases eb : adjB ts p b with
      | true => rfl
      | false => rw [parts_iff.mpr ⟨⟨a, ha, ea⟩, b, hb, eb⟩] at e; cases e
    | false =>
      cases eb : adjB ts p b with
      | false => rfl
      | true => rw [parts_iff.mpr ⟨⟨b, hb, eb⟩, a, ha, ea⟩] at e; cases e
  · intro h p h0 h1 hp
    cases e : partsB ts M p with
    | false => rfl
    | true =>
      obtain ⟨⟨a, ha, ea⟩, b, hb, eb⟩ := parts_iff.mp e
      have := h p h0 h1 hp a ha b hb
      rw [ea, eb] at this; cases this
theorem clo_both {n : Nat} {ts : List (Int × Int)} {A B C : List Int} (ha : Clo n ts A) (hb : Clo n ts B) {c : Int} (c1 : c ∈ A) (c2 : c ∈ B) (hC : ∀ x, x ∈ C ↔ x ∈ A ∨ x ∈ B) : Clo n ts C := by
  rw [clo_iff] at ha hb ⊢
  intro p h0 h1 hp
  have pa : p ∉ A := fun z => hp ((hC p).mpr (.inl z))
  have pb : p ∉ B := fun z => hp ((hC p).mpr (.inr z))
  have k : ∀ x ∈ C, adjB ts p x = adjB ts p c := fun x hx => by
    rcases (hC x).mp hx with z | z
    · exact ha p h0 h1 pa x z c c1
    · exact hb p h0 h1 pb x z c c2
  exact fun a a1 b b1 => (k a a1).trans (k b b1).symm
theorem clo_common {n : Nat} {ts : List (Int × Int)} {A B C : List Int} (ha : Clo n ts A) (hb : Clo n ts B) (hC : ∀ x, x ∈ C ↔ x ∈ A ∧ x ∈ B) : Clo n ts C := by
  rw [clo_iff] at ha hb ⊢
  intro p h0 h1 hp a a1 b b1
  have a2 := (hC a).mp a1
  have b2 := (hC b).mp b1
  by_cases pa : p ∈ A
  · exact hb p h0 h1 (fun z => hp ((hC p).mpr ⟨pa, z⟩)) a a2.2 b b2.2
  · exact ha p h0 h1 pa a a2.1 b b2.1
theorem clo_beside {n : Nat} {ts : List (Int × Int)} {A B C : List Int} (ha : Clo n ts A) (hb : Clo n ts B) (rA : ∀ x ∈ A, 0 ≤ x ∧ x < (n : Int)) (rB : ∀ x ∈ B, 0 ≤ x ∧ x < (n : Int)) {y : Int} (y1 : y ∈ B) (y2 : y ∉ A) (hC : ∀ x, x ∈ C ↔ x ∈ A ∧ x ∉ B) : Clo n ts C := by
  rw [clo_iff] at ha hb ⊢
  intro p h0 h1 hp a a1 b b1
  have a2 := (hC a).mp a1
  have b2 := (hC b).mp b1
  by_cases pa : p ∈ A
  · have pb : p ∈ B := by
      by_cases z : p ∈ B
      · exact z
      · exact absurd ((hC p).mpr ⟨pa, z⟩) hp
    have k : ∀ x, x ∈ A → x ∉ B → adjB ts p x = adjB ts y x := fun x hx nx => by
      rw [adj_comm ts p x, adj_comm ts y x]
      exact hb x (rA x hx).1 (rA x hx).2 nx p pb y y1
    rw [k a a2.1 a2.2, k b b2.1 b2.2]
    exact ha y (rB y y1).1 (rB y y1).2 y2 a a2.1 b b2.1
  · exact ha p h0 h1 pa a a2.1 b b2.1
/-- a closed rising list of places is its own least module -/
theorem least_self {n : Nat} {ts : List (Int × Int)} {L : List Int} (c : Clo n ts L) (r : L.Pairwise (· < ·)) (h : ∀ x ∈ L, 0 ≤ x ∧ x < (n : Int)) : Least n ts L L :=
  ⟨⟨fun _ z => z, h, r.imp fun h => Int.ne_of_lt h, fun M _ hS => hS⟩, c, r⟩
/-- of more places a module that has at least as much -/
theorem least_more {n : Nat} {ts : List (Int × Int)} {S T A B : List Int} (a : Least n ts S A) (b : Least n ts T B) (h : ∀ x ∈ S, x ∈ T) : ∀ x ∈ A, x ∈ B :=
  a.lm.low B b.clo fun x hx => b.lm.sub x (h x hx)
end My

set_option Elab.async false
set_option linter.all false
set_option maxRecDepth 100000
set_option maxHeartbeats 4000000
namespace My
open PySem PySem.Spec PyProof.Rows L2 GxR
/-! ### set(xs) of a list of numbers -/
abbrev oSet (w : World) : Obj := { cls := .type "set", dict := none, data := .set #[] 0 (.fresh 0 0 (!w.params.followText "set-order")) }
section
variable {P : Program} {w : World} {A : Around} {E : Value → Shared → Prop} {s : Shared}
/-- the loop that fills a new set from a list of numbers -/
theorem fill_ints {l : Addr} {items : Array Value} {ns : List Int} {B : Around} {R : Result → Shared → Prop} (hh : B.in1.handled = none) (hl : s.heap.IsList l items) (hit : IntsAre items.toList ns) (hb : ns.length + 1 < scanBound)
    (h : ∀ h' tk c, SetR w h' s.heap.objs.size (fun j => decide (j ∈ ns)) c → c ≤ ns.length → (∀ b o, s.heap.get? b = some o → h'.get? b = some o) → R (.ok (.ret .none)) { s with heap := h', toks := tk }) :
    codeAny (model P w) B (.builtin "set.update.loop" ⟨[.ref s.heap.objs.size, .ref (s.heap.push (oSet w)).objs.size], []⟩) R
      { s with heap := (s.heap.push (oSet w)).push { cls := .type "list_iterator", data := .fields #[.ref l, .int 0 0] } } := by
  have hn : items.size = ns.length := by rw [← Array.length_toList]; exact IntsAre.length hit
  have hlt : l < s.heap.objs.size := by obtain ⟨o, ho, _⟩ := hl; exact Heap.lt_size ho
  have sz : (s.heap.push (oSet w)).objs.size = s.heap.objs.size + 1 := Heap.size_push ..
  have hl1 : (s.heap.push (oSet w)).IsList l items := hl.push _
  have hv : ∀ (i : Nat) (v : Value), items[i]? = some v → ∃ k t, ns[i]? = some k ∧ v = .int k t := fun i v e => by
    have hi : i < ns.length := by rw [← hn]; exact (Array.getElem?_eq_some_iff.mp e).1
    obtain ⟨t, z⟩ := IntsAre.int_at hit i v (by rw [Array.getElem?_toList]; exact e)
    rw [List.getD_eq_getElem?_getD, List.getElem?_eq_getElem hi] at z
    exact ⟨ns[i], t, List.getElem?_eq_getElem hi, z⟩
  refine set_update_ints ((Walks.list hh (s.heap.push (oSet w)).objs.size l (by rw [sz]; exact Nat.ne_of_lt (Nat.lt_succ_of_lt hlt)) items).toS) s.heap.objs.size (by rw [sz]; simp only [List.mem_cons, List.not_mem_nil, or_false, not_or]; exact ⟨Nat.ne_of_lt (Nat.lt_succ_self _), Nat.ne_of_gt hlt⟩) ns hn hb hv items.size 0 _ (by omega) (Nat.zero_le _)
    ⟨⟨_, Heap.get?_push_size _ rfl, rfl, rfl⟩, hl1.push _⟩ ⟨0, Nat.le_refl 0, setR_new_at (Heap.get?_push_of_some _ (Heap.get?_push_size _ rfl))⟩ fun s' c hm hc hS => ?_
  obtain ⟨h', g, d, tk, os⟩ := s'
  obtain rfl : g = s.gens := hm.gens
  obtain rfl : d = s.drawn := hm.drawn
  obtain rfl : os = s.os := hm.os
  refine h h' tk c hS (by omega) fun b o e => ?_
  have hb0 := Heap.lt_size e
  exact hm.heap b o (by rw [sz]; simp only [List.mem_cons, List.not_mem_nil, or_false, not_or]; exact ⟨Nat.ne_of_lt hb0, Nat.ne_of_lt (Nat.lt_succ_of_lt hb0)⟩) (Heap.get?_push_of_some _ (Heap.get?_push_of_some _ e))
set_option maxRecDepth 100000 in
theorem call_setL {l : Addr} {items : Array Value} (ns : List Int) {Q : Value → Shared → Prop} (hh : A.handled = none) (hl : s.heap.IsList l items) (hit : IntsAre items.toList ns) (hb : ns.length + 1 < scanBound)
    (h : ∀ h' tk c, SetR w h' s.heap.objs.size (fun j => decide (j ∈ ns)) c → c ≤ ns.length → (∀ b o, s.heap.get? b = some o → h'.get? b = some o) → Q (.ref s.heap.objs.size) { s with heap := h', toks := tk }) :
    wpAny (model P w) A (call (.type "set") [.ref l]) Q E s := by
  obtain ⟨c, tl, hmro⟩ := F.called_set.mro
  have hmade := F.called_set.made
  have hsub := F.called_set.sub
  refine wpAny_call (codeAny_of_tree ?_)
  show wpAny _ _ (callAny (.type "set") _) _ _ _
  refine wpAny_pure ⟨Code.quiet_builtin _ (by decide +kernel), codeAny_builtin F.entry_type_call ?_⟩
  rw [Around.under_plain (weight_type_call_type "set" [.ref l] []) rfl]
  have h1 := F.called_set.notType
  have h2 := F.called_set.canCreate
  have hct := F.typeCall_set_1 (.ref l)
  repeat (any_goals (first | assumption | wp_step))
  refine codeAny_mono (code_set_led1 (.ref l) (E := E) (Q₁ := fun x s1 => x = .ref s.heap.objs.size ∧ s1 = { s with heap := s.heap.push (oSet w) }) ⟨rfl, rfl⟩) fun r s1 hr => ?_
  cases r with
  | error e => exact hr
  | ok fl =>
    cases fl with
    | ret obj =>
      obtain ⟨rfl, rfl⟩ := hr
      have hS : (s.heap.push (oSet w)).get? s.heap.objs.size = some (oSet w) := Heap.get?_push_size _ rfl
      have hT : Shared.TypeIs { s with heap := s.heap.push (oSet w) } (.ref s.heap.objs.size) "set" := ⟨_, hS, rfl⟩
      have hli := F.called_set.init.lookup
      have hbi := F.called_set.init.bind (.ref s.heap.objs.size)
      repeat (any_goals (first | assumption | wp_step))
      refine codeAny_mono (codeAny_call_builtin (R := wants (fun r s2 => r = .none ∧ Q (.ref s.heap.objs.size) s2) E) F.called_set.init.plain F.entry_set_init (check_set_init_1 hT ?_)) fun r2 s2 hr2 => ?_
      · have hl1 := hl.push (oSet w)
        obtain ⟨ol, hol, hcl, nl, hdl⟩ := id hl1
        obtain ⟨ocls, odict, odata, oslots⟩ := ol
        simp only at hcl hdl
        subst hcl; subst hdl
        have hsls := F.sub_list_set
        have hslf := F.sub_list_frozenset
        have hne : (Value.type "list" == Value.type "dict") = false := by decide
        unfold Builtin.«set.__init__» noKeywords Builtin.Frozenset.updateFrom
        generalize hPI : pyIter = PI
        wp_walk
        subst hPI
        refine wpAny_pyIter_list hl1 (wpAny_bind (wpAny_runValue ?_))
        refine fill_ints (by simp [hh]) hl hit hb fun h' tk c a1 a2 a3 => ?_
        exact wpAny_pure (wpAny_pure ⟨rfl, h h' tk c a1 a2 a3⟩)
      · cases r2 with
        | error e => exact hr2
        | ok fl2 =>
          cases fl2 with
          | ret r =>
            obtain ⟨rfl, q⟩ := hr2
            repeat (any_goals (first | assumption | wp_step))
          | _ => exact hr2.elim
    | _ => exact hr.elim
end
section
variable {X : Cx}
def rSetI (K : PySem.W.Frag) (w : World) : List V → Hp → VK → Prop := fun xs H Q => ∃ (l : Addr) (ns : List Int), xs = [V.ref l] ∧ SqL K H l (ns.map V.int) ∧ ns.length + 1 < scanBound ∧
  ∀ a c, H a = none → c ≤ ns.length → Q (.ref a) (upd H a (SetO w a (fun j => decide (j ∈ ns)) c))
theorem cr_setI (hc : X.calm = true) : CallR X (.type "set") (rSetI X.K X.w) := by
  intro pins s σ H xs us Q I r h
  obtain ⟨l, ns, rfl, hl, hb, q⟩ := h
  rw [Vals.ref1 r]
  obtain ⟨its, rv, pl, hz⟩ := I.list hl
  have hn : H s.heap.objs.size = none := I.hok.fresh (Nat.le_refl _)
  refine call_setL (P := X.prog) (w := X.w) ns (I.ok.hd hc) pl.isList (by simpa using rv.ints) hb fun h' tk c R hc' k => ?_
  exact ⟨.ref s.heap.objs.size, _, I.laid (t' := tk) k (Nat.le_refl _) (setO_new R), rfl, q _ c hn hc'⟩
end
end My

set_option Elab.async false
set_option linter.all false
set_option maxRecDepth 100000
namespace My
open PySem PySem.Spec PyProof.Rows L2 GxR
/-- the keys of a dict are these places -/
def KeysI (kvs : List (Key × V)) (ks : List Int) : Prop := kvs.map (·.1) = ks.map Sum.inl
theorem KeysI.len {kvs : List (Key × V)} {ks : List Int} (h : KeysI kvs ks) : kvs.length = ks.length := by
  have := congrArg List.length h
  rwa [List.length_map, List.length_map] at this
theorem KeysI.mem {kvs : List (Key × V)} {ks : List Int} (h : KeysI kvs ks) (i : Int) : (∃ kv ∈ kvs, kv.1 = Sum.inl i) ↔ i ∈ ks := by
  constructor
  · rintro ⟨kv, hm, e⟩
    have : (Sum.inl i : Key) ∈ ks.map Sum.inl := by rw [← h, ← e]; exact List.mem_map_of_mem hm
    obtain ⟨j, hj, ej⟩ := List.mem_map.mp this
    cases ej; exact hj
  · intro hi
    have : (Sum.inl i : Key) ∈ kvs.map (·.1) := by rw [h]; exact List.mem_map_of_mem hi
    obtain ⟨kv, hm, e⟩ := List.mem_map.mp this
    exact ⟨kv, hm, e⟩
theorem KeysI.get {kvs : List (Key × V)} {ks : List Int} (h : KeysI kvs ks) (i : Int) : (valV kvs (Sum.inl i)).isSome = decide (i ∈ ks) := by
  unfold valV
  rw [Option.isSome_map]
  refine Bool.eq_iff_iff.mpr ?_
  rw [List.find?_isSome, decide_eq_true_iff, ← h.mem i]
  exact ⟨fun ⟨kv, a, b⟩ => ⟨kv, a, of_decide_eq_true b⟩, fun ⟨kv, a, b⟩ => ⟨kv, a, decide_eq_true b⟩⟩
theorem KeysI.put {kvs : List (Key × V)} {ks : List Int} (h : KeysI kvs ks) (i : Int) (v : V) : KeysI (putK kvs (Sum.inl i) v) (if i ∈ ks then ks else ks ++ [i]) := by
  unfold putK KeysI
  by_cases hi : i ∈ ks
  · obtain ⟨kv, hm, e⟩ := (h.mem i).mpr hi
    rw [if_pos hi, if_pos (List.any_eq_true.mpr ⟨kv, hm, decide_eq_true e⟩), List.map_map, ← h]
    refine List.map_congr_left fun x _ => ?_
    show (if x.1 = Sum.inl i then (x.1, v) else x).1 = x.1
    by_cases ex : x.1 = Sum.inl i
    · rw [if_pos ex]
    · rw [if_neg ex]
  · have : ¬ (kvs.any fun kv => decide (kv.1 = Sum.inl i)) = true := fun z => by
      obtain ⟨kv, hm, e⟩ := List.any_eq_true.mp z
      exact hi ((h.mem i).mp ⟨kv, hm, of_decide_eq_true e⟩)
    rw [if_neg hi, if_neg this, List.map_append, h, List.map_append]; rfl
theorem KeysI.at {kvs : List (Key × V)} {ks : List Int} (h : KeysI kvs ks) {i : Nat} {k : Key} {v : V} (e : kvs[i]? = some (k, v)) : ∃ j : Int, ks[i]? = some j ∧ k = Sum.inl j := by
  have : (kvs.map (·.1))[i]? = some k := by rw [List.getElem?_map, e]; rfl
  rw [h, List.getElem?_map] at this
  obtain ⟨j, ej, e2⟩ := Option.map_eq_some_iff.mp this
  exact ⟨j, ej, e2.symm⟩
theorem tst_frzK {H : Hp} {d : Addr} {kvs : List (Key × V)} {o : HO} (e : H d = some (.dK kvs)) : Tst H (upd H d o) := fun b xs z => by
  rw [upd_ne (fun w => by rw [w, e] at z; cases z)]; exact z
theorem same_unlockK {H H' : Hp} {d : Addr} {u : HO} {od : Obj} (e : H d = some u) (s : Same (upd H d (.frz od u)) H') : Same H (upd H' d u) := fun b o h => by
  by_cases hb : b = d
  · subst hb; rw [upd_same]; rw [e] at h; exact h
  · rw [upd_ne hb]; exact s b o (by rw [upd_ne hb]; exact h)
section
variable {P : Program} {w : World} {K : PySem.W.Frag} {mg : Str → Option Value} {base : Heap}
/-! ### is_parting -/
abbrev s_is_parting : Stmt := topS 13
abbrev N_is_parting : List Str := ["web", "place", "places", "ties", "other"]
theorem sc_is_parting : FnScope N_is_parting ["web", "place", "places"] (defScope s_is_parting) := ⟨rfl, rfl, rfl, by decide +kernel, rfl, by decide +kernel, by decide +kernel⟩
def sp_parting : Sp := fun vs H Q _ => ∃ (v : V) (n : Nat) (ts : List (Int × Int)) (p : Int) (d : Addr) (kvs : List (Key × V)) (ks : List Int), vs = [v, .int p, .ref d] ∧ Web H v n ts ∧ H d = some (.dK kvs) ∧ KeysI kvs ks ∧ ks.length ≤ 100 ∧ ∀ H', Same H H' → Q (.bl (partsB ts ks p)) H'
theorem ok_parting {f : Addr} {fd : FuncData} (B : Bts mg) (F : Fun K "is_parting" "is_parting" s_is_parting f fd) (c_tied : Cl P w K mg base 2 "tied" sp_tied) : FnOk P w K mg base CX0 3 f fd ["web", "place", "places"] sp_parting := by
  refine F.ok sc_is_parting (fun vs H Q E h => ?_) (fun cdv A outer s H vs Q E hr h => ?_)
  · obtain ⟨v, n, ts, p, d, kvs, ks, rfl, _⟩ := h; rfl
  · obtain ⟨v, n, ts, p, d, kvs, ks, rfl, hW, ed, hk, hl, q⟩ := h
    refine ⟨_, (pss_cons (ps_lock (ps_setLc (i := 3) (own := [("other", 4)]) (g := (gName 4)) (tt := tYes) rfl sc_is_parting.nd rfl rfl (sw_true rfl rfl rfl (by decide +kernel)) (pi_keys (pv 2)) (blkOk_by (own := [("other", 4)]) (N := N_is_parting) (sc := defScope s_is_parting) (by decide +kernel)) (fun _ _ _ _ _ => (pg_name (i := 4) sc_is_parting.nd rfl (by first | exact Or.inl rfl | exact Or.inr rfl))) (fun _ _ _ _ _ => pts_nil) (fun _ _ _ _ _ => (pe_c c_tied hr (by decide) (by rfl) (pa_cons (pv 0) (pa_cons (pv 1) (pa_cons (pv 4) pa_nil)))))))
    (pss_one (ps_ret (pe_and (pe_callB (cr_any rfl) (by rfl) B.any (by decide +kernel) (pa_cons (pv 3) pa_nil)) (pe_one (pe_not (pe_callB (cr_all rfl) (by rfl) B.all (by decide +kernel) (pa_cons (pv 3) pa_nil)))))))), ?_⟩
    have kl := hk.len
    refine ⟨d, .dK kvs, ed, trivial, fun od => ?_⟩
    have hWl := hW.mono (tst_frzK (o := .frz od (.dK kvs)) ed)
    refine ⟨_, rfl, d, od, rfl, .inl ⟨kvs, upd_same, fun D nD => ?_⟩⟩
    refine wk (walk_keys (d := d) (o := od) (kvs := kvs)) (fun i H1 => Same (upd H d (.frz od (.dK kvs))) H1 ∧ H1 D = some (.lst (((ks.take i).map (adjB ts p)).map V.bl))) ⟨same_new nD, upd_same⟩ ?_ ?_ ?_
    · rintro i H1 _ ⟨sm, _⟩
      exact sm _ _ upd_same
    · rintro i x H1 H2 hi ⟨sm, eD⟩ ⟨rfl, k, u, hx, rfl⟩
      obtain ⟨j, ej, rfl⟩ := hk.at hx
      refine ⟨rfl, yes ?_⟩
      refine ⟨_, rfl, _, rfl, _, rfl, v, n, ts, p, j, rfl, hWl.mono (Same.tst sm), fun H3 s3 => ?_⟩
      refine ⟨_, s3 _ _ eD, sz' ?_, Same.put (sm.trans s3) nD, ?_⟩
      · rw [List.length_map, List.length_map, List.length_take]; omega
      · rw [upd_same, List.take_add_one, ej, List.map_append, List.map_append]; rfl
    · rintro H1 ⟨sm, eD⟩
      rw [kl, List.take_length] at eD
      refine ⟨sm _ _ upd_same, ?_⟩
      have nDd : D ≠ d := fun z => by rw [z, upd_same] at nD; cases nD
      have sU := same_unlockK ed sm
      have eD2 : (upd H1 d (.dK kvs)) D = some (.lst ((ks.map (adjB ts p)).map V.bl)) := by rw [upd_ne nDd]; exact eD
      refine ⟨_, rfl, D, _, rfl, SqL.of eD2, _, rfl, ?_⟩
      have qq := q _ sU
      unfold partsB at qq
      refine ite2 (fun e => ?_) (fun e => ?_)
      · rw [e, Bool.true_and] at qq
        exact ⟨_, rfl, D, _, rfl, SqL.of eD2, _, rfl, qq⟩
      · rw [Bool.eq_false_iff.mpr e, Bool.false_and] at qq
        exact qq
/-! ### least_among -/
abbrev s_least_among : Stmt := topS 12
abbrev N_least_among : List Str := ["web", "everything", "places", "inside", "place", "grown", "parted"]
theorem sc_least_among : FnScope N_least_among ["web", "everything", "places"] (defScope s_least_among) := ⟨rfl, rfl, rfl, by decide +kernel, rfl, by decide +kernel, by decide +kernel⟩
def sp_among : Sp := fun vs H Q _ => ∃ (v : V) (n : Nat) (ts : List (Int × Int)) (e d : Addr) (S0 : List Int), vs = [v, .ref e, .ref d] ∧ Web H v n ts ∧ n ≤ 100 ∧ H e = some (.lst ((up n).map V.int)) ∧ H d = some (.lst (S0.map V.int)) ∧ (n < 64) ∧ (∀ x ∈ S0, 0 ≤ x ∧ x < (n : Int)) ∧ S0.length ≤ 1000 ∧
  ∀ L r H', H r = none → Same H H' → Least n ts S0 L → H' r = some (.lst (L.map V.int)) → Q (.ref r) H'
theorem ok_among {f : Addr} {fd : FuncData} (B : Bts mg) (F : Fun K "least_among" "least_among" s_least_among f fd) (c_is_parting : Cl P w K mg base 3 "is_parting" sp_parting) : FnOk P w K mg base CX0 4 f fd ["web", "everything", "places"] sp_among := by
  refine F.ok sc_least_among (fun vs H Q E h => ?_) (fun cdv A outer s H vs Q E hr h => ?_)
  · obtain ⟨v, n, ts, e, d, S0, rfl, _⟩ := h; rfl
  · obtain ⟨v, n, ts, e, d, S0, rfl, hW, hn, ee, ed, h64, hS, sl, q⟩ := h
    refine ⟨_, (pss_cons (ps_set (i := 3) sc_least_among.nd rfl (by first | exact Or.inl rfl | exact Or.inr rfl) (pe_dc (own := [("place", 4)]) (g := (gName 4)) (tt := tYes) rfl sc_least_among.nd (pi_list (pv 2)) (blkOk_by (own := [("place", 4)]) (N := N_least_among) (sc := defScope s_least_among) (by decide +kernel)) (fun _ _ _ _ _ => (pg_name (i := 4) sc_least_among.nd rfl (by first | exact Or.inl rfl | exact Or.inr rfl))) (fun _ _ _ _ _ => pts_nil) (fun _ _ _ _ _ => (pv 4)) (fun _ _ _ _ _ => pe_bl)))
    (pss_cons (ps_set (i := 5) sc_least_among.nd rfl (by first | exact Or.inl rfl | exact Or.inr rfl) pe_bl)
    (pss_cons (ps_while PassesOwn.never (pt_val (pv 5))
      (pss_cons (ps_setLc (i := 6) (own := [("place", 4)]) (g := (gName 4)) rfl sc_least_among.nd rfl rfl (sw_true rfl rfl rfl (by decide +kernel)) (pi_list (pv 1)) (blkOk_by (own := [("place", 4)]) (N := N_least_among) (sc := defScope s_least_among) (by decide +kernel)) (fun _ _ _ _ _ => (pg_name (i := 4) sc_least_among.nd rfl (by first | exact Or.inl rfl | exact Or.inr rfl))) (fun _ _ _ _ _ => (pts_one (PW.pt (pw_and (pt_cmp (pc_dnotin (hu_of hr) (pv 4) (pv 3))) (pw_and1 (pt_val (pe_c c_is_parting hr (by decide) (by rfl) (pa_cons (pv 0) (pa_cons (pv 4) (pa_cons (pv 3) pa_nil)))))))))) (fun _ _ _ _ _ => (pv 4)))
      (pss_cons (ps_for PassesOwn.never rfl (pi_list (pv 6)) (pg_name (i := 4) sc_least_among.nd rfl (by first | exact Or.inl rfl | exact Or.inr rfl))
        (pss_one (ps_dput (hu_of hr) (pv 3) (pv 4) pe_bl rfl)))
      (pss_one (ps_set (i := 5) sc_least_among.nd rfl (by first | exact Or.inl rfl | exact Or.inr rfl) (pe_callTy call_boolL (by rfl) B.bool (by decide +kernel) (pa_cons (pv 6) pa_nil)))))))
    (pss_one (ps_ret (pe_callB (call_sortedDI rfl) (by rfl) B.sorted (by decide +kernel) (pa_cons (pv 3) pa_nil))))))), ?_⟩
    refine ⟨_, rfl, d, rfl, ⟨_, SqL.of ed⟩, fun D nD => ?_⟩
    have Slen : (S0.map V.int).length = S0.length := List.length_map _
    refine wk (walk_list (K := K) (a := d) (xs := S0.map V.int)) (fun i H1 => ∃ kvs ks, Same H H1 ∧ H1 D = some (.dK kvs) ∧ KeysI kvs ks ∧ ks.Nodup ∧ (∀ x, x ∈ ks ↔ x ∈ S0.take i) ∧ ks.length ≤ i) ⟨[], [], same_new nD, upd_same, rfl, List.nodup_nil, fun x => Iff.rfl, Nat.le_refl _⟩ ?_ ?_ ?_
    · rintro i H1 _ ⟨_, _, sm, _⟩
      exact SqL.of (sm _ _ ed)
    · rintro i x H1 H2 hi ⟨kvs, ks, sm, eD, hk, nd, hm, kl⟩ ⟨rfl, hx⟩
      rw [List.getElem?_map] at hx
      obtain ⟨j, ej, rfl⟩ := Option.map_eq_some_iff.mp hx
      refine ⟨rfl, yes ?_⟩
      have kll := hk.len
      refine ⟨_, rfl, kvs, Sum.inl j, rfl, eD, sz' (by omega), ?_⟩
      refine ⟨_, _, Same.put sm nD, upd_same, hk.put j (.bl true), ?_, fun x => ?_, ?_⟩
      · by_cases h : j ∈ ks
        · rw [if_pos h]; exact nd
        · rw [if_neg h, List.nodup_append]
          exact ⟨nd, List.nodup_cons.mpr ⟨List.not_mem_nil, List.nodup_nil⟩, fun a ha b hb e => h (by rw [List.mem_singleton.mp hb] at e; exact e ▸ ha)⟩
      · rw [List.take_add_one, ej, List.mem_append, ← hm x]
        show _ ↔ _ ∨ x ∈ [j]
        rw [List.mem_singleton]
        by_cases h : j ∈ ks
        · rw [if_pos h]; exact ⟨.inl, fun z => z.elim id fun z => z ▸ h⟩
        · rw [if_neg h, List.mem_append, List.mem_singleton]
      · by_cases h : j ∈ ks
        · rw [if_pos h]; omega
        · rw [if_neg h, List.length_append]; exact Nat.succ_le_succ kl
    · rintro H1 ⟨kvs, ks, s1, eD, hk, nd, hm, kl⟩
      rw [Slen, List.take_length] at hm
      have L0 : Lm n ts S0 ks := ⟨fun x hx => (hm x).mpr hx, fun x hx => hS x ((hm x).mp hx), nd, fun M _ hS x hx => hS x ((hm x).mp hx)⟩
      let W : Nat → L2.St → Hp → Prop := fun m σ H1 => ∃ kvs ks g y4 y6, σ = [some v, some (.ref e), some (.ref d), some (.ref D), y4, some (.bl g), y6] ∧ Same H H1 ∧ H1 D = some (.dK kvs) ∧ KeysI kvs ks ∧ Lm n ts S0 ks ∧ (g = false → Clo n ts ks) ∧ m = 2 * (n - ks.length) + g.toNat
      refine ⟨W, ⟨_, kvs, ks, true, none, none, rfl, s1, eD, hk, L0, fun z => (nomatch z), rfl⟩, ?_⟩
      rintro m σ H2 ⟨kvs, ks, g, y4, y6, rfl, s2, eD2, hk2, L2', hg, rfl⟩
      have kn : ks.length ≤ n := by
        have := nd_len (m := up n) L2'.nd fun x hx => mem_up.mpr (L2'.rng x hx)
        rwa [up_len] at this
      refine ⟨_, rfl, g, rfl, ?_⟩
      cases g with
      | false =>
        refine iteF ⟨_, rfl, D, kvs, ks, rfl, .inl eD2, hk2, by omega, fun ys r pm pw nr => ?_⟩
        have sr := same_new (o := .lst (ys.map V.int)) nr
        exact q ys r _ (same_free s2 nr) (s2.trans sr) (least_of L2' (hg rfl) pm pw) upd_same
      | true =>
        refine iteT ⟨fun σ' H' => ∃ m', m' < 2 * (n - ks.length) + 1 ∧ W m' σ' H', fun σ' H' hh => hh, ?_⟩
        refine ⟨_, rfl, e, rfl, ⟨_, SqL.of (s2 _ _ ee)⟩, fun N nN => ?_⟩
        have ul : ((up n).map V.int).length = n := by rw [List.length_map, up_len]
        refine wk (walk_list (K := K) (a := e) (xs := (up n).map V.int)) (fun i H3 => Same H2 H3 ∧ H3 N = some (.lst ((newP n ts ks i).map V.int))) ⟨same_new nN, upd_same⟩ ?_ ?_ ?_
        · rintro i H3 _ ⟨s3, _⟩
          exact SqL.of (s3 _ _ (s2 _ _ ee))
        · rintro i x H3 H4 hi ⟨s3, eN⟩ ⟨rfl, hx⟩
          rw [ul] at hi
          rw [List.getElem?_map, up_get hi] at hx
          cases hx
          have st := newP_step n ts ks i
          have nl : (newP n ts ks i).length ≤ i := Nat.le_trans (List.length_filter_le _ _) (Nat.le_of_eq (up_len i))
          refine ⟨rfl, _, rfl, _, rfl, D, _, rfl, DGet.k (k := Sum.inl (i : Int)) (s3 _ _ eD2), _, rfl, ?_⟩
          rw [hk2.get]
          by_cases hi2 : (i : Int) ∈ ks
          · rw [decide_eq_true hi2]
            rw [decide_eq_false (fun z => z hi2), Bool.false_and, if_neg (fun z => nomatch z), List.append_nil] at st
            refine iteF (iteF ⟨s3, ?_⟩)
            rw [st]; exact eN
          · rw [decide_eq_false hi2]
            rw [decide_eq_true hi2, Bool.true_and] at st
            refine iteT ⟨_, rfl, _, rfl, _, rfl, v, n, ts, (i : Int), D, kvs, ks, rfl, hW.mono (Same.tst (s2.trans s3)), s3 _ _ eD2, hk2, by omega, fun H5 s5 => ⟨_, rfl, ?_⟩⟩
            cases hp : partsB ts ks (i : Int) with
            | false =>
              rw [hp, if_neg (fun z => nomatch z), List.append_nil] at st
              refine iteF ⟨s3.trans s5, ?_⟩
              rw [st]; exact s5 _ _ eN
            | true =>
              rw [hp, if_pos rfl] at st
              refine iteT ⟨_, rfl, _, s5 _ _ eN, sz' (by rw [List.length_map]; omega), Same.put (s3.trans s5) nN, ?_⟩
              rw [upd_same, st, List.map_append]; rfl
        · rintro H3 ⟨s3, eN⟩
          rw [ul] at eN
          have nND : N ≠ D := Ne.symm (ne_of_none eD2 nN)
          have nl : (newP n ts ks n).length ≤ n := Nat.le_trans (List.length_filter_le _ _) (Nat.le_of_eq (up_len n))
          refine ⟨_, rfl, N, rfl, ⟨_, SqL.of eN⟩, ?_⟩
          refine for_it (walk_list (K := K) (a := N) (xs := (newP n ts ks n).map V.int)) (fun i σ H4 => ∃ kvs y4, σ = [some v, some (.ref e), some (.ref d), some (.ref D), y4, some (.bl true), some (.ref N)] ∧ Same H H4 ∧ H4 N = some (.lst ((newP n ts ks n).map V.int)) ∧ H4 D = some (.dK kvs) ∧ KeysI kvs (ks ++ (newP n ts ks n).take i))
            ⟨kvs, y4, rfl, s2.trans s3, eN, s3 _ _ eD2, by rw [List.take_zero, List.append_nil]; exact hk2⟩ ?_ ?_ ?_
          · rintro i σ H4 _ ⟨_, _, _, _, e4, _⟩
            exact SqL.of e4
          · rintro i x σ H4 H5 hi ⟨kvs4, y4, rfl, s4, eN4, eD4, hk4⟩ ⟨rfl, hx⟩
            rw [List.length_map] at hi
            rw [List.getElem?_map] at hx
            obtain ⟨j, ej, rfl⟩ := Option.map_eq_some_iff.mp hx
            have k4l := hk4.len
            rw [List.length_append, List.length_take] at k4l
            refine ⟨_, rfl, _, rfl, D, _, rfl, DPut.k (k := Sum.inl j) eD4 (sz' (by omega)), ?_⟩
            have nj : j ∉ ks ++ (newP n ts ks n).take i := by
              have Lnd := (lm_more L2').nd
              rw [← List.take_append_drop i (newP n ts ks n), ← List.append_assoc, List.nodup_append] at Lnd
              refine fun z => Lnd.2.2 j z j ?_ rfl
              rw [List.drop_eq_getElem_cons hi]
              have := (List.getElem?_eq_some_iff.mp ej).2
              rw [this]; exact List.mem_cons_self
            have hp := hk4.put j (.bl true)
            rw [if_neg nj] at hp
            refine ⟨_, _, rfl, Same.put s4 nD, by rw [upd_ne nND]; exact eN4, upd_same, ?_⟩
            rw [List.take_add_one, ej, ← List.append_assoc]
            exact hp
          · rintro σ H4 ⟨kvs4, y4, rfl, s4, eN4, eD4, hk4⟩
            rw [List.length_map, List.take_length] at hk4
            refine ⟨_, rfl, N, _, rfl, SqL.of eN4, ?_⟩
            have Lm' := lm_more L2'
            refine ⟨_, ?_, kvs4, _, _, _, _, rfl, s4, eD4, hk4, Lm', fun z => ?_, rfl⟩
            · rw [List.length_append]
              cases hh : newP n ts ks n with
              | nil => show 2 * (n - (ks.length + 0)) + 0 < _; omega
              | cons a l =>
                have kn' : (ks ++ newP n ts ks n).length ≤ n := by
                  have := nd_len (m := up n) Lm'.nd fun x hx => mem_up.mpr (Lm'.rng x hx)
                  rwa [up_len] at this
                rw [hh, List.length_append] at kn'
                rw [List.length_cons] at kn' ⊢
                show 2 * (n - (ks.length + (l.length + 1))) + 1 < _
                omega
            · cases hh : newP n ts ks n with
              | nil => rw [List.append_nil]; exact lm_clo hh
              | cons a l => rw [hh] at z; cases z
/-! ### least_module -/
abbrev s_least_module : Stmt := topS 11
abbrev N_least_module : List Str := ["web", "places"]
theorem sc_least_module : FnScope N_least_module ["web", "places"] (defScope s_least_module) := ⟨rfl, rfl, rfl, by decide +kernel, rfl, by decide +kernel, by decide +kernel⟩
def sp_least : Sp := fun vs H Q _ => ∃ (v : V) (n : Nat) (ts : List (Int × Int)) (d : Addr) (S0 : List Int), vs = [v, .ref d] ∧ Web H v n ts ∧ H d = some (.lst (S0.map V.int)) ∧ (n < 64) ∧ (∀ x ∈ S0, 0 ≤ x ∧ x < (n : Int)) ∧ S0.length ≤ 1000 ∧
  ∀ L r H', H r = none → Same H H' → Least n ts S0 L → H' r = some (.lst (L.map V.int)) → Q (.ref r) H'
theorem rg_upM (n : Nat) : rgV 0 (n : Int) = (up n).map V.int := by
  unfold rgV up
  rw [List.map_map, show ((n : Int) - 0).toNat = n from by omega]
  exact List.map_congr_left fun i _ => congrArg V.int (Int.zero_add _)
theorem ok_least {f : Addr} {fd : FuncData} (B : Bts mg) (F : Fun K "least_module" "least_module" s_least_module f fd) (c_least_among : Cl P w K mg base 4 "least_among" sp_among) : FnOk P w K mg base CX0 5 f fd ["web", "places"] sp_least := by
  refine F.ok sc_least_module (fun vs H Q E h => ?_) (fun cdv A outer s H vs Q E hr h => ?_)
  · obtain ⟨v, n, ts, d, S0, rfl, _⟩ := h; rfl
  · obtain ⟨v, n, ts, d, S0, rfl, hW, ed, h64, hS, sl, q⟩ := h
    refine ⟨_, (pss_one (ps_ret (pe_c c_least_among hr (by decide) (by rfl) (pa_cons (pv 0) (pa_cons (pe_listRg rfl (by rfl) B.list (prg_1 (by rfl) B.range (pe_ix ix_tup (pv 0) pe_int (fun _ _ => rfl)))) (pa_cons (pv 1) pa_nil)))))), ?_⟩
    obtain ⟨p, q', us, rfl, ep, eq, hT⟩ := id hW
    refine ⟨_, rfl, _, rfl, p, _, _, _, rfl, rfl, SqT.of ep, rfl, ?_⟩
    refine ⟨_, rfl, ⟨by omega, by omega, by omega, by omega⟩, fun e ne => ?_⟩
    have se := same_new (o := .lst (rgV 0 (n : Int))) ne
    refine ⟨_, rfl, _, n, ts, e, d, S0, rfl, hW.mono (Same.tst se), by omega, by rw [upd_same, rg_upM], se _ _ ed, h64, hS, sl, fun L r H' nr s' hL er => ?_⟩
    exact q L r H' (same_free se nr) (se.trans s') hL er
end
end My

set_option Elab.async false
set_option linter.all false
set_option maxRecDepth 100000
namespace My
open PySem PySem.Spec PyProof.Rows L2 GxR
theorem eqv_dI2 : ∀ a b : List Int, PyData.eqv (dI a) (dI b) = decide (a = b)
  | [], [] => rfl
  | [], _ :: _ => rfl
  | _ :: _, [] => rfl
  | x :: a, y :: b => by
    show ((x == y) && PyData.eqvAll (a.map PyData.int) (b.map PyData.int)) = _
    rw [show PyData.eqvAll (a.map PyData.int) (b.map PyData.int) = PyData.eqv (dI a) (dI b) from rfl, eqv_dI2 a b]
    by_cases h : x = y <;> by_cases k : a = b <;> simp [h, k]
theorem tab_lst {H H' : Hp} {P d : Addr} {xs : List V} (tb : Tabbed P H H') (tg : TabG H P) (e : H d = some (.lst xs)) : H' d = some (.lst xs) := by
  obtain ⟨ps, h1, _⟩ := tg
  rw [tb.2 d (fun z => by rw [z, h1] at e; cases e)]; exact e
theorem tabG_sameM {H H' : Hp} {P : Addr} (h : TabG H P) (s : Same H H') : TabG H' P := by
  obtain ⟨ps, h1, h2⟩ := h
  exact ⟨ps, s _ _ h1, h2⟩
theorem least_nil (n : Nat) (ts : List (Int × Int)) : Least n ts [] [] :=
  ⟨⟨fun _ z => z, fun _ z => absurd z List.not_mem_nil, List.nodup_nil, fun _ _ _ x z => absurd z List.not_mem_nil⟩, fun _ _ _ _ => rfl, List.Pairwise.nil⟩
section
variable {P : Program} {w : World} {K : PySem.W.Frag} {mg : Str → Option Value} {base : Heap}
/-! ### is_place -/
abbrev s_is_place : Stmt := topS 3
abbrev N_is_place : List Str := ["web", "thing"]
theorem sc_is_place : FnScope N_is_place ["web", "thing"] (defScope s_is_place) := ⟨rfl, rfl, rfl, by decide +kernel, rfl, by decide +kernel, by decide +kernel⟩
def sp_place : Sp := fun vs H Q _ => ∃ (v : V) (n : Nat) (ts : List (Int × Int)) (i : Int), vs = [v, .int i] ∧ Web H v n ts ∧ 0 ≤ i ∧ i < (n : Int) ∧ Q (.bl true) H
theorem ok_place {f : Addr} {fd : FuncData} (B : Bts mg) (F : Fun K "is_place" "is_place" s_is_place f fd) (c_is_number : Cl P w K mg base 1 "is_number" sp_num) : FnOk P w K mg base CX0 2 f fd ["web", "thing"] sp_place := by
  refine F.ok sc_is_place (fun vs H Q E h => ?_) (fun cdv A outer s H vs Q E hr h => ?_)
  · obtain ⟨v, n, ts, i, rfl, _⟩ := h; rfl
  · obtain ⟨v, n, ts, i, rfl, ⟨pw, qw, uw, rfl, ew, eqw, hT⟩, i0, i1, q⟩ := h
    refine ⟨_, (pss_one (ps_ret (pe_and (pe_c c_is_number hr (by decide) (by rfl) (pa_cons (pv 1) pa_nil)) (pe_one (pe_chain op_le op_lt pe_int (pv 1) (pe_ix ix_tup (pv 0) pe_int (fun _ _ => rfl))))))), ?_⟩
    refine ⟨_, rfl, i, rfl, true, rfl, iteT ?_⟩
    refine ⟨_, rfl, _, _, rfl, rfl, _, rfl, ?_⟩
    rw [decide_eq_true i0]
    refine iteT ⟨_, rfl, pw, _, _, _, rfl, rfl, SqT.of ew, rfl, _, _, rfl, rfl, ?_⟩
    show Q (.bl (decide (i < (n : Int)))) H
    rw [decide_eq_true i1]
    exact q
/-! ### is_module -/
abbrev s_is_module : Stmt := topS 10
abbrev N_is_module : List Str := ["web", "places", "place"]
theorem sc_is_module : FnScope N_is_module ["web", "places"] (defScope s_is_module) := ⟨rfl, rfl, rfl, by decide +kernel, rfl, by decide +kernel, by decide +kernel⟩
def sp_module (PM : Addr) : Sp := fun vs H Q _ => ∃ (v : V) (n : Nat) (ts : List (Int × Int)) (d : Addr) (S0 : List Int), vs = [v, .ref d] ∧ Web H v n ts ∧ H d = some (.lst (S0.map V.int)) ∧ (n < 64) ∧ (∀ x ∈ S0, 0 ≤ x ∧ x < (n : Int)) ∧ S0.length ≤ 1000 ∧ TabG H PM ∧
  ∀ L H', FrM [PM] H H' → TabG H' PM → Least n ts S0 L → Q (.bl (!S0.isEmpty && decide (L = S0))) H'
theorem ok_module {f c PM : Addr} {fd : FuncData} (B : Bts mg) (F : Fun K "is_module" "is_module" s_is_module f fd) (hc : fd.code = .ref c) (TB : TabB base mg c PM) (c_is_place : Cl P w K mg base 2 "is_place" sp_place) (c_least_module : Cl P w K mg base 5 "least_module" sp_least) :
    FnOk P w K mg base CX0 6 f fd ["web", "places"] (sp_module PM) := by
  refine okC F hc sc_is_module (fun vs H Q E h => ?_) (fun A outer s H vs Q E hr h => ?_)
  · obtain ⟨v, n, ts, d, S0, rfl, _⟩ := h; rfl
  · obtain ⟨v, n, ts, d, S0, rfl, hW, ed, h64, hS, sl, tg, q⟩ := h
    refine ⟨_, (pss_cons (ps_if (PW.pt (pw_or (pt_not (pt_val (pe_callB call_isi (by rfl) B.isinstance (by decide +kernel) (pa_cons (pv 1) (pa_cons (pe_bltn (v := .ty "list") (by rfl) B.list (by decide +kernel) rfl) pa_nil))))) (pw_or1 (pt_not (pt_truth (pv 1) (by intro _; rfl)))))) (pss_one (ps_ret pe_bl)) pss_nil)
    (pss_cons (ps_if (pt_not (pt_val (pe_allG (own := [("place", 2)]) (g := (gName 2)) rfl sc_is_module.nd hr (by rfl) B.all TB rfl ⟨rfl, by decide +kernel, rfl⟩ (blkOk_by (own := [("place", 2)]) (N := N_is_module) (sc := defScope s_is_module) (by decide +kernel)) (pi_list (pv 1)) (fun _ _ _ _ _ _ _ => (pg_name (i := 2) sc_is_module.nd rfl (by first | exact Or.inl rfl | exact Or.inr rfl))) (fun _ _ _ _ _ _ _ hr => (pe_c c_is_place hr (by decide) (by rfl) (pa_cons (pv 0) (pa_cons (pv 2) pa_nil))))))) (pss_one (ps_ret pe_bl)) pss_nil)
    (pss_one (ps_ret (pe_cmpR (op_eqD hr.units) (pe_c c_least_module hr (by decide) (by rfl) (pa_cons (pv 0) (pa_cons (pv 1) pa_nil))) (pv 1) (nomark _)))))), ?_⟩
    refine ⟨_, rfl, _, _, _, _, true, rfl, .ty _, .base (.lst ed), kit_ty (by decide +kernel), true, rfl, iteF ?_⟩
    refine ⟨_, rfl, !(S0.map V.int).isEmpty, .inl ⟨_, SqL.of ed, rfl⟩, ?_⟩
    cases hS0 : S0 with
    | nil =>
      subst hS0
      exact iteT (q [] H (FrM.same (same_refl H)) tg (least_nil n ts))
    | cons x0 S1 =>
      rw [← hS0]
      have e0 : (!(S0.map V.int).isEmpty) = true := by rw [hS0]; rfl
      have e1 : (!S0.isEmpty) = true := by rw [hS0]; rfl
      rw [e0]
      refine iteF ?_
      refine ⟨_, rfl, d, rfl, ⟨_, SqL.of ed⟩, tg, fun H2 tb => ?_⟩
      have t2 := tb_tst tb tg
      have ed2 := tab_lst tb tg ed
      have hW2 := hW.mono t2
      obtain ⟨pw, qw, uw, rfl, ew, eqw, hT⟩ := id hW2
      refine allG_it (walk_list (K := K) (a := d) (xs := S0.map V.int)) (fun i H3 => H3 = H2) rfl ?_ ?_ ?_
      · rintro i H3 _ rfl
        exact SqL.of ed2
      · rintro i x H3 H4 hi rfl ⟨rfl, hx⟩
        rw [List.getElem?_map] at hx
        obtain ⟨j, ej, rfl⟩ := Option.map_eq_some_iff.mp hx
        have hj := hS j (List.mem_of_getElem? ej)
        refine ⟨rfl, _, rfl, _, rfl, .ref pw, n, ts, j, rfl, hW2, hj.1, hj.2, true, rfl, ?_⟩
        exact iteT rfl
      · rintro H3 rfl
        refine ⟨true, rfl, iteF ?_⟩
        refine ⟨_, rfl, _, rfl, _, n, ts, d, S0, rfl, hW2, ed2, h64, hS, sl, fun L r H' nr s' hL er => ?_⟩
        refine ⟨_, rfl, dI L, dI S0, .lst (SqL.of er) (dpI L), .lst (SqL.of (s' _ _ ed2)) (dpI S0), shaped_dI L, shaped_dI S0, ?_⟩
        rw [eqv_dI2]
        have qq := q L H' ((tb_frM tb).trans (FrM.same s')) (tabG_sameM tb.1 s') hL
        rw [e1, Bool.true_and] at qq
        exact qq
end
end My

set_option Elab.async false
set_option linter.all false
set_option maxRecDepth 100000
namespace My
open PySem PySem.Spec PyProof.Rows L2 GxR
/-- a module of the web, as a rising list; it may be empty -/
structure Mdl (n : Nat) (ts : List (Int × Int)) (A : List Int) : Prop where
  clo : Clo n ts A
  rise : A.Pairwise (· < ·)
  rng : ∀ x ∈ A, 0 ≤ x ∧ x < (n : Int)
theorem Least.mdl {n : Nat} {ts : List (Int × Int)} {S0 L : List Int} (h : Least n ts S0 L) : Mdl n ts L := ⟨h.clo, h.rise, h.lm.rng⟩
theorem Mdl.len {n : Nat} {ts : List (Int × Int)} {A : List Int} (h : Mdl n ts A) : A.length ≤ n := by
  have := nd_len (m := up n) (h.rise.imp fun h => Int.ne_of_lt h) fun x hx => mem_up.mpr (h.rng x hx)
  rwa [up_len] at this
theorem Mdl.least {n : Nat} {ts : List (Int × Int)} {A : List Int} (h : Mdl n ts A) : Least n ts A A := least_self h.clo h.rise h.rng
theorem frM_keep {H H' : Hp} {PM d : Addr} {o : HO} (f : FrM [PM] H H') (tg : TabG H PM) (e : H d = some o) (ne : ∀ ps, o ≠ .tbl ps) : H' d = some o := by
  refine f d o (fun z => ?_) e
  obtain ⟨ps, h1, _⟩ := tg
  rw [List.mem_singleton.mp z, h1] at e
  cases e
  exact ne ps rfl
theorem frM_lst {H H' : Hp} {PM d : Addr} {xs : List V} (f : FrM [PM] H H') (tg : TabG H PM) (e : H d = some (.lst xs)) : H' d = some (.lst xs) := frM_keep f tg e fun _ z => nomatch z
theorem frM_tst {H H' : Hp} {PM : Addr} (f : FrM [PM] H H') (tg : TabG H PM) : Tst H H' := fun b xs e => frM_keep f tg e fun _ z => nomatch z
section
variable {P : Program} {w : World} {K : PySem.W.Frag} {mg : Str → Option Value} {base : Heap}
/-! ### _law_two_right -/
abbrev s__law_two_right : Stmt := topS 26
abbrev N__law_two_right : List Str := ["_law_web_here", "_law_one", "_law_other", "_law_both", "_law_common", "_law_place", "_law_beside"]
theorem sc__law_two_right : FnScope N__law_two_right ["_law_web_here", "_law_one", "_law_other"] (defScope s__law_two_right) := ⟨rfl, rfl, rfl, by decide +kernel, rfl, by decide +kernel, by decide +kernel⟩
def sp_two (PM : Addr) : Sp := fun vs H Q _ => ∃ (v : V) (n : Nat) (ts : List (Int × Int)) (a b : Addr) (A B : List Int), vs = [v, .ref a, .ref b] ∧ Web H v n ts ∧ n ≤ 12 ∧ H a = some (.lst (A.map V.int)) ∧ H b = some (.lst (B.map V.int)) ∧ Mdl n ts A ∧ Mdl n ts B ∧ TabG H PM ∧
  ∀ H', FrM [PM] H H' → TabG H' PM → Q (.bl true) H'
theorem ok_two {f PM : Addr} {fd : FuncData} (B : Bts mg) (F : Fun K "_law_two_right" "_law_two_right" s__law_two_right f fd) (c_is_module : Cl P w K mg base 6 "is_module" (sp_module PM)) (c_least_module : Cl P w K mg base 5 "least_module" sp_least) : FnOk P w K mg base CX0 7 f fd ["_law_web_here", "_law_one", "_law_other"] (sp_two PM) := by
  refine F.ok sc__law_two_right (fun vs H Q E h => ?_) (fun cdv A outer s H vs Q E hr h => ?_)
  · obtain ⟨v, n, ts, a, b, A, B, rfl, _⟩ := h; rfl
  · obtain ⟨v, n, ts, a, b, A', B', rfl, hW, hn, ea, eb, mA, mB, tg, q⟩ := h
    refine ⟨_, (pss_cons (ps_set (i := 3) sc__law_two_right.nd rfl (by first | exact Or.inl rfl | exact Or.inr rfl) (pe_callB (cr_sortedSet rfl) (by rfl) B.sorted (by decide +kernel) (pa_cons (pe_callTy (cr_setI rfl) (by rfl) B.set (by decide +kernel) (pa_cons (pe_op op_cat (pv 1) (pv 2)) pa_nil)) pa_nil)))
    (pss_cons (ps_setLc (i := 4) (own := [("_law_place", 5)]) (g := (gName 5)) (tt := (tTest (tOp (rIn K false) _ _))) rfl sc__law_two_right.nd rfl rfl (sw_true rfl rfl rfl (by decide +kernel)) (pi_list (pv 1)) (blkOk_by (own := [("_law_place", 5)]) (N := N__law_two_right) (sc := defScope s__law_two_right) (by decide +kernel)) (fun _ _ _ _ _ => (pg_name (i := 5) sc__law_two_right.nd rfl (by first | exact Or.inl rfl | exact Or.inr rfl))) (fun _ _ _ _ _ => (pts_one (pt_cmpR op_in_seq (pv 5) (pv 2) (by rfl)))) (fun _ _ _ _ _ => (pv 5)))
    (pss_cons (ps_if (pt_cmpR (op_eqD hr.units) (pv 4) (pe_lst pa_nil) (nomark _)) (pss_one (ps_ret pe_bl)) pss_nil)
    (pss_cons (ps_if (PW.pt (pw_or (pt_cmpR op_notBl (pe_c c_is_module hr (by decide) (by rfl) (pa_cons (pv 0) (pa_cons (pv 3) pa_nil))) pe_bl (nomark _)) (pw_or1 (pt_cmpR op_notBl (pe_c c_is_module hr (by decide) (by rfl) (pa_cons (pv 0) (pa_cons (pv 4) pa_nil))) pe_bl (nomark _))))) (pss_one (ps_ret pe_bl)) pss_nil)
    (pss_cons (ps_setLc (i := 6) (own := [("_law_place", 5)]) (g := (gName 5)) (tt := (tTest (tOp (rIn K true) _ _))) rfl sc__law_two_right.nd rfl rfl (sw_true rfl rfl rfl (by decide +kernel)) (pi_list (pv 1)) (blkOk_by (own := [("_law_place", 5)]) (N := N__law_two_right) (sc := defScope s__law_two_right) (by decide +kernel)) (fun _ _ _ _ _ => (pg_name (i := 5) sc__law_two_right.nd rfl (by first | exact Or.inl rfl | exact Or.inr rfl))) (fun _ _ _ _ _ => (pts_one (pt_cmpR op_notIn_seq (pv 5) (pv 2) (by rfl)))) (fun _ _ _ _ _ => (pv 5)))
    (pss_cut (ps_if (PW.pt (pw_and (pt_cmpR (op_neD hr.units) (pv 6) (pe_lst pa_nil) (nomark _)) (pw_and (pt_cmpR op_gt (pe_callB call_len_seq (by rfl) B.len (by decide +kernel) (pa_cons (pv 3) pa_nil)) (pe_callB call_len_seq (by rfl) B.len (by decide +kernel) (pa_cons (pv 1) pa_nil)) (nomark _)) (pw_and1 (pt_cmpR op_notBl (pe_c c_is_module hr (by decide) (by rfl) (pa_cons (pv 0) (pa_cons (pv 6) pa_nil))) pe_bl (nomark _)))))) (pss_one (ps_ret pe_bl)) pss_nil)
    (pss_one (ps_ret (pe_cmpR (op_eqD hr.units) (pe_c c_least_module hr (by decide) (by rfl) (pa_cons (pv 0) (pa_cons (pv 3) pa_nil))) (pv 3) (nomark _)))))))))), ?_⟩
    have al := mA.len
    have bl := mB.len
    refine ⟨_, rfl, _, rfl, a, b, _, _, rfl, rfl, ea, eb, sz (by rw [List.length_map, List.length_map]; omega), fun c nc => ?_⟩
    have s1 := same_new (o := .lst (A'.map V.int ++ B'.map V.int)) nc
    refine ⟨c, A' ++ B', rfl, SqL.of (by rw [upd_same, List.map_append]), by rw [List.length_append]; unfold scanBound; omega, fun S k nS hk => ?_⟩
    have s2 := same_new (o := SetO w S (fun j => decide (j ∈ A' ++ B')) k) nS
    rw [List.length_append] at hk
    refine ⟨S, _, k, rfl, upd_same, by omega, fun C p cr cm cl np => ?_⟩
    have s3 := same_new (o := .lst (C.map V.int)) np
    have s03 := (s1.trans s2).trans s3
    have cm' : ∀ x, x ∈ C ↔ x ∈ A' ∨ x ∈ B' := fun x => by rw [cm x, decide_eq_true_iff, List.mem_append]
    refine ⟨_, rfl, a, rfl, ⟨_, SqL.of (s03 _ _ ea)⟩, fun D nD => ?_⟩
    have nD0 := same_free s03 nD
    have nDp : p ≠ D := ne_of_none upd_same nD
    refine wk (walk_list (K := K) (a := a) (xs := A'.map V.int)) (fun i H4 => Same H H4 ∧ H4 p = some (.lst (C.map V.int)) ∧ H4 D = some (.lst (((A'.take i).filter fun x => decide (x ∈ B')).map V.int))) ⟨Same.put s03 nD0, by rw [upd_ne nDp]; exact upd_same, upd_same⟩ ?_ ?_ ?_
    · rintro i H4 _ ⟨s4, _⟩
      exact SqL.of (s4 _ _ ea)
    · rintro i x H4 H5 hi ⟨s4, p4, e4⟩ ⟨rfl, hx⟩
      rw [List.getElem?_map] at hx
      obtain ⟨j, ej, rfl⟩ := Option.map_eq_some_iff.mp hx
      rw [List.length_map] at hi
      have fl : ((A'.take i).filter fun x => decide (x ∈ B')).length ≤ i := Nat.le_trans (List.length_filter_le _ _) (by rw [List.length_take]; omega)
      have st : (A'.take (i + 1)).filter (fun x => decide (x ∈ B')) = (A'.take i).filter (fun x => decide (x ∈ B')) ++ (if decide (j ∈ B') = true then [j] else []) := by
        rw [List.take_add_one, ej, List.filter_append]
        show _ ++ List.filter _ [j] = _
        rw [List.filter_cons]; rfl
      refine ⟨rfl, _, rfl, _, rfl, b, _, rfl, .inl (SqL.of (s4 _ _ eb)), rfl, all_flat _, _, rfl, ?_⟩
      rw [inV_int]
      cases hd : decide (j ∈ B') with
      | false =>
        rw [hd, if_neg (fun z => nomatch z), List.append_nil] at st
        refine iteF ⟨s4, p4, ?_⟩
        rw [st]; exact e4
      | true =>
        rw [hd, if_pos rfl] at st
        refine iteT ⟨_, rfl, _, e4, sz' (by rw [List.length_map]; omega), Same.put s4 nD0, by rw [upd_ne nDp]; exact p4, ?_⟩
        rw [upd_same, st, List.map_append]; rfl
    · rintro H4 ⟨s4, p4, e4⟩
      rw [List.length_map, List.take_length] at e4
      have hI : ∀ x, x ∈ A'.filter (fun x => decide (x ∈ B')) ↔ x ∈ A' ∧ x ∈ B' := fun x => by rw [List.mem_filter, decide_eq_true_iff]
      have mI : Mdl n ts (A'.filter fun x => decide (x ∈ B')) := ⟨clo_common mA.clo mB.clo hI, mA.rise.filter _, fun x hx => mA.rng x ((hI x).mp hx).1⟩
      generalize hIl : A'.filter (fun x => decide (x ∈ B')) = Ci at e4 hI mI
      have cil := mI.len
      refine ⟨_, rfl, Nat.zero_le _, fun z nz => ?_⟩
      have sz1 := same_new (o := .lst []) nz
      refine ⟨dI Ci, dI [], .lst (SqL.of (sz1 _ _ e4)) (dpI Ci), .lst (SqL.of upd_same) (dpI []), shaped_dI Ci, shaped_dI [], _, rfl, ?_⟩
      rw [eqv_dI2]
      have s5 := s4.trans sz1
      by_cases hc : Ci = []
      · rw [decide_eq_true hc]
        exact iteT (q _ (FrM.same s5) (tabG_sameM tg s5))
      · rw [decide_eq_false hc]
        obtain ⟨c0, hc0⟩ := List.exists_mem_of_ne_nil _ hc
        have c1 := (hI c0).mp hc0
        have mC : Mdl n ts C := ⟨clo_both mA.clo mB.clo c1.1 c1.2 cm', cr, fun x hx => ((cm' x).mp hx).elim (mA.rng x) (mB.rng x)⟩
        have cne : (!C.isEmpty) = true := by
          cases C with
          | nil => exact absurd ((cm' c0).mpr (.inl c1.1)) List.not_mem_nil
          | cons _ _ => rfl
        have cine : (!Ci.isEmpty) = true := by
          cases Ci with
          | nil => exact absurd rfl hc
          | cons _ _ => rfl
        have mcl := mC.len
        refine iteF ⟨_, rfl, _, rfl, v, n, ts, p, C, rfl, hW.mono (Same.tst s5), sz1 _ _ p4, by omega, mC.rng, by omega, tabG_sameM tg s5, fun L H6 fr6 tg6 hL => ?_⟩
        rw [hL.uniq mC.least, cne, Bool.true_and, decide_eq_true rfl]
        refine ⟨true, true, rfl, rfl, _, rfl, iteF ?_⟩
        have tg5 := tabG_sameM tg s5
        have f06 : FrM [PM] H H6 := (FrM.same s5).trans fr6
        refine ⟨_, rfl, _, rfl, v, n, ts, D, Ci, rfl, hW.mono (frM_tst f06 tg), frM_lst fr6 tg5 (sz1 _ _ e4), by omega, mI.rng, by omega, tg6, fun L' H7 fr7 tg7 hL' => ?_⟩
        rw [hL'.uniq mI.least, cine, Bool.true_and, decide_eq_true rfl]
        refine ⟨true, true, rfl, rfl, _, rfl, iteF ?_⟩
        have f07 := f06.trans fr7
        have a7 := frM_lst f07 tg ea
        have b7 := frM_lst f07 tg eb
        have p7 := frM_lst fr7 tg6 (frM_lst fr6 tg5 (sz1 _ _ p4))
        have w7 := hW.mono (frM_tst f07 tg)
        refine ⟨_, rfl, a, rfl, ⟨_, SqL.of a7⟩, fun N nN => ?_⟩
        refine wk (walk_list (K := K) (a := a) (xs := A'.map V.int)) (fun i H8 => Same H7 H8 ∧ H8 N = some (.lst (((A'.take i).filter fun x => !decide (x ∈ B')).map V.int))) ⟨same_new nN, upd_same⟩ ?_ ?_ ?_
        · rintro i H8 _ ⟨s8, _⟩
          exact SqL.of (s8 _ _ a7)
        · rintro i x H8 H9 hi ⟨s8, e8⟩ ⟨rfl, hx⟩
          rw [List.getElem?_map] at hx
          obtain ⟨j, ej, rfl⟩ := Option.map_eq_some_iff.mp hx
          rw [List.length_map] at hi
          have fl : ((A'.take i).filter fun x => !decide (x ∈ B')).length ≤ i := Nat.le_trans (List.length_filter_le _ _) (by rw [List.length_take]; omega)
          have st : (A'.take (i + 1)).filter (fun x => !decide (x ∈ B')) = (A'.take i).filter (fun x => !decide (x ∈ B')) ++ (if (!decide (j ∈ B')) = true then [j] else []) := by
            rw [List.take_add_one, ej, List.filter_append]
            show _ ++ List.filter _ [j] = _
            rw [List.filter_cons]; rfl
          refine ⟨rfl, _, rfl, _, rfl, b, _, rfl, .inl (SqL.of (s8 _ _ b7)), rfl, all_flat _, _, rfl, ?_⟩
          rw [inV_int]
          cases hd : decide (j ∈ B') with
          | true =>
            rw [hd, if_neg (fun z => nomatch z), List.append_nil] at st
            refine iteF ⟨s8, ?_⟩
            rw [st]; exact e8
          | false =>
            rw [hd, if_pos (show (!false) = true from rfl)] at st
            refine iteT ⟨_, rfl, _, e8, sz' (by rw [List.length_map]; omega), Same.put s8 nN, ?_⟩
            rw [upd_same, st, List.map_append]; rfl
        · rintro H8 ⟨s8, e8⟩
          rw [List.length_map, List.take_length] at e8
          have hN : ∀ x, x ∈ A'.filter (fun x => !decide (x ∈ B')) ↔ x ∈ A' ∧ x ∉ B' := fun x => by rw [List.mem_filter, Bool.not_eq_true', decide_eq_false_iff_not]
          have nr : (A'.filter fun x => !decide (x ∈ B')).Pairwise (· < ·) := mA.rise.filter _
          generalize A'.filter (fun x => !decide (x ∈ B')) = Ce at e8 hN nr
          have tg8 := tabG_sameM tg7 s8
          have f08 := f07.trans (FrM.same s8)
          have p8 := s8 _ _ p7
          have w8 := hW.mono (frM_tst f08 tg)
          refine ⟨fun σ' H' => σ' = [some v, some (.ref a), some (.ref b), some (.ref p), some (.ref D), none, some (.ref N)] ∧ FrM [PM] H8 H' ∧ TabG H' PM, ?_, ?_⟩
          · refine ⟨_, rfl, Nat.zero_le _, fun y ny => ?_⟩
            have sy := same_new (o := .lst []) ny
            refine ⟨dI Ce, dI [], .lst (SqL.of (sy _ _ e8)) (dpI Ce), .lst (SqL.of upd_same) (dpI []), shaped_dI Ce, shaped_dI [], _, rfl, ?_⟩
            rw [eqv_dI2]
            have tg9 := tabG_sameM tg8 sy
            by_cases he : Ce = []
            · rw [decide_eq_true he]
              exact iteF (iteF ⟨rfl, FrM.same sy, tg9⟩)
            · rw [decide_eq_false he]
              refine iteT ⟨_, rfl, p, _, rfl, .inl (SqL.of (sy _ _ p8)), _, rfl, a, _, rfl, .inl (SqL.of (sy _ _ (s8 _ _ a7))), _, _, rfl, rfl, _, rfl, ?_⟩
              rw [List.length_map, List.length_map]
              by_cases hg : (C.length : Int) > (A'.length : Int)
              · rw [decide_eq_true hg]
                have hy : ∃ y, y ∈ B' ∧ y ∉ A' := by
                  apply Classical.byContradiction
                  intro no
                  have := nd_len (m := A') (mC.rise.imp fun h => Int.ne_of_lt h) fun x hx => by
                    rcases (cm' x).mp hx with z | z
                    · exact z
                    · exact Classical.byContradiction fun nz => no ⟨x, z, nz⟩
                  omega
                obtain ⟨y0, y1, y2⟩ := hy
                have mE : Mdl n ts Ce := ⟨clo_beside mA.clo mB.clo mA.rng mB.rng y1 y2 hN, nr, fun x hx => mA.rng x ((hN x).mp hx).1⟩
                have ene : (!Ce.isEmpty) = true := by
                  cases Ce with
                  | nil => exact absurd rfl he
                  | cons _ _ => rfl
                have el := mE.len
                refine iteT ⟨_, rfl, _, rfl, v, n, ts, N, Ce, rfl, w8.mono (Same.tst sy), sy _ _ e8, by omega, mE.rng, by omega, tg9, fun L2 H10 fr10 tg10 hL2 => ?_⟩
                rw [hL2.uniq mE.least, ene, Bool.true_and, decide_eq_true rfl]
                exact ⟨true, true, rfl, rfl, _, rfl, iteF ⟨rfl, (FrM.same sy).trans fr10, tg10⟩⟩
              · rw [decide_eq_false hg]
                exact iteF (iteF ⟨rfl, FrM.same sy, tg9⟩)
          · rintro σ' H9 ⟨rfl, f9, tg9⟩
            refine ⟨_, rfl, _, rfl, v, n, ts, p, C, rfl, w8.mono (frM_tst f9 tg8), frM_lst f9 tg8 p8, by omega, mC.rng, by omega, fun L3 r H10 nr10 s10 hL3 er => ?_⟩
            refine ⟨_, rfl, dI L3, dI C, .lst (SqL.of er) (dpI L3), .lst (SqL.of (s10 _ _ (frM_lst f9 tg8 p8))) (dpI C), shaped_dI L3, shaped_dI C, ?_⟩
            rw [eqv_dI2, decide_eq_true (hL3.uniq mC.least)]
            exact q H10 ((f08.trans f9).trans (FrM.same s10)) (tabG_sameM tg9 s10)
end
end My

set_option Elab.async false
set_option linter.all false
set_option maxRecDepth 100000
set_option pp.maxSteps 400
set_option maxHeartbeats 4000000
namespace My
open PySem PySem.Spec PyProof.Rows L2 GxR
/-! all stays but the draws and one table -/
def FL (PM L : Addr) (H H' : Hp) : Prop := ∀ b o, b ≠ L → b ≠ PM → H b = some o → H' b = some o
theorem FL.refl (PM L : Addr) (H : Hp) : FL PM L H H := fun _ _ _ _ e => e
theorem FL.trans {PM L : Addr} {H H1 H2 : Hp} (a : FL PM L H H1) (b : FL PM L H1 H2) : FL PM L H H2 := fun c o n m e => b c o n m (a c o n m e)
theorem FL.fr {PM L : Addr} {H H' : Hp} (a : Fr L H H') : FL PM L H H' := fun b o n _ e => a b o n e
theorem FL.same {PM L : Addr} {H H' : Hp} (a : Same H H') : FL PM L H H' := fun b o _ _ e => a b o e
theorem FL.tab {PM L : Addr} {H H' : Hp} (a : FrM [PM] H H') : FL PM L H H' := fun b o _ m e => a b o (fun z => m (List.mem_singleton.mp z)) e
theorem tab_neL {PM L : Addr} {H : Hp} {c : Int} (tg : TabG H PM) (lf : Lf H L c) : L ≠ PM := by
  obtain ⟨x, y, z, e, _⟩ := lf
  obtain ⟨ps, h1, _⟩ := tg
  exact fun w => by rw [w, h1] at e; cases e
theorem FL.tst {PM L : Addr} {H H' : Hp} {c : Int} (h : FL PM L H H') (tg : TabG H PM) (lf : Lf H L c) : Tst H H' := fun b xs e => by
  refine h b _ (fun z => ?_) (fun z => ?_) e
  · obtain ⟨x, y, w, e2, _⟩ := lf
    rw [z, e2] at e; cases e
  · obtain ⟨ps, h1, _⟩ := tg
    rw [z, h1] at e; cases e
theorem FL.lst {PM L p : Addr} {H H' : Hp} {xs : List V} (h : FL PM L H H') (tg : TabG H PM) (ne : p ≠ L) (e : H p = some (.lst xs)) : H' p = some (.lst xs) := h p _ ne (fun z => by
  obtain ⟨ps, h1, _⟩ := tg
  rw [z, h1] at e; cases e) e
theorem tab_frL {PM L : Addr} {H H' : Hp} {c : Int} (tg : TabG H PM) (lf : Lf H L c) (f : Fr L H H') : TabG H' PM := by
  have n := tab_neL tg lf
  obtain ⟨ps, h1, h2⟩ := tg
  exact ⟨ps, f _ _ (Ne.symm n) h1, h2⟩
theorem all_repM (n : Nat) : (List.replicate n true).all id = true := by
  rw [List.all_eq_true]
  intro x hx
  rw [(List.mem_replicate.mp hx).2]; rfl
/-- a list of numbers that stands apart from two places -/
def LsI (L Fd : Addr) (H : Hp) (v : V) (A : List Int) : Prop := ∃ q, v = .ref q ∧ q ≠ L ∧ q ≠ Fd ∧ H q = some (.lst (A.map V.int))
section
variable {P : Program} {w : World} {K : PySem.W.Frag} {mg : Str → Option Value} {base : Heap}
/-! ### _law_least_right -/
abbrev s__law_least_right : Stmt := topS 27
abbrev N__law_least_right : List Str := ["_law_left_here", "_law_web_here", "_law_found", "_law_turn", "_law_places", "_law_place", "_law_least", "_law_more", "_law_one", "_law_other"]
theorem sc__law_least_right : FnScope N__law_least_right ["_law_left_here", "_law_web_here"] (defScope s__law_least_right) := ⟨rfl, rfl, rfl, by decide +kernel, rfl, by decide +kernel, by decide +kernel⟩
def sp_lright (PM : Addr) : Sp := fun vs H Q _ => ∃ (L : Addr) (v : V) (c : Int) (n : Nat) (ts : List (Int × Int)), vs = [.ref L, v] ∧ Lf H L c ∧ c < 2 ^ 46 ∧ Web H v n ts ∧ 0 < n ∧ n ≤ 12 ∧ TabG H PM ∧
  ∀ H', FL PM L H H' → TabG H' PM → Lf H' L (c + 4000) → Q (.bl true) H'
theorem ok_lright {f PM : Addr} {fd : FuncData} (B : Bts mg) (F : Fun K "_law_least_right" "_law_least_right" s__law_least_right f fd) (c__law_pick : Cl P w K mg base 2 "_law_pick" sp_pick) (c_least_module : Cl P w K mg base 5 "least_module" sp_least) (c_is_module : Cl P w K mg base 6 "is_module" (sp_module PM)) (c__law_two_right : Cl P w K mg base 7 "_law_two_right" (sp_two PM)) : FnOk P w K mg base CX0 8 f fd ["_law_left_here", "_law_web_here"] (sp_lright PM) := by
  refine F.ok sc__law_least_right (fun vs H Q E h => ?_) (fun cdv A outer s H vs Q E hr h => ?_)
  · obtain ⟨L, v, c, n, ts, rfl, _⟩ := h; rfl
  · obtain ⟨L, v, c, n, ts, rfl, lf, hc, hWeb, n0, hn, tg, q⟩ := h
    refine ⟨_, (pss_cons (ps_set (i := 2) sc__law_least_right.nd rfl (by first | exact Or.inl rfl | exact Or.inr rfl) (pe_lst pa_nil))
    (pss_cons (ps_for PassesOwn.never rfl (pi_range1 (by rfl) B.range (pa_cons pe_int pa_nil)) (pg_name (i := 3) sc__law_least_right.nd rfl (by first | exact Or.inl rfl | exact Or.inr rfl))
      (pss_cons (ps_setLc (i := 4) (own := [("_law_place", 5)]) (g := (gName 5)) (tt := (tTest (tOp _ (tCall _ _ _ (tCons _ (tCons (tOp (rIxL K) _ _) tNil))) _))) rfl sc__law_least_right.nd rfl rfl (sw_true rfl rfl rfl (by decide +kernel)) (pi_range1 (by rfl) B.range (pa_cons (pe_ix ix_tup (pv 1) pe_int (fun _ _ => rfl)) pa_nil)) (blkOk_by (own := [("_law_place", 5)]) (N := N__law_least_right) (sc := defScope s__law_least_right) (by decide +kernel)) (fun _ _ _ _ _ => (pg_name (i := 5) sc__law_least_right.nd rfl (by first | exact Or.inl rfl | exact Or.inr rfl))) (fun _ _ _ _ _ => (pts_one (pt_cmpR op_eq (pe_c c__law_pick hr (by decide) (by rfl) (pa_cons (pv 0) (pa_cons (pe_ix ix_list (pe_lst (pa_cons pe_int (pa_cons pe_int (pa_cons pe_int pa_nil)))) (pe_c c__law_pick hr (by decide) (by rfl) (pa_cons (pv 0) (pa_cons pe_int pa_nil))) (fun _ _ => rfl)) pa_nil))) pe_int (nomark _)))) (fun _ _ _ _ _ => (pv 5)))
      (pss_cut (ps_if (pt_cmpR (op_eqD hr.units) (pv 4) (pe_lst pa_nil) (nomark _)) (pss_one (ps_set (i := 4) sc__law_least_right.nd rfl (by first | exact Or.inl rfl | exact Or.inr rfl) (pe_lst (pa_cons (pe_c c__law_pick hr (by decide) (by rfl) (pa_cons (pv 0) (pa_cons (pe_ix ix_tup (pv 1) pe_int (fun _ _ => rfl)) pa_nil))) pa_nil)))) pss_nil)
      (pss_cons (ps_set (i := 6) sc__law_least_right.nd rfl (by first | exact Or.inl rfl | exact Or.inr rfl) (pe_c c_least_module hr (by decide) (by rfl) (pa_cons (pv 1) (pa_cons (pv 4) pa_nil))))
      (pss_cons (ps_if (PW.pt (pw_or (pt_cmpR op_notBl (pe_c c_is_module hr (by decide) (by rfl) (pa_cons (pv 1) (pa_cons (pv 6) pa_nil))) pe_bl (nomark _)) (pw_or1 (pt_not (pt_val (pe_callB (cr_all rfl) (by rfl) B.all (by decide +kernel) (pa_cons (pe_lc (own := [("_law_place", 5)]) (g := (gName 5)) (tt := tYes) (te := (tOp (rIn K false) _ _)) rfl sc__law_least_right.nd (pi_list (pv 4)) (blkOk_by (own := [("_law_place", 5)]) (N := N__law_least_right) (sc := defScope s__law_least_right) (by decide +kernel)) (fun _ _ _ _ _ => (pg_name (i := 5) sc__law_least_right.nd rfl (by first | exact Or.inl rfl | exact Or.inr rfl))) (fun _ _ _ _ _ => pts_nil) (fun _ _ _ _ _ => (pe_cmpR op_in_seq (pv 5) (pv 6) (by rfl)))) pa_nil))))))) (pss_one (ps_ret pe_bl)) pss_nil)
      (pss_cons (ps_if (pt_cmpR (op_neD hr.units) (pe_c c_least_module hr (by decide) (by rfl) (pa_cons (pv 1) (pa_cons (pv 6) pa_nil))) (pv 6) (nomark _)) (pss_one (ps_ret pe_bl)) pss_nil)
      (pss_cons (ps_set (i := 7) sc__law_least_right.nd rfl (by first | exact Or.inl rfl | exact Or.inr rfl) (pe_callB (cr_sortedSet rfl) (by rfl) B.sorted (by decide +kernel) (pa_cons (pe_callTy (cr_setI rfl) (by rfl) B.set (by decide +kernel) (pa_cons (pe_op op_cat (pv 4) (pe_lst (pa_cons (pe_c c__law_pick hr (by decide) (by rfl) (pa_cons (pv 0) (pa_cons (pe_ix ix_tup (pv 1) pe_int (fun _ _ => rfl)) pa_nil))) pa_nil))) pa_nil)) pa_nil)))
      (pss_cons (ps_if (pt_not (pt_val (pe_callB (cr_all rfl) (by rfl) B.all (by decide +kernel) (pa_cons (pe_lc (own := [("_law_place", 5)]) (g := (gName 5)) (tt := tYes) (te := (tOp (rIn K false) _ _)) rfl sc__law_least_right.nd (pi_list (pv 6)) (blkOk_by (own := [("_law_place", 5)]) (N := N__law_least_right) (sc := defScope s__law_least_right) (by decide +kernel)) (fun _ _ _ _ _ => (pg_name (i := 5) sc__law_least_right.nd rfl (by first | exact Or.inl rfl | exact Or.inr rfl))) (fun _ _ _ _ _ => pts_nil) (fun _ _ _ _ _ => (pe_cmpR op_in_seq (pv 5) (pe_c c_least_module hr (by decide) (by rfl) (pa_cons (pv 1) (pa_cons (pv 7) pa_nil))) (by rfl)))) pa_nil)))) (pss_one (ps_ret pe_bl)) pss_nil)
      (pss_one (ps_expr (pe_bm PySem.F.plainAttrs_list PySem.F.slot_list_append PySem.F.type_list_append mt_append (pv 2) (pa_cons (pv 6) pa_nil))))))))))))
    (pss_cons (ps_for PassesOwn.never rfl (pi_list (pv 2)) (pg_name (i := 8) sc__law_least_right.nd rfl (by first | exact Or.inl rfl | exact Or.inr rfl))
      (pss_one (ps_if (pt_not (pt_val (pe_callB (cr_all rfl) (by rfl) B.all (by decide +kernel) (pa_cons (pe_lc (own := [("_law_other", 9)]) (g := (gName 9)) (tt := tYes) rfl sc__law_least_right.nd (pi_list (pv 2)) (blkOk_by (own := [("_law_other", 9)]) (N := N__law_least_right) (sc := defScope s__law_least_right) (by decide +kernel)) (fun _ _ _ _ _ => (pg_name (i := 9) sc__law_least_right.nd rfl (by first | exact Or.inl rfl | exact Or.inr rfl))) (fun _ _ _ _ _ => pts_nil) (fun _ _ _ _ _ => (pe_c c__law_two_right hr (by decide) (by rfl) (pa_cons (pv 1) (pa_cons (pv 8) (pa_cons (pv 9) pa_nil)))))) pa_nil)))) (pss_one (ps_ret pe_bl)) pss_nil)))
    (pss_one (ps_ret pe_bl))))), ?_⟩
    obtain ⟨pw, qw, uw, rfl, ew, _⟩ := id hWeb
    refine ⟨Nat.zero_le _, fun Fd nF => ?_⟩
    have FdL := lf.ne nF
    have sF := same_new (o := .lst []) nF
    have lfF := lf.same sF
    have tgF := tabG_sameM tg sF
    have eF0 := upd_same (H := H) (a := Fd) (o := .lst [])
    generalize upd H Fd (.lst []) = HF at sF lfF tgF eF0 ⊢
    have FdP : Fd ≠ PM := fun z => by
      obtain ⟨ps, h1, _⟩ := tgF
      rw [z, h1] at eF0; cases eF0
    refine ⟨_, rfl, by decide, by decide, ?_⟩
    refine for_range (fun i σ H1 => ∃ y3 y4 y5 y6 y7 y8 y9 ws Fs, σ = [some (.ref L), some (.ref pw), some (.ref Fd), y3, y4, y5, y6, y7, y8, y9] ∧ FL PM L H H1 ∧ TabG H1 PM ∧ Lf H1 L (c + 1000 * (i : Int)) ∧ H1 Fd = some (.lst ws) ∧ All2 (LsI L Fd H1) ws Fs ∧ (∀ A ∈ Fs, Mdl n ts A) ∧ Fs.length = i) ⟨_, _, _, _, _, _, _, [], [], rfl, FL.same sF, tgF, lfF.mono (by omega), eF0, by exact trivial, fun A h => absurd h List.not_mem_nil, rfl⟩ ?_ ?_
    · rintro i σ H1 hi ⟨y3, y4, y5, y6, y7, y8, y9, ws, Fs, rfl, fl1, tg1, lf1, eF1, hA, hM, Fl⟩
      have hi' : i < 4 := hi
      have tst1 := fl1.tst tg lf
      have ew1 := tst1 _ _ ew
      -- places
      refine ⟨_, rfl, pw, _, 0, .int (n : Int), rfl, rfl, SqT.of ew1, atI_nat (j := 0) rfl, _, rfl, by omega, by omega, fun D nD => ?_⟩
      have DL := lf1.ne nD
      refine lc_range (fun j HX => ∃ ps : List Int, Fr L H1 HX ∧ Lf HX L (c + 1000 * (i : Int) + 2 * (j : Int)) ∧ HX D = some (.lst (ps.map V.int)) ∧ (∀ x ∈ ps, 0 ≤ x ∧ x < (n : Int)) ∧ ps.length ≤ j) ⟨[], Fr.new nD, (lf1.new nD).mono (by omega), upd_same, fun x h => absurd h List.not_mem_nil, Nat.le_refl _⟩ ?_ ?_
      · rintro j HX hj ⟨ps, frX, lfX, eD, pr, pl⟩
        have hj' : j < n := by omega
        refine ⟨rfl, _, rfl, by show 3 ≤ sizeLine; decide, fun z nz => ?_⟩
        refine ⟨_, rfl, L, 3, _, rfl, lfX.new nz, by decide, by decide, by omega, fun r HA r0 r1 frA lfA => ?_⟩
        have ez : HA z = some (.lst (([2, 3, 4] : List Int).map V.int)) := frA _ _ (lfX.ne nz) upd_same
        obtain ⟨x, ex, mx⟩ := at_mem (ns := [2, 3, 4]) (j := r) (by show -(3 : Int) ≤ r; omega) (by show r < (3 : Int); omega)
        have bx : 2 ≤ x ∧ x ≤ 4 := by
          simp only [List.mem_cons, List.not_mem_nil, or_false] at mx
          omega
        refine ⟨z, _, r, _, rfl, rfl, SqL.of ez, ex, L, x, _, rfl, lfA, by omega, by omega, by omega, fun r2 HB r20 r21 frB lfB => ?_⟩
        have frXB := ((Fr.new nz).trans frA).trans frB
        have eDB := frXB _ _ DL eD
        refine ⟨rfl, _, rfl, ite2 (fun _ => ?_) (fun _ => ?_)⟩
        · refine ⟨_, rfl, _, eDB, sz' (by rw [List.length_map]; omega), ps ++ [0 + (j : Int)], Fr.put (frX.trans frXB) nD, ?_, ?_, fun y hy => ?_, by rw [List.length_append]; exact Nat.succ_le_succ pl⟩
          · exact (lfB.put DL).mono (by omega)
          · rw [upd_same, List.map_append]; rfl
          · rcases List.mem_append.mp hy with k | k
            · exact pr y k
            · rw [List.mem_singleton.mp k]; omega
        · exact ⟨ps, frX.trans frXB, lfB.mono (by omega), eDB, pr, by omega⟩
      rintro HX ⟨ps, frX, lfX, eD, pr, pl⟩
      have en : ((n : Int)).toNat = n := Int.toNat_natCast n
      rw [en] at lfX pl
      have tgX := tab_frL tg1 lf1 frX
      have flX := fl1.trans (FL.fr (PM := PM) frX)
      have eFX := frX _ _ FdL eF1
      have DF : D ≠ Fd := fun z => by rw [z, eF1] at nD; cases nD
      have hAX : All2 (LsI L Fd HX) ws Fs := hA.imp fun _ _ ⟨q0, e, a, b, h⟩ => ⟨q0, e, a, b, frX _ _ a h⟩
      -- one at least
      refine ⟨fun σ HY => ∃ q0 qs, σ = [some (.ref L), some (.ref pw), some (.ref Fd), some (.int (0 + (i : Int))), some (.ref q0), y5, y6, y7, y8, y9] ∧ FL PM L H HY ∧ TabG HY PM ∧ Lf HY L (c + 1000 * (i : Int) + 100) ∧ HY Fd = some (.lst ws) ∧ All2 (LsI L Fd HY) ws Fs ∧ q0 ≠ L ∧ q0 ≠ Fd ∧ HY q0 = some (.lst (qs.map V.int)) ∧ (∀ x ∈ qs, 0 ≤ x ∧ x < (n : Int)) ∧ qs.length ≤ 12 ∧ qs ≠ [], ?_, ?_⟩
      · refine ⟨_, rfl, Nat.zero_le _, fun en nen => ?_⟩
        have se := same_new (o := .lst []) nen
        refine ⟨dI ps, dI [], .lst (SqL.of (se _ _ eD)) (dpI ps), .lst (SqL.of upd_same) (dpI []), shaped_dI ps, shaped_dI [], _, rfl, ?_⟩
        rw [eqv_dI2]
        have flE := flX.trans (FL.same (PM := PM) (L := L) se)
        have tgE := tabG_sameM tgX se
        have lfE := lfX.same se
        have eFE := se _ _ eFX
        have hAE : All2 (LsI L Fd _) ws Fs := hAX.imp fun _ _ ⟨q0, e, a, b, h⟩ => ⟨q0, e, a, b, se _ _ h⟩
        have eDE := se _ _ eD
        generalize upd HX en (.lst []) = HE at flE tgE lfE eFE hAE eDE ⊢
        by_cases hp : ps = []
        · rw [decide_eq_true hp]
          have ewE := (flE.tst tg lf) _ _ ew
          refine iteT ⟨_, rfl, _, rfl, pw, _, 0, .int (n : Int), rfl, rfl, SqT.of ewE, atI_nat (j := 0) rfl, L, n, _, rfl, lfE, by omega, by omega, by omega, fun r HA r0 r1 frA lfA => ⟨by show 1 ≤ sizeLine; decide, fun l nl => ?_⟩⟩
          have sl := same_new (o := .lst [.int r]) nl
          refine ⟨l, [r], rfl, (flE.trans (FL.fr frA)).trans (FL.same sl), tabG_sameM (tab_frL tgE lfE frA) sl, (lfA.same sl).mono (by omega), sl _ _ (frA _ _ FdL eFE), hAE.imp fun _ _ ⟨q0, e, a, b, h⟩ => ⟨q0, e, a, b, sl _ _ (frA _ _ a h)⟩, lfA.ne nl, (fun z => by rw [z, frA _ _ FdL eFE] at nl; cases nl), upd_same, fun x hx => by rw [List.mem_singleton.mp hx]; exact ⟨r0, r1⟩, by show 1 ≤ 12; decide, fun z => nomatch z⟩
        · rw [decide_eq_false hp]
          exact iteF ⟨D, ps, rfl, flE, tgE, lfE.mono (by omega), eFE, hAE, DL, DF, eDE, pr, by omega, hp⟩
      rintro σ H2 ⟨q0, qs, rfl, fl2, tg2, lf2, eF2, hA2, q0L, q0F, eq2, qr, ql, qne⟩
      have tst2 := fl2.tst tg lf
      -- least
      refine ⟨_, rfl, _, rfl, .ref pw, n, ts, q0, qs, rfl, hWeb.mono tst2, eq2, by omega, qr, by omega, fun Le r H3 nr s3 hLe er => ?_⟩
      have rL := lf2.ne nr
      have rF : r ≠ Fd := fun z => by rw [z, eF2] at nr; cases nr
      have mLe := hLe.mdl
      have lel := mLe.len
      have fl3 := fl2.trans (FL.same (PM := PM) (L := L) s3)
      have tg3 := tabG_sameM tg2 s3
      have lf3 := lf2.same s3
      have sub : ∀ x ∈ qs, x ∈ Le := hLe.lm.sub
      have lne : (!Le.isEmpty) = true := by
        obtain ⟨x, hx⟩ := List.exists_mem_of_ne_nil _ qne
        cases Le with
        | nil => exact absurd (sub x hx) List.not_mem_nil
        | cons _ _ => rfl
      refine ⟨_, rfl, _, rfl, .ref pw, n, ts, r, Le, rfl, hWeb.mono (fl3.tst tg lf), er, by omega, mLe.rng, by omega, tg3, fun L' H4 fr4 tg4 hL' => ?_⟩
      rw [hL'.uniq mLe.least, lne, Bool.true_and, decide_eq_true rfl]
      refine ⟨true, true, rfl, rfl, _, rfl, iteF ?_⟩
      have fl4 := fl3.trans (FL.tab (L := L) fr4)
      have lf4 : Lf H4 L _ := lf_tab lf3 fr4 tg3
      have er4 := frM_lst fr4 tg3 er
      have eq4 := frM_lst fr4 tg3 (s3 _ _ eq2)
      -- all there
      refine ⟨_, rfl, q0, rfl, ⟨_, SqL.of eq4⟩, fun M nM => ?_⟩
      refine wk (walk_list (K := K) (a := q0) (xs := qs.map V.int)) (fun j HX => Same H4 HX ∧ HX M = some (.lst ((List.replicate j true).map V.bl))) ⟨same_new nM, upd_same⟩ ?_ ?_ ?_
      · rintro j HX _ ⟨sX, _⟩
        exact SqL.of (sX _ _ eq4)
      · rintro j x HX HY hj ⟨sX, eM⟩ ⟨rfl, hx⟩
        rw [List.length_map] at hj
        rw [List.getElem?_map] at hx
        obtain ⟨a, ea, rfl⟩ := Option.map_eq_some_iff.mp hx
        refine ⟨rfl, yes ⟨_, rfl, _, rfl, r, _, rfl, .inl (SqL.of (sX _ _ er4)), rfl, all_flat _, ?_⟩⟩
        rw [inV_int, decide_eq_true (sub a (List.mem_of_getElem? ea))]
        refine ⟨_, eM, sz' (by rw [List.length_map, List.length_replicate]; omega), Same.put sX nM, ?_⟩
        rw [upd_same, List.replicate_succ', List.map_append]; rfl
      rintro H5 ⟨s5, eM⟩
      refine ⟨M, _, rfl, SqL.of eM, ?_⟩
      rw [all_repM]
      refine ⟨true, rfl, iteF ?_⟩
      have fl5 := fl4.trans (FL.same (PM := PM) (L := L) s5)
      have tg5 := tabG_sameM tg4 s5
      have lf5 := lf4.same s5
      have er5 := s5 _ _ er4
      have eq5 := s5 _ _ eq4
      -- the least one of it is itself
      refine ⟨_, rfl, _, rfl, .ref pw, n, ts, r, Le, rfl, hWeb.mono (fl5.tst tg lf), er5, by omega, mLe.rng, by omega, fun L2 r2 H6 nr2 s6 hL2 er2 => ?_⟩
      refine ⟨_, rfl, dI L2, dI Le, .lst (SqL.of er2) (dpI L2), .lst (SqL.of (s6 _ _ er5)) (dpI Le), shaped_dI L2, shaped_dI Le, _, rfl, ?_⟩
      rw [eqv_dI2, hL2.uniq mLe.least, decide_eq_true rfl]
      refine iteF ?_
      have fl6 := fl5.trans (FL.same (PM := PM) (L := L) s6)
      have tg6 := tabG_sameM tg5 s6
      have lf6 := lf5.same s6
      have er6 := s6 _ _ er5
      have eq6 := s6 _ _ eq5
      have ew6 := (fl6.tst tg lf) _ _ ew
      -- more
      refine ⟨_, rfl, _, rfl, _, rfl, pw, _, 0, .int (n : Int), rfl, rfl, SqT.of ew6, atI_nat (j := 0) rfl, L, n, _, rfl, lf6, by omega, by omega, by omega, fun a H7 a0 a1 fr7 lf7 => ⟨by show 1 ≤ sizeLine; decide, fun l nl => ?_⟩⟩
      have sl := same_new (o := .lst [.int a]) nl
      have eq7 := sl _ _ (fr7 _ _ q0L eq6)
      refine ⟨q0, l, _, _, rfl, rfl, eq7, upd_same, sz (by rw [List.length_map]; show qs.length + 1 ≤ _; omega), fun cc ncc => ?_⟩
      have scc := same_new (o := .lst (qs.map V.int ++ [.int a])) ncc
      refine ⟨cc, qs ++ [a], rfl, SqL.of (by rw [upd_same, List.map_append]; rfl), by rw [List.length_append, List.length_singleton]; unfold scanBound; omega, fun S k nS hk => ?_⟩
      have sS := same_new (o := SetO w S (fun j => decide (j ∈ qs ++ [a])) k) nS
      rw [List.length_append, List.length_singleton] at hk
      refine ⟨S, _, k, rfl, upd_same, by omega, fun C p cr cm cl np => ?_⟩
      have sp_ := same_new (o := .lst (C.map V.int)) np
      let H8 : Hp := upd (upd (upd (upd H7 l (.lst [.int a])) cc (.lst (qs.map V.int ++ [.int a]))) S (SetO w S (fun j => decide (j ∈ qs ++ [a])) k)) p (.lst (C.map V.int))
      have s8 : Same H7 H8 := ((sl.trans scc).trans sS).trans sp_
      have ep : H8 p = some (.lst (C.map V.int)) := upd_same
      have cm' : ∀ x, x ∈ C ↔ x ∈ qs ∨ x = a := fun x => by rw [cm x, decide_eq_true_iff, List.mem_append, List.mem_singleton]
      have fl8 := (fl6.trans (FL.fr (PM := PM) fr7)).trans (FL.same (PM := PM) (L := L) s8)
      have tg8 := tabG_sameM (tab_frL tg6 lf6 fr7) s8
      have lf8 := lf7.same s8
      have er8 := s8 _ _ (fr7 _ _ rL er6)
      have Cr : ∀ x ∈ C, 0 ≤ x ∧ x < (n : Int) := fun x hx => ((cm' x).mp hx).elim (qr x) fun z => by rw [z]; exact ⟨a0, a1⟩
      have Cl : C.length ≤ n := by
        have := nd_len (m := up n) (cr.imp fun h => Int.ne_of_lt h) fun x hx => mem_up.mpr (Cr x hx)
        rwa [up_len] at this
      refine ⟨_, rfl, r, rfl, ⟨_, SqL.of er8⟩, fun M2 nM2 => ?_⟩
      refine wk (walk_list (K := K) (a := r) (xs := Le.map V.int)) (fun j HX => Same H8 HX ∧ HX M2 = some (.lst ((List.replicate j true).map V.bl))) ⟨same_new nM2, upd_same⟩ ?_ ?_ ?_
      · rintro j HX _ ⟨sX, _⟩
        exact SqL.of (sX _ _ er8)
      · rintro j x HX HY hj ⟨sX, eM⟩ ⟨rfl, hx⟩
        rw [List.length_map] at hj
        rw [List.getElem?_map] at hx
        obtain ⟨b, eb, rfl⟩ := Option.map_eq_some_iff.mp hx
        have flX := fl8.trans (FL.same (PM := PM) (L := L) sX)
        refine ⟨rfl, yes ⟨_, rfl, _, rfl, _, rfl, .ref pw, n, ts, p, C, rfl, hWeb.mono (flX.tst tg lf), sX _ _ ep, by omega, Cr, by omega, fun L3 r3 HZ nr3 s3' hL3 er3 => ?_⟩⟩
        have mem := least_more hLe hL3 (fun x hx => (cm' x).mpr (.inl hx)) b (List.mem_of_getElem? eb)
        refine ⟨r3, _, rfl, .inl (SqL.of er3), rfl, all_flat _, ?_⟩
        rw [inV_int, decide_eq_true mem]
        refine ⟨_, s3' _ _ eM, sz' (by rw [List.length_map, List.length_replicate]; omega), Same.put (sX.trans s3') nM2, ?_⟩
        rw [upd_same, List.replicate_succ', List.map_append]; rfl
      rintro H9 ⟨s9, eM2⟩
      refine ⟨M2, _, rfl, SqL.of eM2, ?_⟩
      rw [all_repM]
      refine ⟨true, rfl, iteF ?_⟩
      have fl9 := fl8.trans (FL.same (PM := PM) (L := L) s9)
      have tg9 := tabG_sameM tg8 s9
      have lf9 := lf8.same s9
      have er9 := s9 _ _ er8
      have fl29 : FL PM L H2 H9 := ((((((FL.same s3).trans (FL.tab fr4)).trans (FL.same s5)).trans (FL.same s6)).trans (FL.fr fr7)).trans (FL.same s8)).trans (FL.same s9)
      have eF9 := fl29 _ _ FdL FdP eF2
      have hA9 : All2 (LsI L Fd H9) ws Fs := hA2.imp fun _ _ ⟨q1, e, x1, x2, h⟩ => ⟨q1, e, x1, x2, fl29.lst tg2 x1 h⟩
      have wl := hA.len
      refine ⟨_, rfl, .inl ⟨rfl, _, SqL.of eF9⟩, _, rfl, Fd, ws, .ref r, rfl, rfl, eF9, sz' (by omega), ?_⟩
      refine ⟨_, _, _, _, _, _, _, ws ++ [.ref r], Fs ++ [Le], rfl, ?_, ?_, ?_, upd_same, ?_, fun A hA' => ?_, by rw [List.length_append, Fl]; rfl⟩
      · exact fun b o x1 x2 e => by
          rw [upd_ne (fun z => by rw [z, nF] at e; cases e)]; exact fl9 b o x1 x2 e
      · obtain ⟨ps', h1, h2⟩ := tg9
        exact ⟨ps', by rw [upd_ne (Ne.symm FdP)]; exact h1, h2⟩
      · exact (lf9.put FdL).mono (by push_cast; omega)
      · refine All2.app (hA9.imp fun _ _ ⟨q1, e, x1, x2, h⟩ => ⟨q1, e, x1, x2, by rw [upd_ne x2]; exact h⟩) ⟨⟨r, rfl, rL, rF, by rw [upd_ne rF]; exact er9⟩, trivial⟩
      · rcases List.mem_append.mp hA' with z | z
        · exact hM A z
        · rw [List.mem_singleton.mp z]; exact mLe
    rintro σ H1 ⟨y3, y4, y5, y6, y7, y8, y9, ws, Fs, rfl, fl1, tg1, lf1, eF1, hA, hM, Fl⟩
    have wl := hA.len
    have hWeb1 := hWeb.mono (fl1.tst tg lf)
    -- each two
    refine ⟨_, rfl, Fd, rfl, ⟨_, SqL.of eF1⟩, ?_⟩
    refine for_it (walk_list (K := K) (a := Fd) (xs := ws)) (fun i σ H2 => ∃ y8 y9, σ = [some (.ref L), some (.ref pw), some (.ref Fd), y3, y4, y5, y6, y7, y8, y9] ∧ FrM [PM] H1 H2 ∧ TabG H2 PM) ⟨_, _, rfl, FrM.refl _ _, tg1⟩ ?_ ?_ ?_
    · rintro i σ H2 _ ⟨_, _, _, fr2, _⟩
      exact SqL.of (frM_lst fr2 tg1 eF1)
    · rintro i x σ H2 H3 hi ⟨y8, y9, rfl, fr2, tg2⟩ ⟨rfl, hx⟩
      obtain ⟨A1, eA1, q1, rfl, _, _, eq1⟩ := hA.at hx
      have eF2 := frM_lst fr2 tg1 eF1
      refine ⟨_, rfl, Fd, rfl, ⟨_, SqL.of eF2⟩, fun M nM => ?_⟩
      have MP : M ≠ PM := fun z => by
        obtain ⟨ps', h1, _⟩ := tg2
        rw [z, h1] at nM; cases nM
      refine wk (walk_list (K := K) (a := Fd) (xs := ws)) (fun j HX => FrM [PM] H3 HX ∧ TabG HX PM ∧ HX M = some (.lst ((List.replicate j true).map V.bl))) ⟨FrM.same (same_new nM), tabG_sameM tg2 (same_new nM), upd_same⟩ ?_ ?_ ?_
      · rintro j HX _ ⟨frX, _, _⟩
        exact SqL.of (frM_lst frX tg2 eF2)
      · rintro j x2 HX HY hj ⟨frX, tgX, eM⟩ ⟨rfl, hx2⟩
        obtain ⟨A2, eA2, q2, rfl, _, _, eq2⟩ := hA.at hx2
        have f1X := fr2.trans frX
        refine ⟨rfl, yes ⟨_, rfl, _, rfl, _, rfl, .ref pw, n, ts, q1, q2, A1, A2, rfl, hWeb1.mono (frM_tst f1X tg1), hn, frM_lst f1X tg1 eq1, frM_lst f1X tg1 eq2, hM A1 (List.mem_of_getElem? eA1), hM A2 (List.mem_of_getElem? eA2), tgX, fun HZ frZ tgZ => ?_⟩⟩
        have eMZ := frM_lst frZ tgX eM
        refine ⟨_, eMZ, sz' (by rw [List.length_map, List.length_replicate]; omega), (frX.trans frZ).putN nM, ?_, ?_⟩
        · obtain ⟨ps', h1, h2⟩ := tgZ
          exact ⟨ps', by rw [upd_ne (Ne.symm MP)]; exact h1, h2⟩
        · rw [upd_same, List.replicate_succ', List.map_append]; rfl
      rintro HX ⟨frX, tgX, eM⟩
      refine ⟨M, _, rfl, SqL.of eM, ?_⟩
      rw [all_repM]
      exact ⟨true, rfl, iteF ⟨_, _, rfl, fr2.trans frX, tgX⟩⟩
    · rintro σ H2 ⟨y8, y9, rfl, fr2, tg2⟩
      exact q H2 (fl1.trans (FL.tab fr2)) tg2 ((lf_tab lf1 fr2 tg1).mono (by show c + 1000 * ((4 : Nat) : Int) ≤ _; omega))
end
end My

set_option Elab.async false
set_option linter.all false
set_option maxRecDepth 100000
namespace My
open PySem PySem.Spec PyProof.Rows L2 GxR
section
variable {P : Program} {w : World} {K : PySem.W.Frag} {mg : Str → Option Value} {base : Heap}
/-! ### part_of -/
abbrev s_part_of : Stmt := topS 6
abbrev N_part_of : List Str := ["web", "places", "number_of", "number", "place", "ties", "a", "b"]
theorem sc_part_of : FnScope N_part_of ["web", "places"] (defScope s_part_of) := ⟨rfl, rfl, rfl, by decide +kernel, rfl, by decide +kernel, by decide +kernel⟩
def NumD (kvs : List (Key × V)) (pl : List Int) (i : Nat) : Prop := ∀ p : Int, valV kvs (Sum.inl p) = if p ∈ pl.take i then some (.int (pl.idxOf p : Int)) else none
theorem num_put {kvs : List (Key × V)} {pl : List Int} {i : Nat} {x : Int} (nd : pl.Nodup) (h : NumD kvs pl i) (e : pl[i]? = some x) : NumD (putK kvs (Sum.inl x) (.int (i : Int))) pl (i + 1) := fun p => by
  rw [valV_put, List.take_add_one, e]
  show _ = if p ∈ pl.take i ++ [x] then _ else _
  by_cases hp : p = x
  · subst hp
    rw [if_pos rfl, if_pos (List.mem_append_right _ (List.mem_singleton.mpr rfl)), idx_of nd e]
  · rw [if_neg (fun z => hp (Sum.inl.inj z)), h p]
    by_cases hm : p ∈ pl.take i
    · rw [if_pos hm, if_pos (List.mem_append_left _ hm)]
    · rw [if_neg hm, if_neg]
      intro z
      rcases List.mem_append.mp z with z | z
      · exact hm z
      · exact hp (List.mem_singleton.mp z)
theorem part_step (ts : List (Int × Int)) (t : Int × Int) (pl : List Int) : partL (ts ++ [t]) pl = partL ts pl ++ (if t.1 ∈ pl ∧ t.2 ∈ pl then [((pl.idxOf t.1 : Int), (pl.idxOf t.2 : Int))] else []) := by
  unfold partL
  rw [List.filter_append, List.map_append]
  congr 1
  by_cases h1 : t.1 ∈ pl <;> by_cases h2 : t.2 ∈ pl <;> simp [h1, h2]
def sp_part : Sp := fun vs H Q _ => ∃ (v : V) (n : Nat) (ts : List (Int × Int)) (pa : Addr) (pl : List Int), vs = [v, .ref pa] ∧ Web H v n ts ∧ ts.length ≤ 10000 ∧ H pa = some (.lst (pl.map V.int)) ∧ pl.Nodup ∧ pl.length ≤ 1000 ∧
  ∀ u H', Same H H' → Web H' u pl.length (partL ts pl) → Q u H'
theorem ok_part_of {f : Addr} {fd : FuncData} (B : Bts mg) (F : Fun K "part_of" "part_of" s_part_of f fd) : FnOk P w K mg base CX0 1 f fd ["web", "places"] sp_part := by
  refine F.ok sc_part_of (fun vs H Q E h => ?_) (fun cdv A outer s H vs Q E hr h => ?_)
  · obtain ⟨v, n, ts, pa, pl, rfl, _⟩ := h; rfl
  · obtain ⟨v, n, ts, pa, pl, rfl, ⟨p, q', us, rfl, ep, eq, hT⟩, hl, epa, nd, pll, q⟩ := h
    refine ⟨_, (pss_cons (ps_set (i := 2) sc_part_of.nd rfl (by first | exact Or.inl rfl | exact Or.inr rfl) (pe_dc (own := [("number", 3), ("place", 4)]) (g := (gTup K 2 (gCons (gName 3) (gCons (gName 4) gNil)))) (tt := tYes) rfl sc_part_of.nd (pi_enum (by rfl) B.enumerate (pa_cons (pv 1) pa_nil)) (blkOk_by (own := [("number", 3), ("place", 4)]) (N := N_part_of) (sc := defScope s_part_of) (by decide +kernel)) (fun _ _ _ _ _ => (pg_tup rfl (pgs_cons (pg_name (i := 3) sc_part_of.nd rfl (by first | exact Or.inl rfl | exact Or.inr rfl)) (pgs_cons (pg_name (i := 4) sc_part_of.nd rfl (by first | exact Or.inl rfl | exact Or.inr rfl)) pgs_nil)))) (fun _ _ _ _ _ => pts_nil) (fun _ _ _ _ _ => (pv 4)) (fun _ _ _ _ _ => (pv 3))))
    (pss_cons (ps_setLc (i := 5) (own := [("a", 6), ("b", 7)]) (g := (gTup K 2 (gCons (gName 6) (gCons (gName 7) gNil)))) rfl sc_part_of.nd rfl rfl (sw_true rfl rfl rfl (by decide +kernel)) (pi_tup (pe_ix ix_tup (pv 0) pe_int (fun _ _ => rfl))) (blkOk_by (own := [("a", 6), ("b", 7)]) (N := N_part_of) (sc := defScope s_part_of) (by decide +kernel)) (fun _ _ _ _ _ => (pg_tup rfl (pgs_cons (pg_name (i := 6) sc_part_of.nd rfl (by first | exact Or.inl rfl | exact Or.inr rfl)) (pgs_cons (pg_name (i := 7) sc_part_of.nd rfl (by first | exact Or.inl rfl | exact Or.inr rfl)) pgs_nil)))) (fun _ _ _ _ _ => (pts_one (PW.pt (pw_and (pt_cmp (pc_din (hu_of hr) (pv 6) (pv 2))) (pw_and1 (pt_cmp (pc_din (hu_of hr) (pv 7) (pv 2)))))))) (fun _ _ _ _ _ => (pe_tup (pa_cons (pe_dget (hu_of hr) (pv 2) (pv 6) (fun _ _ => rfl)) (pa_cons (pe_dget (hu_of hr) (pv 2) (pv 7) (fun _ _ => rfl)) pa_nil)))))
    (pss_one (ps_ret (pe_tup (pa_cons (pe_callB call_len_seq (by rfl) B.len (by decide +kernel) (pa_cons (pv 1) pa_nil)) (pa_cons (pe_callTy call_tuple_of (by rfl) B.tuple (by decide +kernel) (pa_cons (pv 5) pa_nil)) pa_nil))))))), ?_⟩
    refine ⟨_, rfl, pa, _, rfl, SqL.of epa, fun D nD => ?_⟩
    refine dc_it (walk_enum (K := K) (a := pa) (xs := pl.map V.int)) (fun i H1 => ∃ kvs, Same H H1 ∧ H1 D = some (.dK kvs) ∧ kvs.length ≤ i ∧ NumD kvs pl i) ⟨[], same_new nD, upd_same, Nat.le_refl _, fun p => by exact (if_neg (by simp)).symm⟩ ?_ ?_ ?_
    · rintro i H1 _ ⟨_, sm, _⟩
      exact SqL.of (sm _ _ epa)
    · rintro i x H1 H2 hi ⟨kvs, sm, eD, kl, hN⟩ ⟨T, x1, x2, rfl, nT, rfl, ex1, ex2⟩
      rw [List.length_map] at hi
      dsimp only at ex1 ex2
      cases ex1
      have e2 : x2 = .int pl[i] := by
        rw [List.getElem?_map, List.getElem?_eq_getElem hi] at ex2
        cases ex2; rfl
      subst e2
      refine ⟨T, _, rfl, SqT.of upd_same, rfl, _, _, rfl, _, _, rfl, rfl, rfl, yes ?_⟩
      have eD2 := (same_new (o := .tup [.int (i : Int), .int pl[i]]) nT) _ _ eD
      refine ⟨_, rfl, _, rfl, kvs, Sum.inl pl[i], rfl, eD2, sz' (by omega), _, Same.put (sm.trans (same_new nT)) nD, upd_same, ?_, num_put nd hN (List.getElem?_eq_getElem hi)⟩
      have := len_put kvs (Sum.inl pl[i]) (.int (i : Int))
      omega
    · rintro H1 ⟨kvs, sm, eD, kl, hN⟩
      rw [List.length_map] at hN
      have hN' : ∀ p : Int, valV kvs (Sum.inl p) = if p ∈ pl then some (.int (pl.idxOf p : Int)) else none := fun p => by
        have := hN p
        rwa [List.take_length] at this
      refine ⟨_, rfl, p, _, _, _, rfl, rfl, SqT.of (sm _ _ ep), rfl, q', rfl, ⟨_, SqT.of (sm _ _ eq)⟩, fun D2 nD2 => ?_⟩
      refine lc_tup (K := K) (a := q') (xs := us) (fun i H2 => ∃ ws, Same H1 H2 ∧ H2 D2 = some (.lst ws) ∧ Ties H2 ws (partL (ts.take i) pl)) ⟨[], same_new nD2, upd_same, by exact trivial⟩ ?_ ?_ ?_
      · rintro i H2 _ ⟨_, s2, _⟩
        exact SqT.of (s2 _ _ (sm _ _ eq))
      · rintro i x H2 hx ⟨ws, s2, eD2, hW⟩
        obtain ⟨t, et, ht⟩ := hT.at hx
        have hi : i < us.length := (List.getElem?_eq_some_iff.mp hx).1
        have hu := hT.len
        have wl := hW.len
        have wl2 := part_len (ts := ts.take i) (pl := pl)
        rw [List.length_take] at wl2
        obtain ⟨pt, rfl, ept⟩ := ht.mono (Same.tst (sm.trans s2))
        have eN2 := s2 _ _ eD
        have g1 := DGet.k (k := Sum.inl t.1) eN2
        have g2 := DGet.k (k := Sum.inl t.2) eN2
        rw [hN'] at g1 g2
        have tk : partL (ts.take (i + 1)) pl = partL (ts.take i) pl ++ (if t.1 ∈ pl ∧ t.2 ∈ pl then [((pl.idxOf t.1 : Int), (pl.idxOf t.2 : Int))] else []) := by
          rw [List.take_add_one, et]; exact part_step _ _ _
        refine ⟨pt, _, rfl, SqT.of ept, rfl, _, _, rfl, _, _, rfl, rfl, rfl, ?_⟩
        refine ⟨_, rfl, _, rfl, D, _, rfl, g1, _, rfl, ?_⟩
        by_cases m1 : t.1 ∈ pl
        · rw [if_pos m1] at g1 ⊢
          refine iteT ⟨_, rfl, _, rfl, D, _, rfl, g2, _, rfl, ?_⟩
          by_cases m2 : t.2 ∈ pl
          · rw [if_pos m2] at g2 ⊢
            refine iteT ⟨_, rfl, _, rfl, D, _, rfl, g1, _, rfl, _, rfl, D, _, rfl, g2, by show 2 ≤ sizeLine; decide, fun k nk => ?_⟩
            have e3 := (same_new (o := .tup [.int (pl.idxOf t.1 : Int), .int (pl.idxOf t.2 : Int)]) nk) _ _ eD2
            refine ⟨ws, e3, sz' (by omega), ws ++ [.ref k], Same.put (s2.trans (same_new nk)) nD2, upd_same, ?_⟩
            rw [tk, if_pos ⟨m1, m2⟩]
            exact Ties.mono (tst_put e3) ((hW.mono (tst_new nk)).app (Ties.one Tie.new))
          · rw [if_neg m2]
            refine iteF ⟨ws, s2, eD2, ?_⟩
            rw [tk, if_neg (fun z => m2 z.2), List.append_nil]
            exact hW
        · rw [if_neg m1]
          refine iteF (iteF ⟨ws, s2, eD2, ?_⟩)
          rw [tk, if_neg (fun z => m1 z.1), List.append_nil]
          exact hW
      · rintro H2 ⟨ws, s2, eD2, hW⟩
        rw [hT.len, List.take_length] at hW
        refine ⟨_, rfl, pa, _, rfl, .inl (SqL.of (s2 _ _ (sm _ _ epa))), ?_⟩
        refine ⟨_, rfl, D2, ws, rfl, .inl ⟨SqL.of eD2, fun t nt => ?_⟩⟩
        refine ⟨by show 2 ≤ sizeLine; decide, fun u nu => ?_⟩
        have s3 := (same_new (o := .tup ws) nt).trans (same_new (o := .tup [.int ((pl.map V.int).length : Int), .ref t]) nu)
        refine q _ _ ((sm.trans s2).trans s3) ⟨u, t, ws, rfl, ?_, ?_, hW.mono (Same.tst s3)⟩
        · rw [upd_same, List.length_map]
        · rw [upd_ne (ne_of_none upd_same nu)]; exact upd_same
end
end My

set_option Elab.async false
set_option linter.all false
set_option maxRecDepth 100000
namespace My
open PySem PySem.Spec PyProof.Rows L2 GxR

/-! ### a web put for a place -/
def oldO (pl m x : Int) : Int := if x < pl then x else if x < pl + m then pl else x - (m - 1)
theorem oldO_lo {pl m x : Int} (h : x < pl) : oldO pl m x = x := if_pos h
theorem oldO_in {pl m x : Int} (h : pl ≤ x) (k : x < pl + m) : oldO pl m x = pl := by
  unfold oldO; rw [if_neg (by omega), if_pos k]
theorem oldO_hi {pl m x : Int} (h : pl + m ≤ x) (k : 0 < m) : oldO pl m x = x - (m - 1) := by
  unfold oldO; rw [if_neg (by omega), if_neg (by omega)]
theorem oldO_cases {pl m x : Int} (k : 0 < m) : (x < pl ∧ oldO pl m x = x) ∨ (pl ≤ x ∧ x < pl + m ∧ oldO pl m x = pl) ∨ (pl + m ≤ x ∧ oldO pl m x = x - (m - 1)) := by
  by_cases h : x < pl
  · exact .inl ⟨h, oldO_lo h⟩
  · by_cases h2 : x < pl + m
    · exact .inr (.inl ⟨by omega, h2, oldO_in (by omega) h2⟩)
    · exact .inr (.inr ⟨by omega, oldO_hi (by omega) k⟩)
def nb (pl m : Nat) (a : Int) : List Int := if a = (pl : Int) then (up m).map fun x => (pl : Int) + x else [if a < (pl : Int) then a else a + m - 1]
theorem mem_nb {n m pl : Nat} {a x : Int} (hp : pl < n) (hm : 0 < m) (a0 : 0 ≤ a) (a1 : a < (n : Int)) : x ∈ nb pl m a ↔ 0 ≤ x ∧ x < (n : Int) + m - 1 ∧ oldO pl m x = a := by
  have c := oldO_cases (pl := pl) (m := m) (x := x) (by omega)
  unfold nb
  by_cases e : a = (pl : Int)
  · rw [if_pos e, List.mem_map]
    constructor
    · rintro ⟨y, hy, rfl⟩
      have := mem_up.mp hy
      omega
    · rintro ⟨h1, h2, h3⟩
      exact ⟨x - pl, mem_up.mpr (by omega), by omega⟩
  · rw [if_neg e, List.mem_singleton]
    by_cases l : a < (pl : Int)
    · rw [if_pos l]; omega
    · rw [if_neg l]; omega
theorem nb_nd (pl m : Nat) (a : Int) : (nb pl m a).Nodup := by
  unfold nb
  split
  · rw [List.nodup_iff_pairwise_ne, List.pairwise_map]
    exact (List.nodup_iff_pairwise_ne.mp (up_nodup m)).imp fun h e => h (by omega)
  · exact List.nodup_cons.mpr ⟨List.not_mem_nil, List.nodup_nil⟩
theorem nb_len {pl m : Nat} (h : 0 < m) (a : Int) : (nb pl m a).length ≤ m := by
  unfold nb
  split
  · rw [List.length_map, up_len]; exact Nat.le_refl _
  · exact h
def prd (as bs : List Int) : List (Int × Int) := as.flatMap fun x => bs.map fun y => (x, y)
theorem mem_prd {as bs : List Int} {t : Int × Int} : t ∈ prd as bs ↔ t.1 ∈ as ∧ t.2 ∈ bs := by
  unfold prd
  rw [List.mem_flatMap]
  constructor
  · rintro ⟨x, hx, h⟩
    obtain ⟨y, hy, rfl⟩ := List.mem_map.mp h
    exact ⟨hx, hy⟩
  · rintro ⟨h1, h2⟩
    exact ⟨t.1, h1, List.mem_map.mpr ⟨t.2, h2, rfl⟩⟩
theorem prd_len (as bs : List Int) : (prd as bs).length = as.length * bs.length := by
  unfold prd
  induction as with
  | nil => exact (Nat.zero_mul _).symm
  | cons a l ih => rw [List.flatMap_cons, List.length_append, ih, List.length_map, List.length_cons, Nat.succ_mul, Nat.add_comm]
theorem prd_nd {as bs : List Int} (h : as.Nodup) (k : bs.Nodup) : (prd as bs).Nodup := by
  unfold prd
  rw [List.nodup_iff_pairwise_ne, List.pairwise_flatMap]
  refine ⟨fun x _ => ?_, (List.nodup_iff_pairwise_ne.mp h).imp fun {x y} ne s hs t ht e => ?_⟩
  · rw [List.pairwise_map]
    exact (List.nodup_iff_pairwise_ne.mp k).imp fun ne e => ne (Prod.ext_iff.mp e).2
  · obtain ⟨_, _, rfl⟩ := List.mem_map.mp hs
    obtain ⟨_, _, rfl⟩ := List.mem_map.mp ht
    exact ne (Prod.ext_iff.mp e).1
theorem prd_step (as bs : List Int) (x : Int) : prd (as ++ [x]) bs = prd as bs ++ bs.map fun y => (x, y) := by
  unfold prd; rw [List.flatMap_append, List.flatMap_singleton]
def putL (ts is : List (Int × Int)) (pl m : Nat) : List (Int × Int) := is.map (fun t => ((pl : Int) + t.1, (pl : Int) + t.2)) ++ ts.flatMap fun t => prd (nb pl m t.1) (nb pl m t.2)
theorem putL_step (ts is : List (Int × Int)) (t : Int × Int) (pl m : Nat) : putL (ts ++ [t]) is pl m = putL ts is pl m ++ prd (nb pl m t.1) (nb pl m t.2) := by
  unfold putL; rw [List.flatMap_append, List.flatMap_singleton, List.append_assoc]
def PutM (n m pl : Nat) (ts is : List (Int × Int)) (t : Int × Int) : Prop := 0 ≤ t.1 ∧ t.1 < t.2 ∧ t.2 < (n : Int) + m - 1 ∧
  ((oldO pl m t.1 = pl ∧ oldO pl m t.2 = pl ∧ (t.1 - pl, t.2 - pl) ∈ is) ∨ (oldO pl m t.1, oldO pl m t.2) ∈ ts)
theorem mem_put {n m pl : Nat} {ts is : List (Int × Int)} (hp : pl < n) (hm : 0 < m) (hw : WOk n ts) (hi : WOk m is) {t : Int × Int} : t ∈ putL ts is pl m ↔ PutM n m pl ts is t := by
  unfold putL PutM
  have c1 := oldO_cases (pl := pl) (m := m) (x := t.1) (by omega)
  have c2 := oldO_cases (pl := pl) (m := m) (x := t.2) (by omega)
  rw [List.mem_append, List.mem_map, List.mem_flatMap]
  constructor
  · rintro (⟨s, hs, rfl⟩ | ⟨s, hs, h⟩)
    · have b := hi.2 s hs
      dsimp only at c1 c2 ⊢
      refine ⟨by omega, by omega, by omega, .inl ⟨by omega, by omega, ?_⟩⟩
      rw [show (pl : Int) + s.1 - pl = s.1 by omega, show (pl : Int) + s.2 - pl = s.2 by omega]; exact hs
    · have b := hw.2 s hs
      obtain ⟨h1, h2⟩ := mem_prd.mp h
      have m1 := (mem_nb hp hm (by omega) (by omega)).mp h1
      have m2 := (mem_nb hp hm (by omega) (by omega)).mp h2
      refine ⟨by omega, by omega, by omega, .inr ?_⟩
      rw [m1.2.2, m2.2.2]; exact hs
  · rintro ⟨h0, h1, h2, ⟨o1, o2, h⟩ | h⟩
    · refine .inl ⟨_, h, Prod.ext ?_ ?_⟩ <;> dsimp only <;> omega
    · have b := hw.2 _ h
      dsimp only at b
      exact .inr ⟨_, h, mem_prd.mpr ⟨(mem_nb hp hm (by omega) (by omega)).mpr ⟨h0, by omega, rfl⟩, (mem_nb hp hm (by omega) (by omega)).mpr ⟨by omega, h2, rfl⟩⟩⟩
theorem put_nd {n m pl : Nat} {ts is : List (Int × Int)} (hp : pl < n) (hm : 0 < m) (hw : WOk n ts) (hi : WOk m is) : (putL ts is pl m).Nodup := by
  have nd : ∀ {k : Nat} {l : List (Int × Int)}, WOk k l → l.Nodup := fun hk => List.nodup_iff_pairwise_ne.mpr (hk.1.imp fun {s t} h e => by subst e; exact ltT_irr h)
  unfold putL
  rw [List.nodup_append]
  refine ⟨?_, ?_, fun s hs t ht e => ?_⟩
  · rw [List.nodup_iff_pairwise_ne, List.pairwise_map]
    refine (List.nodup_iff_pairwise_ne.mp (nd hi)).imp fun {s t} ne e => ne ?_
    have := Prod.ext_iff.mp e
    dsimp only at this
    exact Prod.ext (by omega) (by omega)
  · rw [List.nodup_iff_pairwise_ne, List.pairwise_flatMap]
    refine ⟨fun t _ => List.nodup_iff_pairwise_ne.mp (prd_nd (nb_nd _ _ _) (nb_nd _ _ _)), (List.nodup_iff_pairwise_ne.mp (nd hw)).imp_of_mem fun {s t} hs ht ne x hx y hy e => ne ?_⟩
    subst e
    have bs := hw.2 s hs
    have bt := hw.2 t ht
    obtain ⟨h1, h2⟩ := mem_prd.mp hx
    obtain ⟨k1, k2⟩ := mem_prd.mp hy
    have m1 := (mem_nb hp hm (by omega) (by omega)).mp h1
    have m2 := (mem_nb hp hm (by omega) (by omega)).mp h2
    have m3 := (mem_nb hp hm (by omega) (by omega)).mp k1
    have m4 := (mem_nb hp hm (by omega) (by omega)).mp k2
    exact Prod.ext (m1.2.2.symm.trans m3.2.2) (m2.2.2.symm.trans m4.2.2)
  · subst e
    obtain ⟨r, hr, e⟩ := List.mem_map.mp hs
    obtain ⟨u, hu, h⟩ := List.mem_flatMap.mp ht
    have br := hi.2 r hr
    have bu := hw.2 u hu
    obtain ⟨h1, h2⟩ := mem_prd.mp h
    have m1 := (mem_nb hp hm (by omega) (by omega)).mp h1
    have m2 := (mem_nb hp hm (by omega) (by omega)).mp h2
    rw [← e] at m1 m2
    have o1 := oldO_in (pl := pl) (m := m) (x := (pl : Int) + r.1) (by omega) (by omega)
    have o2 := oldO_in (pl := pl) (m := m) (x := (pl : Int) + r.2) (by omega) (by omega)
    dsimp only at m1 m2
    omega
theorem put_len {n m pl : Nat} {ts is : List (Int × Int)} (hp : pl < n) (hm : 0 < m) (hw : WOk n ts) (hi : WOk m is) (hn : n + m ≤ 100) : (putL ts is pl m).length ≤ 10000 := by
  refine Nat.le_trans (nd_len (m := pup (n + m) (n + m)) (put_nd hp hm hw hi) fun t ht => ?_) (pup_len' hn (Nat.le_refl _))
  have := (mem_put hp hm hw hi).mp ht
  refine (mem_pup (Nat.le_refl _)).mpr ?_
  have h1 := this.1; have h2 := this.2.1; have h3 := this.2.2.1
  omega
theorem wok_take {n : Nat} {ts : List (Int × Int)} (h : WOk n ts) (i : Nat) : WOk n (ts.take i) := ⟨h.1.sublist (List.take_sublist _ _), fun t ht => h.2 t ((List.take_sublist _ _).subset ht)⟩

/-! ### the parts of it -/
def inL (pl m : Nat) : List Int := (up m).map fun x => (pl : Int) + x
theorem inL_rg (pl m : Nat) : rgV (pl : Int) ((pl : Int) + m) = (inL pl m).map V.int := by
  unfold rgV inL up
  rw [List.map_map, List.map_map]
  have : ((pl : Int) + m - pl).toNat = m := by omega
  rw [this]; rfl
theorem inL_get {pl m i : Nat} {x : Int} : (inL pl m)[i]? = some x ↔ i < m ∧ x = (pl : Int) + i := by
  unfold inL
  rw [List.getElem?_map]
  by_cases h : i < m
  · rw [up_get h]
    constructor
    · intro e; exact ⟨h, (Option.some.inj e).symm⟩
    · rintro ⟨_, rfl⟩; rfl
  · rw [List.getElem?_eq_none (by rw [up_len]; omega)]
    exact Iff.intro (fun e => by cases e) (fun e => absurd e.1 h)
theorem up_pw (n : Nat) : (up n).Pairwise (· < ·) := by
  unfold up
  rw [List.pairwise_map]
  exact List.pairwise_lt_range.imp fun {x y} h => Int.ofNat_lt.mpr h
theorem inL_ris {n pl m : Nat} (hp : pl < n) (hm : 0 < m) : Ris (n + m - 1) (inL pl m) := by
  refine ⟨?_, fun p hp' => ?_⟩
  · unfold inL
    rw [List.pairwise_map]
    exact (up_pw m).imp fun h => by omega
  · obtain ⟨x, hx, rfl⟩ := List.mem_map.mp hp'
    have := mem_up.mp hx
    constructor <;> omega
theorem inL_len (pl m : Nat) : (inL pl m).length = m := by unfold inL; rw [List.length_map, up_len]
theorem part_in {n m pl : Nat} {ts is rs : List (Int × Int)} (hp : pl < n) (hm : 0 < m) (hw : WOk n ts) (hi : WOk m is) (hr : WOk (n + m - 1) rs) (h : ∀ t, t ∈ rs ↔ PutM n m pl ts is t) : partL rs (inL pl m) = is := by
  refine pw_eq (part_pw (inL_ris hp hm) hr.1) hi.1 fun t => ?_
  rw [mem_part (inL_ris hp hm).nodup]
  constructor
  · rintro ⟨i, j, a, b, rfl, e1, e2, hab⟩
    obtain ⟨hi', rfl⟩ := inL_get.mp e1
    obtain ⟨hj', rfl⟩ := inL_get.mp e2
    obtain ⟨h0, h1, h2, ⟨o1, o2, z⟩ | z⟩ := (h _).mp hab
    · dsimp only at z
      rwa [show (pl : Int) + i - pl = i by omega, show (pl : Int) + j - pl = j by omega] at z
    · rw [oldO_in (by omega) (by omega), oldO_in (by omega) (by omega)] at z
      have := hw.2 _ z
      dsimp only at this; omega
  · intro m1
    have b := hi.2 t m1
    refine ⟨t.1.toNat, t.2.toNat, (pl : Int) + t.1, (pl : Int) + t.2, ?_, inL_get.mpr ⟨by omega, by omega⟩, inL_get.mpr ⟨by omega, by omega⟩, (h _).mpr ⟨?_, ?_, ?_, .inl ⟨oldO_in ?_ ?_, oldO_in ?_ ?_, ?_⟩⟩⟩
    · exact Prod.ext (by dsimp only; omega) (by dsimp only; omega)
    · dsimp only; omega
    · dsimp only; omega
    · dsimp only; omega
    · dsimp only; omega
    · dsimp only; omega
    · dsimp only; omega
    · dsimp only; omega
    · dsimp only
      rw [show (pl : Int) + t.1 - pl = t.1 by omega, show (pl : Int) + t.2 - pl = t.2 by omega]; exact m1
def outT (pl m : Nat) (one p : Int) : Bool := decide (p = one) || !decide ((pl : Int) ≤ p ∧ p < (pl : Int) + m)
def gOut (pl m : Nat) (one i : Int) : Int := if i < pl then i else if i = (pl : Int) then one else i + m - 1
theorem gOut_cases (pl m : Nat) (one i : Int) : (i < pl ∧ gOut pl m one i = i) ∨ (i = pl ∧ gOut pl m one i = one) ∨ ((pl : Int) < i ∧ gOut pl m one i = i + m - 1) := by
  unfold gOut
  by_cases h : i < (pl : Int)
  · rw [if_pos h]; exact .inl ⟨h, rfl⟩
  · by_cases k : i = (pl : Int)
    · rw [if_neg h, if_pos k]; exact .inr (.inl ⟨k, rfl⟩)
    · rw [if_neg h, if_neg k]; exact .inr (.inr ⟨by omega, rfl⟩)
theorem int_pw_eq : ∀ {as bs : List Int}, as.Pairwise (· < ·) → bs.Pairwise (· < ·) → (∀ t, t ∈ as ↔ t ∈ bs) → as = bs := fun ha hb h =>
  List.Perm.eq_of_pairwise (le := (· < ·)) (fun a b _ _ h1 h2 => by omega) ha hb ((List.perm_ext_iff_of_nodup (List.nodup_iff_pairwise_ne.mpr (ha.imp fun h e => by omega)) (List.nodup_iff_pairwise_ne.mpr (hb.imp fun h e => by omega))).mpr h)
theorem out_eq {n m pl : Nat} {one : Int} (hp : pl < n) (hm : 0 < m) (o0 : (pl : Int) ≤ one) (o1 : one < (pl : Int) + m) : (up (n + m - 1)).filter (outT pl m one) = (up n).map (gOut pl m one) := by
  refine int_pw_eq ((up_pw _).sublist List.filter_sublist) ?_ fun x => ?_
  · rw [List.pairwise_map]
    refine (up_pw n).imp fun {a b} h => ?_
    have c1 := gOut_cases pl m one a
    have c2 := gOut_cases pl m one b
    omega
  · rw [List.mem_filter, List.mem_map, mem_up]
    unfold outT
    rw [Bool.or_eq_true, decide_eq_true_eq, Bool.not_eq_true', decide_eq_false_iff_not]
    constructor
    · rintro ⟨⟨h0, h1⟩, h⟩
      refine ⟨oldO pl m x, mem_up.mpr ?_, ?_⟩
      · have c := oldO_cases (pl := pl) (m := m) (x := x) (by omega)
        constructor <;> omega
      · have c := oldO_cases (pl := pl) (m := m) (x := x) (by omega)
        have g := gOut_cases pl m one (oldO pl m x)
        omega
    · rintro ⟨i, hi, rfl⟩
      have := mem_up.mp hi
      have g := gOut_cases pl m one i
      omega
theorem old_gOut {n m pl : Nat} {one i : Int} (hp : pl < n) (hm : 0 < m) (o0 : (pl : Int) ≤ one) (o1 : one < (pl : Int) + m) : oldO pl m (gOut pl m one i) = i := by
  have c := oldO_cases (pl := pl) (m := m) (x := gOut pl m one i) (by omega)
  have g := gOut_cases pl m one i
  omega
def outL (n m pl : Nat) (one : Int) : List Int := (up (n + m - 1)).filter (outT pl m one)
theorem outL_ris {n m pl : Nat} {one : Int} : Ris (n + m - 1) (outL n m pl one) :=
  ⟨(up_pw _).sublist List.filter_sublist, fun p hp => mem_up.mp (List.mem_filter.mp hp).1⟩
theorem outL_len {n m pl : Nat} {one : Int} (hp : pl < n) (hm : 0 < m) (o0 : (pl : Int) ≤ one) (o1 : one < (pl : Int) + m) : (outL n m pl one).length = n := by
  unfold outL; rw [out_eq hp hm o0 o1, List.length_map, up_len]
theorem outL_get {n m pl i : Nat} {one x : Int} (hp : pl < n) (hm : 0 < m) (o0 : (pl : Int) ≤ one) (o1 : one < (pl : Int) + m) : (outL n m pl one)[i]? = some x ↔ i < n ∧ x = gOut pl m one i := by
  unfold outL
  rw [out_eq hp hm o0 o1, List.getElem?_map]
  by_cases h : i < n
  · rw [up_get h]
    constructor
    · intro e; exact ⟨h, (Option.some.inj e).symm⟩
    · rintro ⟨_, rfl⟩; rfl
  · rw [List.getElem?_eq_none (by rw [up_len]; omega)]
    exact Iff.intro (fun e => by cases e) (fun e => absurd e.1 h)
theorem part_out {n m pl : Nat} {one : Int} {ts is rs : List (Int × Int)} (hp : pl < n) (hm : 0 < m) (o0 : (pl : Int) ≤ one) (o1 : one < (pl : Int) + m) (hw : WOk n ts) (hi : WOk m is) (hr : WOk (n + m - 1) rs) (h : ∀ t, t ∈ rs ↔ PutM n m pl ts is t) : partL rs (outL n m pl one) = ts := by
  refine pw_eq (part_pw outL_ris hr.1) hw.1 fun t => ?_
  rw [mem_part outL_ris.nodup]
  constructor
  · rintro ⟨i, j, a, b, rfl, e1, e2, hab⟩
    obtain ⟨hi', rfl⟩ := (outL_get hp hm o0 o1).mp e1
    obtain ⟨hj', rfl⟩ := (outL_get hp hm o0 o1).mp e2
    obtain ⟨h0, h1, h2, ⟨p1, p2, z⟩ | z⟩ := (h _).mp hab
    · dsimp only at p1 p2 h1
      rw [old_gOut hp hm o0 o1] at p1 p2
      rw [p1, p2] at h1; omega
    · rwa [old_gOut hp hm o0 o1, old_gOut hp hm o0 o1] at z
  · intro m1
    have b := hw.2 t m1
    have c1 := gOut_cases pl m one t.1
    have c2 := gOut_cases pl m one t.2
    refine ⟨t.1.toNat, t.2.toNat, gOut pl m one t.1, gOut pl m one t.2, ?_, (outL_get hp hm o0 o1).mpr ⟨by omega, ?_⟩, (outL_get hp hm o0 o1).mpr ⟨by omega, ?_⟩, (h _).mpr ⟨?_, ?_, ?_, .inr ?_⟩⟩
    · exact Prod.ext (by dsimp only; omega) (by dsimp only; omega)
    · rw [Int.toNat_of_nonneg (by omega)]
    · rw [Int.toNat_of_nonneg (by omega)]
    · dsimp only; omega
    · dsimp only; omega
    · dsimp only; omega
    · dsimp only
      rw [old_gOut hp hm o0 o1, old_gOut hp hm o0 o1]; exact m1
theorem put_one {n pl : Nat} {ts rs : List (Int × Int)} (hp : pl < n) (hw : WOk n ts) (hr : WOk (n + 1 - 1) rs) (h : ∀ t, t ∈ rs ↔ PutM n 1 pl ts [] t) : rs = ts := by
  refine pw_eq hr.1 hw.1 fun t => ?_
  rw [h]
  have o : ∀ x : Int, oldO pl (1 : Nat) x = x := fun x => by
    have c := oldO_cases (pl := pl) (m := (1 : Nat)) (x := x) (by omega)
    omega
  unfold PutM
  rw [o, o]
  constructor
  · rintro ⟨_, _, _, ⟨_, _, z⟩ | z⟩
    · cases z
    · exact z
  · intro m1
    have b := hw.2 t m1
    exact ⟨b.1, b.2.1, by omega, .inr m1⟩
end My

set_option Elab.async false
set_option linter.all false
set_option maxRecDepth 100000
namespace My
open PySem PySem.Spec PyProof.Rows L2 GxR
section
variable {P : Program} {w : World} {K : PySem.W.Frag} {mg : Str → Option Value} {base : Heap}
/-! ### numbers_behind -/
abbrev s_numbers_behind : Stmt := topS 8
abbrev N_numbers_behind : List Str := ["old", "place", "size"]
theorem sc_numbers_behind : FnScope N_numbers_behind ["old", "place", "size"] (defScope s_numbers_behind) := ⟨rfl, rfl, rfl, by decide +kernel, rfl, by decide +kernel, by decide +kernel⟩
def sp_behind : Sp := fun vs H Q _ => ∃ (a : Int) (pl m : Nat), vs = [.int a, .int (pl : Int), .int (m : Int)] ∧ pl ≤ 1000 ∧ m ≤ 1000 ∧
  ∀ p, H p = none → Q (.ref p) (upd H p (.lst ((nb pl m a).map V.int)))
theorem ok_behind {f : Addr} {fd : FuncData} (B : Bts mg) (F : Fun K "numbers_behind" "numbers_behind" s_numbers_behind f fd) : FnOk P w K mg base CX0 1 f fd ["old", "place", "size"] sp_behind := by
  refine F.ok sc_numbers_behind (fun vs H Q E h => ?_) (fun cdv A outer s H vs Q E hr h => ?_)
  · obtain ⟨a, pl, m, rfl, _⟩ := h; rfl
  · obtain ⟨a, pl, m, rfl, h1, h2, q⟩ := h
    refine ⟨_, (pss_cons (ps_if (pt_cmpR op_eq (pv 0) (pv 1) (nomark _)) (pss_one (ps_ret (pe_listRg rfl (by rfl) B.list (prg_2 (by rfl) B.range (pv 1) (pe_op op_add (pv 1) (pv 2)))))) pss_nil)
    (pss_one (ps_ret (pe_lst (pa_cons (pe_ifExp (pt_cmpR op_lt (pv 0) (pv 1) (nomark _)) (pv 0) (pe_op op_sub (pe_op op_add (pv 0) (pv 2)) pe_int)) pa_nil))))), ?_⟩
    unfold nb at q
    refine ⟨_, rfl, _, rfl, rfl, _, rfl, ite2 (fun e => ?_) (fun e => ?_)⟩
    · have e' : a = (pl : Int) := by
        have := of_decide_eq_true e
        exact V.int.inj this
      rw [if_pos e'] at q
      refine ⟨_, rfl, _, rfl, _, rfl, _, _, rfl, rfl, _, _, rfl, rfl, RgOk.of_le (by omega) (by omega) (by omega) (by omega), ?_⟩
      rw [inL_rg]
      exact q
    · have e' : ¬ a = (pl : Int) := fun z => e (by rw [z]; exact decide_eq_true rfl)
      rw [if_neg e'] at q
      refine ⟨_, rfl, _, rfl, _, _, rfl, rfl, _, rfl, ite2 (fun e => ?_) (fun e => ?_)⟩
      · rw [if_pos (of_decide_eq_true e)] at q
        exact ⟨_, rfl, by show 1 ≤ sizeLine; decide, q⟩
      · rw [if_neg (fun z => e (decide_eq_true z))] at q
        refine ⟨_, rfl, _, rfl, _, _, rfl, rfl, _, _, rfl, rfl, by show 1 ≤ sizeLine; decide, q⟩

/-! ### put_for -/
abbrev s_put_for : Stmt := topS 7
abbrev N_put_for : List Str := ["web", "place", "other", "many", "ties", "size", "inner", "told", "a", "b", "firsts", "seconds", "first", "second"]
theorem sc_put_for : FnScope N_put_for ["web", "place", "other"] (defScope s_put_for) := ⟨rfl, rfl, rfl, by decide +kernel, rfl, by decide +kernel, by decide +kernel⟩
def sp_put : Sp := fun vs H Q _ => ∃ (v o : V) (n m pl : Nat) (ts is : List (Int × Int)), vs = [v, .int (pl : Int), o] ∧ Web H v n ts ∧ Web H o m is ∧ WOk n ts ∧ WOk m is ∧ pl < n ∧ 0 < m ∧ n + m ≤ 100 ∧
  ∀ u H' rs, Same H H' → Web H' u (n + m - 1) rs → WOk (n + m - 1) rs → (∀ t, t ∈ rs ↔ PutM n m pl ts is t) → Q u H'
theorem ok_put_for {f : Addr} {fd : FuncData} (B : Bts mg) (F : Fun K "put_for" "put_for" s_put_for f fd) (c_numbers_behind : Cl P w K mg base 1 "numbers_behind" sp_behind) : FnOk P w K mg base CX0 2 f fd ["web", "place", "other"] sp_put := by
  refine F.ok sc_put_for (fun vs H Q E h => ?_) (fun cdv A outer s H vs Q E hr h => ?_)
  · obtain ⟨v, o, n, m, pl, ts, is, rfl, _⟩ := h; rfl
  · obtain ⟨v, o, n, m, pl, ts, is, rfl, ⟨p, q', us, rfl, ep, eq, hT⟩, ⟨po, qo, is', rfl, epo, eqo, hI⟩, hW, hO, hpl, hm, hnm, q⟩ := h
    refine ⟨_, (pss_cons (ps_asg (pv 0) (pg_tup rfl (pgs_cons (pg_name (i := 3) sc_put_for.nd rfl (by first | exact Or.inl rfl | exact Or.inr rfl)) (pgs_cons (pg_name (i := 4) sc_put_for.nd rfl (by first | exact Or.inl rfl | exact Or.inr rfl)) pgs_nil))))
    (pss_cons (ps_asg (pv 2) (pg_tup rfl (pgs_cons (pg_name (i := 5) sc_put_for.nd rfl (by first | exact Or.inl rfl | exact Or.inr rfl)) (pgs_cons (pg_name (i := 6) sc_put_for.nd rfl (by first | exact Or.inl rfl | exact Or.inr rfl)) pgs_nil))))
    (pss_cons (ps_setLc (i := 7) (own := [("a", 8), ("b", 9)]) (g := (gTup K 2 (gCons (gName 8) (gCons (gName 9) gNil)))) (tt := tYes) rfl sc_put_for.nd rfl rfl (sw_true rfl rfl rfl (by decide +kernel)) (pi_tup (pv 6)) (blkOk_by (own := [("a", 8), ("b", 9)]) (N := N_put_for) (sc := defScope s_put_for) (by decide +kernel)) (fun _ _ _ _ _ => (pg_tup rfl (pgs_cons (pg_name (i := 8) sc_put_for.nd rfl (by first | exact Or.inl rfl | exact Or.inr rfl)) (pgs_cons (pg_name (i := 9) sc_put_for.nd rfl (by first | exact Or.inl rfl | exact Or.inr rfl)) pgs_nil)))) (fun _ _ _ _ _ => pts_nil) (fun _ _ _ _ _ => (pe_tup (pa_cons (pe_op op_add (pv 1) (pv 8)) (pa_cons (pe_op op_add (pv 1) (pv 9)) pa_nil)))))
    (pss_cons (ps_for PassesOwn.never rfl (pi_tup (pv 4)) (pg_tup rfl (pgs_cons (pg_name (i := 8) sc_put_for.nd rfl (by first | exact Or.inl rfl | exact Or.inr rfl)) (pgs_cons (pg_name (i := 9) sc_put_for.nd rfl (by first | exact Or.inl rfl | exact Or.inr rfl)) pgs_nil)))
      (pss_cons (ps_set (i := 10) sc_put_for.nd rfl (by first | exact Or.inl rfl | exact Or.inr rfl) (pe_c c_numbers_behind hr (by decide) (by rfl) (pa_cons (pv 8) (pa_cons (pv 1) (pa_cons (pv 5) pa_nil)))))
      (pss_cons (ps_set (i := 11) sc_put_for.nd rfl (by first | exact Or.inl rfl | exact Or.inr rfl) (pe_c c_numbers_behind hr (by decide) (by rfl) (pa_cons (pv 9) (pa_cons (pv 1) (pa_cons (pv 5) pa_nil)))))
      (pss_one (ps_expr (pe_bm PySem.F.plainAttrs_list PySem.F.slot_list_extend PySem.F.type_list_extend mt_extend (pv 7) (pa_cons (pe_lc2 (own := [("first", 12), ("second", 13)]) (vs1 := [13]) (g := (gName 12)) (g1 := (gName 13)) (tt := tYes) (tt1 := tYes) (wi1 := iList K (tVar 11)) rfl sc_put_for.nd (pi_list (pv 10)) (blkOk_by (own := [("first", 12), ("second", 13)]) (N := N_put_for) (sc := defScope s_put_for) (by decide +kernel)) (by decide) (fun _ _ _ _ _ => (pg_name (i := 12) sc_put_for.nd rfl (by first | exact Or.inl rfl | exact Or.inr rfl))) (fun _ _ _ _ _ => pts_nil) (fun _ _ _ _ _ => (pi_list (pv 11))) (fun _ _ _ _ _ => (pg_name (i := 13) sc_put_for.nd rfl (by first | exact Or.inl rfl | exact Or.inr rfl))) (fun _ _ _ _ _ => pts_nil) (fun _ _ _ _ _ => (pe_tup (pa_cons (pv 12) (pa_cons (pv 13) pa_nil))))) pa_nil)))))))
    (pss_one (ps_ret (pe_tup (pa_cons (pe_op op_sub (pe_op op_add (pv 3) (pv 5)) pe_int) (pa_cons (pe_callTy call_tuple_of (by rfl) B.tuple (by decide +kernel) (pa_cons (pe_callB cr_sortedPO (by rfl) B.sorted (by decide +kernel) (pa_cons (pv 7) pa_nil)) pa_nil)) pa_nil))))))))), ?_⟩
    have tl := wok_len hW (by omega)
    have il := wok_len hO (by omega)
    refine ⟨_, rfl, p, _, rfl, SqT.of ep, rfl, _, _, rfl, _, _, rfl, rfl, ?_⟩
    refine ⟨_, rfl, po, _, rfl, SqT.of epo, rfl, _, _, rfl, _, _, rfl, rfl, ?_⟩
    refine ⟨_, rfl, qo, rfl, ⟨_, SqT.of eqo⟩, fun D nD => ?_⟩
    refine wk (walk_tup (K := K) (a := qo) (xs := is')) (fun i H1 => ∃ ws, Same H H1 ∧ H1 D = some (.lst ws) ∧ Ties H1 ws ((is.take i).map fun t => ((pl : Int) + t.1, (pl : Int) + t.2))) ⟨[], same_new nD, upd_same, by exact trivial⟩ ?_ ?_ ?_
    · rintro i H1 _ ⟨_, sm, _⟩
      exact SqT.of (sm _ _ eqo)
    · rintro i x H1 H2 hi ⟨ws, sm, eD, hR⟩ ⟨rfl, hx⟩
      obtain ⟨t, et, ht⟩ := hI.at hx
      have hu := hI.len
      obtain ⟨pt, rfl, ept⟩ := ht.mono (Same.tst sm)
      have wl := hR.len
      rw [List.length_map, List.length_take] at wl
      refine ⟨pt, _, rfl, SqT.of ept, rfl, _, _, rfl, _, _, rfl, rfl, rfl, yes ?_⟩
      refine ⟨_, rfl, _, rfl, _, _, rfl, rfl, _, rfl, _, rfl, _, _, rfl, rfl, by show 2 ≤ sizeLine; decide, fun k nk => ?_⟩
      have sk := same_new (o := .tup [.int ((pl : Int) + t.1), .int ((pl : Int) + t.2)]) nk
      have e3 := sk _ _ eD
      refine ⟨ws, e3, sz' (by omega), ws ++ [.ref k], Same.put (sm.trans sk) nD, upd_same, ?_⟩
      rw [List.take_add_one, et, List.map_append]
      exact Ties.mono (tst_put e3) ((hR.mono (Same.tst sk)).app (Ties.one Tie.new))
    · rintro H1 ⟨ws, sm, eD, hR⟩
      rw [hI.len, List.take_length] at hR
      refine ⟨_, rfl, q', rfl, ⟨_, SqT.of (sm _ _ eq)⟩, ?_⟩
      refine for_tup (K := K) (a := q') (xs := us) (fun i σ H2 => ∃ ws y8 y9 y10 y11, σ = [some (.ref p), some (.int (pl : Int)), some (.ref po), some (.int (n : Int)), some (.ref q'), some (.int (m : Int)), some (.ref qo), some (.ref D), y8, y9, y10, y11, none, none] ∧ Same H H2 ∧ H2 D = some (.lst ws) ∧ Ties H2 ws (putL (ts.take i) is pl m))
        ⟨ws, none, none, none, none, rfl, sm, eD, by unfold putL; rw [List.take_zero, List.flatMap_nil, List.append_nil]; exact hR⟩ ?_ ?_ ?_
      · rintro i σ H2 _ ⟨_, _, _, _, _, _, s2, _⟩
        exact SqT.of (s2 _ _ eq)
      · rintro i x σ H2 hx ⟨ws, y8, y9, y10, y11, rfl, s2, eD2, hP⟩
        obtain ⟨t, et, ht⟩ := hT.at hx
        obtain ⟨pt, rfl, ept⟩ := ht.mono (Same.tst s2)
        have pl1 := put_len hpl hm (wok_take hW i) hO hnm
        have la := nb_len (pl := pl) hm t.1
        have lb := nb_len (pl := pl) hm t.2
        refine ⟨pt, _, rfl, SqT.of ept, rfl, _, _, rfl, _, _, rfl, rfl, ?_⟩
        refine ⟨_, rfl, _, rfl, _, rfl, t.1, pl, m, rfl, by omega, by omega, fun fa nfa => ?_⟩
        have s3 := same_new (o := .lst ((nb pl m t.1).map V.int)) nfa
        refine ⟨_, rfl, _, rfl, _, rfl, t.2, pl, m, rfl, by omega, by omega, fun fb nfb => ?_⟩
        have s4 := same_new (o := .lst ((nb pl m t.2).map V.int)) nfb
        have efa := s4 _ _ (upd_same (H := H2) (a := fa) (o := .lst ((nb pl m t.1).map V.int)))
        have efb := upd_same (H := upd H2 fa (.lst ((nb pl m t.1).map V.int))) (a := fb) (o := .lst ((nb pl m t.2).map V.int))
        have s24 := s3.trans s4
        generalize upd (upd H2 fa (.lst ((nb pl m t.1).map V.int))) fb (.lst ((nb pl m t.2).map V.int)) = H4 at s4 efa efb s24 ⊢
        have eD4 := s24 _ _ eD2
        refine ⟨_, rfl, .inl ⟨rfl, _, SqL.of eD4⟩, _, rfl, fa, rfl, ⟨_, SqL.of efa⟩, fun E nE => ?_⟩
        refine wk (walk_list (K := K) (a := fa) (xs := (nb pl m t.1).map V.int)) (fun i H5 => ∃ vs, Same H4 H5 ∧ H5 E = some (.lst vs) ∧ Ties H5 vs (prd ((nb pl m t.1).take i) (nb pl m t.2))) ⟨[], same_new nE, upd_same, by exact trivial⟩ ?_ ?_ ?_
        · rintro i H5 _ ⟨_, s5, _⟩
          exact SqL.of (s5 _ _ efa)
        · rintro i x H5 H6 hi ⟨vs, s5, eE, hV⟩ ⟨rfl, hx⟩
          rw [List.length_map] at hi
          rw [List.getElem?_map, List.getElem?_eq_getElem hi] at hx
          cases hx
          refine ⟨rfl, yes ⟨_, rfl, fb, rfl, ⟨_, SqL.of (s5 _ _ efb)⟩, ?_⟩⟩
          refine wk (walk_list (K := K) (a := fb) (xs := (nb pl m t.2).map V.int)) (fun j H6 => ∃ vs, Same H4 H6 ∧ H6 E = some (.lst vs) ∧ Ties H6 vs (prd ((nb pl m t.1).take i) (nb pl m t.2) ++ ((nb pl m t.2).take j).map fun y => ((nb pl m t.1)[i], y))) ⟨vs, s5, eE, by exact (List.append_nil (prd ((nb pl m t.1).take i) (nb pl m t.2))).symm ▸ hV⟩ ?_ ?_ ?_
          · rintro j H6 _ ⟨_, s6, _⟩
            exact SqL.of (s6 _ _ efb)
          · rintro j x H6 H7 hj ⟨vs, s6, eE6, hV6⟩ ⟨rfl, hx⟩
            rw [List.length_map] at hj
            rw [List.getElem?_map, List.getElem?_eq_getElem hj] at hx
            cases hx
            have vl := hV6.len
            rw [List.length_append, prd_len, List.length_map, List.length_take, List.length_take] at vl
            have bound : min i (nb pl m t.1).length * (nb pl m t.2).length ≤ 100 * 100 := Nat.mul_le_mul (by omega) (by omega)
            refine ⟨rfl, yes ?_⟩
            refine ⟨_, rfl, _, rfl, by show 2 ≤ sizeLine; decide, fun k nk => ?_⟩
            have sk := same_new (o := .tup [.int (nb pl m t.1)[i], .int (nb pl m t.2)[j]]) nk
            have e3 := sk _ _ eE6
            refine ⟨vs, e3, sz' (by omega), vs ++ [.ref k], Same.put (s6.trans sk) nE, upd_same, ?_⟩
            rw [List.take_add_one, List.getElem?_eq_getElem hj, List.map_append, ← List.append_assoc]
            exact Ties.mono (tst_put e3) ((hV6.mono (Same.tst sk)).app (Ties.one Tie.new))
          · rintro H6 ⟨vs, s6, eE6, hV6⟩
            rw [List.length_map, List.take_length] at hV6
            refine ⟨vs, s6, eE6, ?_⟩
            rw [List.take_add_one, List.getElem?_eq_getElem hi]
            exact (prd_step _ _ _).symm ▸ hV6
        · rintro H5 ⟨vs, s5, eE, hV⟩
          rw [List.length_map, List.take_length] at hV
          have eD5 := s5 _ _ eD4
          have vl := hV.len
          rw [prd_len] at vl
          have bound : (nb pl m t.1).length * (nb pl m t.2).length ≤ 100 * 100 := Nat.mul_le_mul (by omega) (by omega)
          have s25 := s24.trans s5
          refine ⟨D, E, ws, vs, rfl, rfl, eD5, eE, sz (by rw [hP.len]; omega), ?_⟩
          refine ⟨ws ++ vs, _, _, _, _, rfl, Same.put (s2.trans s25) nD, upd_same, ?_⟩
          rw [List.take_add_one, et]
          exact (putL_step (ts.take i) is t pl m).symm ▸ Ties.mono (tst_put eD5) ((hP.mono (Same.tst s25)).app hV)
      · rintro σ H2 ⟨ws, y8, y9, y10, y11, rfl, s2, eD2, hP⟩
        rw [hT.len, List.take_length] at hP
        refine ⟨_, rfl, _, rfl, _, _, rfl, rfl, _, _, rfl, rfl, ?_⟩
        refine ⟨_, rfl, D, ws, My.key H2, rfl, SqL.of eD2, hP.all, fun ys y hs hst np => ?_⟩
        obtain ⟨rs, hT', pm', pw⟩ := srt_ties hs hst.perm hP
        refine ⟨y, ys, rfl, .inl ⟨SqL.of upd_same, fun t nt => ?_⟩⟩
        refine ⟨by show 2 ≤ sizeLine; decide, fun u nu => ?_⟩
        have en : (n : Int) + (m : Int) - 1 = ((n + m - 1 : Nat) : Int) := by omega
        have s9 := ((same_new (H := H2) (o := .lst ys) np).trans (same_new (o := .tup ys) nt)).trans (same_new (o := .tup [.int ((n : Int) + (m : Int) - 1), .ref t]) nu)
        have mm : ∀ t, t ∈ rs ↔ PutM n m pl ts is t := fun t => pm'.mem_iff.trans (mem_put hpl hm hW hO)
        refine q _ _ rs (s2.trans s9) ⟨u, t, ys, rfl, ?_, ?_, hT'.mono (Same.tst s9)⟩ ⟨pw_lt pw (pm'.nodup_iff.mpr (put_nd hpl hm hW hO)), fun t ht => ?_⟩ mm
        · rw [upd_same]; exact congrArg (fun z => some (HO.tup [V.int z, V.ref t])) en
        · rw [upd_ne (ne_of_none upd_same nu)]; exact upd_same
        · have z := (mm t).mp ht
          exact ⟨z.1, z.2.1, by have := z.2.2.1; omega⟩
end
end My

set_option Elab.async false
set_option linter.all false
set_option maxRecDepth 100000
set_option pp.maxSteps 400
set_option maxHeartbeats 4000000
namespace My
open PySem PySem.Spec PyProof.Rows L2 GxR
theorem cut_sub {xs : List V} {lo hi : Option Int} : ∀ x ∈ cutV xs lo hi, x ∈ xs := fun x hx => by
  unfold cutV at hx
  exact List.mem_of_mem_drop (List.mem_of_mem_take hx)
theorem cut_none {xs : List V} {m : Nat} {hi : Option Int} (h : xs.length ≤ m) : cutV xs (some (m : Int)) hi = [] := by
  unfold cutV
  rw [HT.sIx_nat, Nat.min_eq_right h, List.drop_length, List.take_nil]
section
variable {P : Program} {w : World} {K : PySem.W.Frag} {mg : Str → Option Value} {base : Heap}
/-! ### _law_folded -/
abbrev s__law_folded : Stmt := topS 18
abbrev N__law_folded : List Str := ["_law_script", "_law_many", "_law_cells", "_law_k", "_law_cell"]
theorem sc__law_folded : FnScope N__law_folded ["_law_script", "_law_many"] (defScope s__law_folded) := ⟨rfl, rfl, rfl, by decide +kernel, rfl, by decide +kernel, by decide +kernel⟩
def sp_folded (K : PySem.W.Frag) : Sp := fun vs H Q _ => ∃ (a : Addr) (ns : List Int) (m : Nat), vs = [.ref a, .int (m : Int)] ∧ SqL K H a (ns.map V.int) ∧ ns.length ≤ 63 ∧ 1 ≤ m ∧ m ≤ 63 ∧
  ∀ (C : Addr) (cs : List Int) (H' : Hp), H C = none → Same H H' → H' C = some (.lst (cs.map V.int)) → cs.length = min m ns.length → Q (.ref C) H'
theorem ok_folded {f : Addr} {fd : FuncData} (B : Bts mg) (F : Fun K "_law_folded" "_law_folded" s__law_folded f fd) : FnOk P w K mg base CX0 1 f fd ["_law_script", "_law_many"] (sp_folded K) := by
  refine F.ok sc__law_folded (fun vs H Q E h => ?_) (fun cdv A outer s H vs Q E hr h => ?_)
  · obtain ⟨a, ns, m, rfl, _⟩ := h; rfl
  · obtain ⟨a, ns, m, rfl, hS, nl, m1, m63, q⟩ := h
    refine ⟨_, (pss_cons (ps_set (i := 2) sc__law_folded.nd rfl (by first | exact Or.inl rfl | exact Or.inr rfl) (pe_callTy call_list_of (by rfl) B.list (by decide +kernel) (pa_cons (pe_slice sl_list (pv 0) po_none (po_some (pv 1))) pa_nil)))
    (pss_cons (ps_for PassesOwn.never rfl (pi_enum (by rfl) B.enumerate (pa_cons (pe_slice sl_list (pv 0) (po_some (pv 1)) (po_some pe_int)) pa_nil)) (pg_tup rfl (pgs_cons (pg_name (i := 3) sc__law_folded.nd rfl (by first | exact Or.inl rfl | exact Or.inr rfl)) (pgs_cons (pg_name (i := 4) sc__law_folded.nd rfl (by first | exact Or.inl rfl | exact Or.inr rfl)) pgs_nil)))
      (pss_one (ps_asg (pe_op op_add (pe_ix ix_list (pv 2) (pe_op op_mod (pv 3) (pv 1)) (fun _ _ => rfl)) (pe_op op_mul (pv 4) (pe_op op_add (pv 3) pe_int))) (pg_sub (pv 2) (pe_op op_mod (pv 3) (pv 1)) set_list))))
    (pss_one (ps_ret (pv 2))))), ?_⟩
    refine ⟨_, rfl, _, rfl, _, rfl, a, _, rfl, hS, fun A1 nA1 => ?_⟩
    rw [cutTo, ← List.map_take]
    have s1 := same_new (o := .lst ((ns.take m).map V.int)) nA1
    refine ⟨A1, _, rfl, .inl (SqL.of upd_same), fun C nC => ?_⟩
    have sC := same_new (o := .lst ((ns.take m).map V.int)) nC
    have s2 := s1.trans sC
    have nC0 : H C = none := same_free s1 nC
    have eC := upd_same (H := upd H A1 (.lst ((ns.take m).map V.int))) (a := C) (o := .lst ((ns.take m).map V.int))
    generalize upd (upd H A1 (.lst ((ns.take m).map V.int))) C (.lst ((ns.take m).map V.int)) = H2 at s2 eC ⊢
    refine ⟨_, rfl, _, rfl, _, rfl, _, rfl, a, _, rfl, sq_same s2 hS, fun A3 nA3 => ?_⟩
    have sub : ∀ x ∈ cutV (ns.map V.int) (some (m : Int)) (some 63), x ∈ ns.map V.int := cut_sub
    have non : ns.length ≤ m → cutV (ns.map V.int) (some (m : Int)) (some 63) = [] := fun h => cut_none (by rw [List.length_map]; exact h)
    have cl := cutV_length (ns.map V.int) (some (m : Int)) (some 63)
    rw [List.length_map] at cl
    generalize cutV (ns.map V.int) (some (m : Int)) (some 63) = xs at sub non cl ⊢
    have s3 := same_new (o := .lst xs) nA3
    have eA3 := upd_same (H := H2) (a := A3) (o := .lst xs)
    have s03 := s2.trans s3
    have eC3 := s3 _ _ eC
    have CA : A3 ≠ C := fun z => by rw [z, eC] at nA3; cases nA3
    generalize upd H2 A3 (.lst xs) = H3 at s3 eA3 s03 eC3 ⊢
    refine ⟨A3, _, rfl, SqL.of eA3, ?_⟩
    refine for_it (walk_enum (K := K) (a := A3) (xs := xs)) (fun i σ H4 => ∃ cs y3 y4, σ = [some (.ref a), some (.int (m : Int)), some (.ref C), y3, y4] ∧ Same H H4 ∧ H4 A3 = some (.lst xs) ∧ H4 C = some (.lst (cs.map V.int)) ∧ cs.length = min m ns.length) ⟨ns.take m, _, _, rfl, s03, eA3, eC3, List.length_take ..⟩ ?_ ?_ ?_
    · rintro i σ H4 _ ⟨_, _, _, _, _, e4, _⟩
      exact SqL.of e4
    · rintro i z σ H4 H5 hi ⟨cs, y3, y4, rfl, s4, eA4, eC4, cl4⟩ ⟨T, x1, x2, rfl, nT, rfl, ex1, ex2⟩
      cases ex1
      dsimp only at ex2
      obtain ⟨cell, _, rfl⟩ := List.mem_map.mp (sub _ (List.mem_of_getElem? ex2))
      have lm : m < ns.length := by
        rcases Nat.lt_or_ge m ns.length with w | w
        · exact w
        · rw [non w] at hi; exact absurd hi (Nat.not_lt_zero _)
      have sT := same_new (o := .tup [.int ((i : Nat) : Int), .int cell]) nT
      have eC5 := sT _ _ eC4
      refine ⟨T, _, rfl, SqT.of upd_same, rfl, _, _, rfl, _, _, rfl, rfl, ?_⟩
      have s5 := s4.trans sT
      have eA5 := sT _ _ eA4
      generalize upd H4 T (.tup [.int ((i : Nat) : Int), .int cell]) = H5 at eC5 s5 eA5 ⊢
      obtain ⟨r, er⟩ : ∃ r : Nat, ((i : Nat) : Int) % (m : Int) = (r : Int) := ⟨i % m, by omega⟩
      have rm : r < m := by
        have := Int.emod_lt_of_pos ((i : Nat) : Int) (show (0 : Int) < (m : Int) by omega)
        omega
      have hr' : r < cs.length := by omega
      have gr : (cs.map V.int)[r]? = some (.int cs[r]) := by rw [List.getElem?_map, List.getElem?_eq_getElem hr']; rfl
      have mp : (0 : Int) < (m : Int) := by omega
      refine ⟨_, rfl, _, rfl, _, rfl, _, _, rfl, rfl, mp, ?_⟩
      have ixr : ixN (cs.map V.int).length (((i : Nat) : Int) % (m : Int)) = some r := by
        rw [er, List.length_map]
        unfold ixN
        rw [if_pos (by omega), if_pos (by omega), Int.toNat_natCast]
      refine ⟨C, _, ((i : Nat) : Int) % (m : Int), _, rfl, rfl, SqL.of eC5, by rw [er]; exact atI_nat gr, ?_⟩
      refine ⟨_, rfl, _, rfl, _, _, rfl, rfl, _, _, rfl, rfl, .inr ⟨by omega, by omega⟩, _, _, rfl, rfl, ?_⟩
      refine ⟨_, rfl, _, rfl, _, rfl, _, _, rfl, rfl, mp, C, _, _, r, rfl, rfl, eC5, ixr, ?_⟩
      refine ⟨cs.set r (cs[r] + cell * (((i : Nat) : Int) + 2)), _, _, rfl, Same.put s5 nC0, by rw [upd_ne CA]; exact eA5, ?_, by rw [List.length_set]; exact cl4⟩
      rw [upd_same, List.map_set]
    · rintro σ H4 ⟨cs, y3, y4, rfl, s4, eA4, eC4, cl4⟩
      exact ⟨_, rfl, q C cs H4 nC0 s4 eC4 cl4⟩
end
end My

set_option Elab.async false
set_option linter.all false
set_option maxRecDepth 100000
namespace My
open PySem PySem.Spec PyProof.Rows L2 GxR
/-! ### modules of a web with another one put for a place -/
theorem tieO_ltM {a b : Int} (h : a < b) : tieO a b = (a, b) := if_pos h
theorem adj_lt {ts : List (Int × Int)} {x y : Int} (h : x < y) : adjB ts x y = decide ((x, y) ∈ ts) := by
  unfold adjB; rw [tieO_ltM h]
theorem adj_irr {n : Nat} {ts : List (Int × Int)} (hW : WOk n ts) (x : Int) : adjB ts x x = false := by
  unfold adjB tieO
  refine decide_eq_false fun h => ?_
  rw [if_neg (Int.lt_irrefl x)] at h
  have := (hW.2 _ h).2.1
  dsimp only at this
  omega
section
variable {n m pl : Nat} {ts is rs : List (Int × Int)} (hp : pl < n) (hm : 0 < m) (hw : WOk n ts) (hi : WOk m is) (hr : WOk (n + m - 1) rs) (h : ∀ t, t ∈ rs ↔ PutM n m pl ts is t)
include hp hm hw hi hr h
theorem adj_made1 {x y : Int} (x0 : 0 ≤ x) (xy : x < y) (y1 : y < (n : Int) + m - 1) : adjB rs x y = if oldO pl m x = pl ∧ oldO pl m y = pl then adjB is (x - pl) (y - pl) else adjB ts (oldO pl m x) (oldO pl m y) := by
  have c1 := oldO_cases (pl := pl) (m := m) (x := x) (by omega)
  have c2 := oldO_cases (pl := pl) (m := m) (x := y) (by omega)
  rw [adj_lt xy]
  by_cases hb : oldO pl m x = pl ∧ oldO pl m y = pl
  · rw [if_pos hb, adj_lt (show x - (pl : Int) < y - pl by omega)]
    refine decide_eq_decide.mpr ?_
    rw [h (x, y)]
    constructor
    · rintro ⟨_, _, _, ⟨_, _, z⟩ | z⟩
      · exact z
      · exfalso
        have := (hw.2 _ z).2.1
        dsimp only at this
        rw [hb.1, hb.2] at this; omega
    · exact fun z => ⟨x0, xy, y1, .inl ⟨hb.1, hb.2, z⟩⟩
  · rw [if_neg hb]
    have lt : oldO pl m x < oldO pl m y := by omega
    rw [adj_lt lt]
    refine decide_eq_decide.mpr ?_
    rw [h (x, y)]
    constructor
    · rintro ⟨_, _, _, ⟨a, b, _⟩ | z⟩
      · exact absurd ⟨a, b⟩ hb
      · exact z
    · exact fun z => ⟨x0, xy, y1, .inr z⟩
theorem adj_made {x y : Int} (x0 : 0 ≤ x) (x1 : x < (n : Int) + m - 1) (y0 : 0 ≤ y) (y1 : y < (n : Int) + m - 1) : adjB rs x y = if oldO pl m x = pl ∧ oldO pl m y = pl then adjB is (x - pl) (y - pl) else adjB ts (oldO pl m x) (oldO pl m y) := by
  rcases Int.lt_trichotomy x y with k | k | k
  · exact adj_made1 hp hm hw hi hr h x0 k y1
  · subst k
    rw [adj_irr hr, adj_irr hi, adj_irr hw]
    split <;> rfl
  · rw [adj_comm rs x y, adj_made1 hp hm hw hi hr h y0 k x1, adj_comm is (y - pl), adj_comm ts (oldO pl m y)]
    by_cases hb : oldO pl m x = pl ∧ oldO pl m y = pl
    · rw [if_pos hb, if_pos ⟨hb.2, hb.1⟩]
    · rw [if_neg hb, if_neg fun z => hb ⟨z.2, z.1⟩]
theorem mem_inL {x : Int} : x ∈ inL pl m ↔ (pl : Int) ≤ x ∧ x < (pl : Int) + m := by
  unfold inL
  rw [List.mem_map]
  constructor
  · rintro ⟨y, hy, rfl⟩
    have := mem_up.mp hy
    omega
  · intro k
    exact ⟨x - pl, mem_up.mpr (by omega), by omega⟩
theorem mdl_own : Mdl (n + m - 1) rs (inL pl m) := by
  have r := inL_ris (n := n) hp hm
  refine ⟨clo_iff.mpr fun p h0 h1 hn a ha b hb => ?_, r.1, r.2⟩
  have a1 := (mem_inL hp hm hw hi hr h).mp ha
  have b1 := (mem_inL hp hm hw hi hr h).mp hb
  have np : ¬ ((pl : Int) ≤ p ∧ p < (pl : Int) + m) := fun z => hn ((mem_inL hp hm hw hi hr h).mpr z)
  have c1 := oldO_cases (pl := pl) (m := m) (x := p) (by omega)
  have h1' : p < (n : Int) + m - 1 := by omega
  have op : oldO pl m p ≠ pl := by omega
  rw [adj_made hp hm hw hi hr h h0 h1' (by omega) (by omega), adj_made hp hm hw hi hr h h0 h1' (by omega) (by omega), if_neg fun z => op z.1, if_neg fun z => op z.1, oldO_in a1.1 a1.2, oldO_in b1.1 b1.2]
theorem mdl_inner {A : List Int} (k : Mdl m is A) : Mdl (n + m - 1) rs (A.map fun x => (pl : Int) + x) := by
  refine ⟨clo_iff.mpr fun p h0 h1 hn a ha b hb => ?_, ?_, fun x hx => ?_⟩
  · obtain ⟨a', ha', rfl⟩ := List.mem_map.mp ha
    obtain ⟨b', hb', rfl⟩ := List.mem_map.mp hb
    have ra := k.rng a' ha'
    have rb := k.rng b' hb'
    have h1' : p < (n : Int) + m - 1 := by omega
    rw [adj_made hp hm hw hi hr h h0 h1' (by omega) (by omega), adj_made hp hm hw hi hr h h0 h1' (by omega) (by omega), oldO_in (x := (pl : Int) + a') (by omega) (by omega), oldO_in (x := (pl : Int) + b') (by omega) (by omega)]
    by_cases op : oldO pl m p = pl
    · rw [if_pos ⟨op, rfl⟩, if_pos ⟨op, rfl⟩, show (pl : Int) + a' - pl = a' by omega, show (pl : Int) + b' - pl = b' by omega]
      have c1 := oldO_cases (pl := pl) (m := m) (x := p) (by omega)
      refine clo_iff.mp k.clo (p - pl) (by omega) (by omega) (fun z => hn (List.mem_map.mpr ⟨p - pl, z, by omega⟩)) a' ha' b' hb'
    · rw [if_neg fun z => op z.1, if_neg fun z => op z.1]
  · rw [List.pairwise_map]
    exact k.rise.imp fun z => by omega
  · obtain ⟨x', hx', rfl⟩ := List.mem_map.mp hx
    have := k.rng x' hx'
    omega
theorem mdl_grown {W G : List Int} (k : Mdl n ts W) (pW : (pl : Int) ∈ W) (rise : G.Pairwise (· < ·)) (mm : ∀ x, x ∈ G ↔ (0 ≤ x ∧ x < (n : Int) + m - 1) ∧ oldO pl m x ∈ W) : Mdl (n + m - 1) rs G := by
  refine ⟨clo_iff.mpr fun p h0 h1 hn a ha b hb => ?_, rise, fun x hx => by have := ((mm x).mp hx).1; omega⟩
  have h1' : p < (n : Int) + m - 1 := by omega
  have a1 := (mm a).mp ha
  have b1 := (mm b).mp hb
  have nW : oldO pl m p ∉ W := fun z => hn ((mm p).mpr ⟨⟨h0, h1'⟩, z⟩)
  have op : oldO pl m p ≠ pl := fun z => nW (by rw [z]; exact pW)
  have c1 := oldO_cases (pl := pl) (m := m) (x := p) (by omega)
  rw [adj_made hp hm hw hi hr h h0 h1' a1.1.1 a1.1.2, adj_made hp hm hw hi hr h h0 h1' b1.1.1 b1.1.2, if_neg fun z => op z.1, if_neg fun z => op z.1]
  exact clo_iff.mp k.clo _ (by omega) (by omega) nW _ a1.2 _ b1.2
end
def grO (pl m x : Int) : Int := x + (m - 1) * (if x > pl then 1 else 0)
theorem grO_cases (pl m x : Int) : (x > pl ∧ grO pl m x = x + (m - 1)) ∨ (x ≤ pl ∧ grO pl m x = x) := by
  unfold grO
  by_cases h : x > pl
  · rw [if_pos h]; exact .inl ⟨h, by omega⟩
  · rw [if_neg h]; exact .inr ⟨by omega, by omega⟩
theorem grown_mem {n m pl : Nat} {W : List Int} (hp : pl < n) (hm : 0 < m) (rng : ∀ x ∈ W, 0 ≤ x ∧ x < (n : Int)) (pW : (pl : Int) ∈ W) (x : Int) :
    x ∈ inL pl m ++ (W.filter fun y => !decide (y = (pl : Int))).map (grO pl m) ↔ (0 ≤ x ∧ x < (n : Int) + m - 1) ∧ oldO pl m x ∈ W := by
  have mi : x ∈ inL pl m ↔ (pl : Int) ≤ x ∧ x < (pl : Int) + m := by
    unfold inL
    rw [List.mem_map]
    constructor
    · rintro ⟨y, hy, rfl⟩
      have := mem_up.mp hy
      omega
    · intro k
      exact ⟨x - pl, mem_up.mpr (by omega), by omega⟩
  rw [List.mem_append, mi, List.mem_map]
  have c := oldO_cases (pl := pl) (m := m) (x := x) (by omega)
  constructor
  · rintro (k | ⟨y, hy, rfl⟩)
    · refine ⟨by omega, ?_⟩
      rw [oldO_in k.1 k.2]; exact pW
    · obtain ⟨y1, y2⟩ := List.mem_filter.mp hy
      have yn : y ≠ pl := fun z => by rw [decide_eq_true z] at y2; cases y2
      have ry := rng y y1
      have g := grO_cases (pl : Int) m y
      have e : oldO pl m (grO pl m y) = y := by omega
      exact ⟨by omega, by rw [e]; exact y1⟩
  · rintro ⟨⟨x0, x1⟩, k⟩
    by_cases hin : (pl : Int) ≤ x ∧ x < (pl : Int) + m
    · exact .inl hin
    · refine .inr ⟨oldO pl m x, List.mem_filter.mpr ⟨k, ?_⟩, ?_⟩
      · rw [decide_eq_false (by omega)]; rfl
      · have g := grO_cases (pl : Int) m (oldO pl m x)
        omega
theorem outT_kept {pl m : Nat} (hm : 0 < m) (x : Int) : outT pl m pl x = !decide (x ∈ (inL pl m).drop 1) := by
  have mi : x ∈ (inL pl m).drop 1 ↔ (pl : Int) < x ∧ x < (pl : Int) + m := by
    obtain ⟨k, rfl⟩ : ∃ k, m = k + 1 := ⟨m - 1, by omega⟩
    constructor
    · intro hx
      obtain ⟨j, hj⟩ := List.mem_iff_getElem?.mp hx
      rw [List.getElem?_drop] at hj
      obtain ⟨h1, h2⟩ := inL_get.mp hj
      omega
    · intro hx
      refine List.mem_iff_getElem?.mpr ⟨(x - pl - 1).toNat, ?_⟩
      rw [List.getElem?_drop]
      exact inL_get.mpr ⟨by omega, by omega⟩
  unfold outT
  by_cases h1 : x = (pl : Int)
  · rw [decide_eq_true h1, decide_eq_false (show ¬ x ∈ (inL pl m).drop 1 from fun z => by have := mi.mp z; omega)]; rfl
  · rw [decide_eq_false h1, Bool.false_or]
    congr 1
    refine decide_eq_decide.mpr ?_
    rw [mi]
    omega
theorem shaped_dW (n : Nat) (ts : List Ar) : SeqAt.shaped (dW n ts) = true := by
  unfold SeqAt.shaped dW
  rw [Bool.and_eq_true, decide_eq_true_eq]
  constructor
  · show PyData.canLayAll0 [.int (n : Int), .tuple (ts.map dT)] = true
    rw [PyData.canLayAll0, PyData.canLayAll0, PyData.canLayAll0]
    show (true && (PyData.canLayAll0 (ts.map dT) && true)) = true
    rw [can_ties]; rfl
  · have := dep_ties ts
    rw [PyData.depth, PyData.depthAll, PyData.depthAll, PyData.depthAll, PyData.depth, PyData.depth]
    omega
theorem eqv_dW (n : Nat) (ts : List Ar) : PyData.eqv (dW n ts) (dW n ts) = true := by
  refine SeqAt.eqv_refl _ ?_
  show PyData.canLayAll0 [.int (n : Int), .tuple (ts.map dT)] = true
  rw [PyData.canLayAll0, PyData.canLayAll0, PyData.canLayAll0]
  show (true && (PyData.canLayAll0 (ts.map dT) && true)) = true
  rw [can_ties]; rfl
end My

set_option Elab.async false
set_option linter.all false
set_option maxRecDepth 100000
set_option pp.maxSteps 400
set_option maxHeartbeats 4000000
namespace My
open PySem PySem.Spec PyProof.Rows L2 GxR
theorem lf_set1 {H : Hp} {L : Addr} {c : Int} (h : Lf H L c) : ∃ x y z : Int, H L = some (.lst [.int x, .int y, .int z]) ∧ ∀ u : Int, Lf (upd H L (.lst [.int x, .int u, .int z])) L c := by
  obtain ⟨x, y, z, h1, h2, h3, h4⟩ := h
  exact ⟨x, y, z, h1, fun u => ⟨x, u, z, upd_same, h2, h3, h4⟩⟩
theorem ne_em {α : Type} {l : List α} {x : α} (h : x ∈ l) : (!l.isEmpty) = true := by
  cases l with
  | nil => exact absurd h List.not_mem_nil
  | cons _ _ => rfl
section
variable {P : Program} {w : World} {K : PySem.W.Frag} {mg : Str → Option Value} {base : Heap}
/-! ### _law_put_right -/
abbrev s__law_put_right : Stmt := topS 28
abbrev N__law_put_right : List Str := ["_law_left_here", "_law_web_here", "_law_other", "_law_place", "_law_made", "_law_own", "_law_spot", "_law_inner", "_law_one", "_law_whole", "_law_grown", "_law_kept"]
theorem sc__law_put_right : FnScope N__law_put_right ["_law_left_here", "_law_web_here", "_law_other"] (defScope s__law_put_right) := ⟨rfl, rfl, rfl, by decide +kernel, rfl, by decide +kernel, by decide +kernel⟩
def sp_pright (PM : Addr) : Sp := fun vs H Q _ => ∃ (L : Addr) (v o : V) (c : Int) (n m : Nat) (ts is : List (Int × Int)), vs = [.ref L, v, o] ∧ Lf H L c ∧ c < 2 ^ 46 ∧ Web H v n ts ∧ WOk n ts ∧ Web H o m is ∧ WOk m is ∧ 0 < n ∧ n ≤ 12 ∧ 0 < m ∧ m ≤ 12 ∧ TabG H PM ∧
  ∀ H', FL PM L H H' → TabG H' PM → Lf H' L (c + 4000) → Q (.bl true) H'
theorem ok_pright {f PM : Addr} {fd : FuncData} (B : Bts mg) (F : Fun K "_law_put_right" "_law_put_right" s__law_put_right f fd) (c__law_pick : Cl P w K mg base 2 "_law_pick" sp_pick) (c_put_for : Cl P w K mg base 2 "put_for" sp_put) (c_part_of : Cl P w K mg base 1 "part_of" sp_part) (c_least_module : Cl P w K mg base 5 "least_module" sp_least) (c_is_module : Cl P w K mg base 6 "is_module" (sp_module PM)) : FnOk P w K mg base CX0 8 f fd ["_law_left_here", "_law_web_here", "_law_other"] (sp_pright PM) := by
  refine F.ok sc__law_put_right (fun vs H Q E h => ?_) (fun cdv A outer s H vs Q E hr h => ?_)
  · obtain ⟨L, v, o, c, n, m, ts, is, rfl, _⟩ := h; rfl
  · obtain ⟨L, v, o, c, n, m, ts, is, rfl, lf, hc, hWeb, hW, hWo, hO, n0, hn, m0, hm, tg, q⟩ := h
    refine ⟨_, (pss_cons (ps_set (i := 3) sc__law_put_right.nd rfl (by first | exact Or.inl rfl | exact Or.inr rfl) (pe_c c__law_pick hr (by decide) (by rfl) (pa_cons (pv 0) (pa_cons (pe_ix ix_tup (pv 1) pe_int (fun _ _ => rfl)) pa_nil))))
    (pss_cons (ps_set (i := 4) sc__law_put_right.nd rfl (by first | exact Or.inl rfl | exact Or.inr rfl) (pe_c c_put_for hr (by decide) (by rfl) (pa_cons (pv 1) (pa_cons (pv 3) (pa_cons (pv 2) pa_nil)))))
    (pss_cons (ps_set (i := 5) sc__law_put_right.nd rfl (by first | exact Or.inl rfl | exact Or.inr rfl) (pe_listRg rfl (by rfl) B.list (prg_2 (by rfl) B.range (pv 3) (pe_op op_add (pv 3) (pe_ix ix_tup (pv 2) pe_int (fun _ _ => rfl))))))
    (pss_cons (ps_if (PW.pt (pw_or (pt_cmpR op_notBl (pe_c c_is_module hr (by decide) (by rfl) (pa_cons (pv 4) (pa_cons (pv 5) pa_nil))) pe_bl (nomark _)) (pw_or1 (pt_cmpR (op_neD hr.units) (pe_c c_part_of hr (by decide) (by rfl) (pa_cons (pv 4) (pa_cons (pv 5) pa_nil))) (pv 2) (nomark _))))) (pss_one (ps_ret pe_bl)) pss_nil)
    (pss_cons (ps_for PassesOwn.never rfl (pi_range1 (by rfl) B.range (pa_cons (pe_ix ix_tup (pv 2) pe_int (fun _ _ => rfl)) pa_nil)) (pg_name (i := 6) sc__law_put_right.nd rfl (by first | exact Or.inl rfl | exact Or.inr rfl))
      (pss_cons (ps_set (i := 7) sc__law_put_right.nd rfl (by first | exact Or.inl rfl | exact Or.inr rfl) (pe_c c_least_module hr (by decide) (by rfl) (pa_cons (pv 2) (pa_cons (pe_callB (cr_sortedSet rfl) (by rfl) B.sorted (by decide +kernel) (pa_cons (pe_callTy (cr_setI rfl) (by rfl) B.set (by decide +kernel) (pa_cons (pe_lst (pa_cons (pv 6) (pa_cons (pe_c c__law_pick hr (by decide) (by rfl) (pa_cons (pv 0) (pa_cons (pe_ix ix_tup (pv 2) pe_int (fun _ _ => rfl)) pa_nil))) pa_nil))) pa_nil)) pa_nil)) pa_nil))))
      (pss_one (ps_if (pt_cmpR op_notBl (pe_c c_is_module hr (by decide) (by rfl) (pa_cons (pv 4) (pa_cons (pe_lc (own := [("_law_one", 8)]) (g := (gName 8)) (tt := tYes) rfl sc__law_put_right.nd (pi_list (pv 7)) (blkOk_by (own := [("_law_one", 8)]) (N := N__law_put_right) (sc := defScope s__law_put_right) (by decide +kernel)) (fun _ _ _ _ _ => (pg_name (i := 8) sc__law_put_right.nd rfl (by first | exact Or.inl rfl | exact Or.inr rfl))) (fun _ _ _ _ _ => pts_nil) (fun _ _ _ _ _ => (pe_op op_add (pv 3) (pv 8)))) pa_nil))) pe_bl (nomark _)) (pss_one (ps_ret pe_bl)) pss_nil))))
    (pss_cons (ps_set (i := 9) sc__law_put_right.nd rfl (by first | exact Or.inl rfl | exact Or.inr rfl) (pe_c c_least_module hr (by decide) (by rfl) (pa_cons (pv 1) (pa_cons (pe_callB (cr_sortedSet rfl) (by rfl) B.sorted (by decide +kernel) (pa_cons (pe_callTy (cr_setI rfl) (by rfl) B.set (by decide +kernel) (pa_cons (pe_lst (pa_cons (pv 3) (pa_cons (pe_c c__law_pick hr (by decide) (by rfl) (pa_cons (pv 0) (pa_cons (pe_ix ix_tup (pv 1) pe_int (fun _ _ => rfl)) pa_nil))) pa_nil))) pa_nil)) pa_nil)) pa_nil))))
    (pss_cons (ps_set (i := 10) sc__law_put_right.nd rfl (by first | exact Or.inl rfl | exact Or.inr rfl) (pe_callB cr_sortedI (by rfl) B.sorted (by decide +kernel) (pa_cons (pe_op op_cat (pv 5) (pe_lc (own := [("_law_one", 8)]) (g := (gName 8)) (te := (tOp _ _ (tOp _ (tOp _ (tOp (rIxT K) _ _) _) _))) rfl sc__law_put_right.nd (pi_list (pv 9)) (blkOk_by (own := [("_law_one", 8)]) (N := N__law_put_right) (sc := defScope s__law_put_right) (by decide +kernel)) (fun _ _ _ _ _ => (pg_name (i := 8) sc__law_put_right.nd rfl (by first | exact Or.inl rfl | exact Or.inr rfl))) (fun _ _ _ _ _ => (pts_one (pt_cmpR op_ne (pv 8) (pv 3) (nomark _)))) (fun _ _ _ _ _ => (pe_op op_add (pv 8) (pe_op op_mul (pe_op op_sub (pe_ix ix_tup (pv 2) pe_int (fun _ _ => rfl)) pe_int) (pe_callTy call_int1 (by rfl) B.int (by decide +kernel) (pa_cons (pe_cmpR op_gt (pv 8) (pv 3) (nomark _)) pa_nil))))))) pa_nil)))
    (pss_cons (ps_if (pt_cmpR op_notBl (pe_c c_is_module hr (by decide) (by rfl) (pa_cons (pv 4) (pa_cons (pv 10) pa_nil))) pe_bl (nomark _)) (pss_one (ps_ret pe_bl)) pss_nil)
    (pss_cons (ps_setLc (i := 11) (own := [("_law_one", 8)]) (g := (gName 8)) (tt := (tTest (tOp (rIn K true) _ (tSl (rSlL K) _ _ _)))) rfl sc__law_put_right.nd rfl rfl (sw_true rfl rfl rfl (by decide +kernel)) (pi_range1 (by rfl) B.range (pa_cons (pe_ix ix_tup (pv 4) pe_int (fun _ _ => rfl)) pa_nil)) (blkOk_by (own := [("_law_one", 8)]) (N := N__law_put_right) (sc := defScope s__law_put_right) (by decide +kernel)) (fun _ _ _ _ _ => (pg_name (i := 8) sc__law_put_right.nd rfl (by first | exact Or.inl rfl | exact Or.inr rfl))) (fun _ _ _ _ _ => (pts_one (pt_cmpR op_notIn_seq (pv 8) (pe_slice sl_list (pv 5) (po_some pe_int) po_none) (by rfl)))) (fun _ _ _ _ _ => (pv 8)))
    (pss_one (ps_ret (pe_cmpR (op_eqD hr.units) (pe_c c_part_of hr (by decide) (by rfl) (pa_cons (pv 4) (pa_cons (pv 11) pa_nil))) (pv 1) (nomark _))))))))))))), ?_⟩
    obtain ⟨pw, qw, uw, rfl, ew, _⟩ := id hWeb
    obtain ⟨po, qo, uo, rfl, eo, _⟩ := id hWo
    -- place
    refine ⟨_, rfl, _, rfl, pw, _, 0, .int (n : Int), rfl, rfl, SqT.of ew, atI_nat (j := 0) rfl, L, n, c, rfl, lf, by omega, by omega, by omega, fun a H1 a0 a1 fr1 lf1 => ?_⟩
    obtain ⟨pl, rfl⟩ := natOf a0
    have hp : pl < n := by omega
    have tg1 := tab_frL tg lf fr1
    have fl1 : FL PM L H H1 := FL.fr fr1
    have t1 := lf.tst fr1
    -- made
    refine ⟨_, rfl, _, rfl, _, rfl, .ref pw, .ref po, n, m, pl, ts, is, rfl, hWeb.mono t1, hWo.mono t1, hW, hO, hp, m0, by omega, fun u H2 rs s2 hWm hr hrs => ?_⟩
    have fl2 := fl1.trans (FL.same (PM := PM) (L := L) s2)
    have tg2 := tabG_sameM tg1 s2
    have lf2 := lf1.same s2
    have eo2 := (fl2.tst tg lf) _ _ eo
    -- own
    refine ⟨_, rfl, _, rfl, _, rfl, po, _, 0, .int (m : Int), rfl, rfl, SqT.of eo2, atI_nat (j := 0) rfl, _, _, rfl, rfl, _, _, rfl, rfl, RgOk.of_le (by omega) (by omega) (by omega) (by omega), fun O nO => ?_⟩
    rw [inL_rg]
    have OL := lf2.ne nO
    have s3 := same_new (o := .lst ((inL pl m).map V.int)) nO
    have eO3 := upd_same (H := H2) (a := O) (o := .lst ((inL pl m).map V.int))
    generalize upd H2 O (.lst ((inL pl m).map V.int)) = H3 at s3 eO3 ⊢
    have fl3 := fl2.trans (FL.same (PM := PM) (L := L) s3)
    have tg3 := tabG_sameM tg2 s3
    have lf3 := lf2.same s3
    have wm3 := hWm.mono (Same.tst s3)
    have mO := mdl_own hp m0 hW hO hr hrs
    have iL : (inL pl m).length = m := inL_len pl m
    have iN : (inL pl m).Nodup := mO.rise.imp fun h => Int.ne_of_lt h
    have plO : (pl : Int) ∈ inL pl m := (mem_inL hp m0 hW hO hr hrs).mpr ⟨by omega, by omega⟩
    have rl : rs.length ≤ 10000 := wok_len hr (by omega)
    refine ⟨_, rfl, _, rfl, u, n + m - 1, rs, O, inL pl m, rfl, wm3, eO3, by omega, mO.rng, by omega, tg3, fun L1 H4 fr4 tg4 hL1 => ?_⟩
    rw [hL1.uniq mO.least, ne_em plO, Bool.true_and, decide_eq_true rfl]
    refine ⟨true, true, rfl, rfl, _, rfl, iteF ?_⟩
    have fl4 := fl3.trans (FL.tab (L := L) fr4)
    have lf4 : Lf H4 L _ := lf_tab lf3 fr4 tg3
    have t34 := frM_tst fr4 tg3
    have wm4 := wm3.mono t34
    have eO4 := frM_lst fr4 tg3 eO3
    refine ⟨_, rfl, _, rfl, u, n + m - 1, rs, O, inL pl m, rfl, wm4, rl, eO4, iN, by omega, fun u5 H5 s5 hW5 => ?_⟩
    rw [iL, part_in hp m0 hW hO hr hrs] at hW5
    have fl5 := fl4.trans (FL.same (PM := PM) (L := L) s5)
    have tg5 := tabG_sameM tg4 s5
    have lf5 := lf4.same s5
    refine ⟨_, rfl, dW m is, dW m is, hW5.dp, (hWo.mono (fl5.tst tg lf)).dp, shaped_dW _ _, shaped_dW _ _, _, rfl, ?_⟩
    rw [eqv_dW]
    refine iteF ?_
    have eo5 := (fl5.tst tg lf) _ _ eo
    -- each place of the other one
    refine ⟨_, rfl, po, _, 0, .int (m : Int), rfl, rfl, SqT.of eo5, atI_nat (j := 0) rfl, _, rfl, by omega, by omega, ?_⟩
    refine for_range (fun i σ HX => ∃ y6 y7 y8 y9 y10 y11, σ = [some (.ref L), some (.ref pw), some (.ref po), some (.int (pl : Int)), some u, some (.ref O), y6, y7, y8, y9, y10, y11] ∧ FL PM L H5 HX ∧ TabG HX PM ∧ Lf HX L (c + 1 + (i : Int))) ⟨_, _, _, _, _, _, rfl, FL.refl _ _ _, tg5, lf5.mono (by omega)⟩ ?_ ?_
    · rintro i σ HX hi ⟨y6, y7, y8, y9, y10, y11, rfl, flX, tgX, lfX⟩
      have hi' : i < m := by omega
      have tX := flX.tst tg5 lf5
      have eoX := tX _ _ eo5
      refine ⟨_, rfl, _, rfl, _, rfl, _, rfl, po, _, 0, .int (m : Int), rfl, rfl, SqT.of eoX, atI_nat (j := 0) rfl, L, m, _, rfl, lfX, by omega, by omega, by omega, fun b HA b0 b1 frA lfA => ⟨by show 2 ≤ sizeLine; decide, fun l nl => ?_⟩⟩
      have sl := same_new (o := .lst [.int (0 + (i : Int)), .int b]) nl
      refine ⟨l, [0 + (i : Int), b], rfl, SqL.of upd_same, by unfold scanBound; show 2 + 1 < 4096; decide, fun S k nS hk => ?_⟩
      have hk2 : k ≤ 62 := by
        have : ([0 + (i : Int), b] : List Int).length = 2 := rfl
        omega
      refine ⟨S, _, k, rfl, upd_same, by omega, fun C p cr cm cl np => ?_⟩
      let HB : Hp := upd (upd (upd HA l (.lst [.int (0 + (i : Int)), .int b])) S (SetO w S (fun j => decide (j ∈ [0 + (i : Int), b])) k)) p (.lst (C.map V.int))
      have sB : Same HA HB := (sl.trans (same_new nS)).trans (same_new np)
      have ep : HB p = some (.lst (C.map V.int)) := upd_same
      have Cr : ∀ x ∈ C, 0 ≤ x ∧ x < (m : Int) := fun x hx => by
        have := (cm x).mp hx
        rw [decide_eq_true_iff] at this
        rcases List.mem_cons.mp this with z | z
        · omega
        · rw [List.mem_singleton.mp z]; exact ⟨b0, b1⟩
      have cin : (0 + (i : Int)) ∈ C := (cm _).mpr (decide_eq_true List.mem_cons_self)
      have Cl : C.length ≤ m := by
        have := nd_len (m := up m) (cr.imp fun h => Int.ne_of_lt h) fun x hx => mem_up.mpr (Cr x hx)
        rwa [up_len] at this
      have flB : FL PM L H5 HB := (flX.trans (FL.fr (PM := PM) frA)).trans (FL.same (PM := PM) (L := L) sB)
      have tgB : TabG HB PM := tabG_sameM (tab_frL tgX lfX frA) sB
      have lfB : Lf HB L _ := lfA.same sB
      have fB : FL PM L H HB := fl5.trans flB
      refine ⟨.ref po, m, is, p, C, rfl, hWo.mono (fB.tst tg lf), ep, by omega, Cr, by omega, fun Le r HC nr sC hLe er => ?_⟩
      have mLe := hLe.mdl
      have lel := mLe.len
      have rng := mLe.rng
      have fC : FL PM L H HC := fB.trans (FL.same (PM := PM) (L := L) sC)
      have wmC : Web HC u (n + m - 1) rs := wm4.mono ((Same.tst s5).trans ((flB.trans (FL.same (PM := PM) (L := L) sC)).tst tg5 lf5))
      refine ⟨_, rfl, _, rfl, r, rfl, ⟨_, SqL.of er⟩, fun D nD => ?_⟩
      refine wk (walk_list (K := K) (a := r) (xs := Le.map V.int)) (fun j HY => Same HC HY ∧ HY D = some (.lst (((Le.take j).map fun x => (pl : Int) + x).map V.int))) ⟨same_new nD, upd_same⟩ ?_ ?_ ?_
      · rintro j HY _ ⟨sY, _⟩
        exact SqL.of (sY _ _ er)
      · rintro j x HY HZ hj ⟨sY, eD⟩ ⟨rfl, hx⟩
        rw [List.getElem?_map] at hx
        obtain ⟨y, ey, rfl⟩ := Option.map_eq_some_iff.mp hx
        refine ⟨rfl, yes ⟨_, rfl, _, rfl, _, _, rfl, rfl, _, eD, sz' (by rw [List.length_map, List.length_map, List.length_take]; omega), Same.put sY nD, ?_⟩⟩
        rw [upd_same, List.take_add_one, ey, List.map_append, List.map_append]; rfl
      rintro HY ⟨sY, eD⟩
      rw [List.length_map, List.take_length] at eD
      have mI := mdl_inner hp m0 hW hO hr hrs mLe
      have mIl := mI.len
      have xin : (pl : Int) + (0 + (i : Int)) ∈ Le.map fun x => (pl : Int) + x := List.mem_map.mpr ⟨_, hLe.lm.sub _ cin, rfl⟩
      have tgY : TabG HY PM := tabG_sameM tgB (sC.trans sY)
      refine ⟨u, n + m - 1, rs, D, _, rfl, wmC.mono (Same.tst sY), eD, by omega, mI.rng, by omega, tgY, fun L9 HZ frZ tgZ hL9 => ?_⟩
      rw [hL9.uniq mI.least, ne_em xin, Bool.true_and, decide_eq_true rfl]
      refine ⟨true, true, rfl, rfl, _, rfl, iteF ?_⟩
      have lfY : Lf HY L _ := lfB.same (sC.trans sY)
      refine ⟨_, _, _, _, _, _, rfl, (flB.trans (FL.same (PM := PM) (L := L) (sC.trans sY))).trans (FL.tab (L := L) frZ), tgZ, (lf_tab lfY frZ tgY).mono (by push_cast; omega)⟩
    rintro σ H6 ⟨y6, y7, y8, y9, y10, y11, rfl, flX, tg6, lf6⟩
    have em : ((m : Int)).toNat = m := Int.toNat_natCast m
    rw [em] at lf6
    have t56 := flX.tst tg5 lf5
    have f6 : FL PM L H H6 := fl5.trans flX
    have ew6 := (f6.tst tg lf) _ _ ew
    have wm6 := (wm4.mono (Same.tst s5)).mono t56
    have eO6 : H6 O = some (.lst ((inL pl m).map V.int)) := flX.lst tg5 OL (s5 _ _ eO4)
    -- whole
    refine ⟨_, rfl, _, rfl, _, rfl, _, rfl, pw, _, 0, .int (n : Int), rfl, rfl, SqT.of ew6, atI_nat (j := 0) rfl, L, n, _, rfl, lf6, by omega, by omega, by omega, fun b HA b0 b1 frA lfA => ⟨by show 2 ≤ sizeLine; decide, fun l nl => ?_⟩⟩
    have sl := same_new (o := .lst [.int (pl : Int), .int b]) nl
    refine ⟨l, [(pl : Int), b], rfl, SqL.of upd_same, by unfold scanBound; show 2 + 1 < 4096; decide, fun S k nS hk => ?_⟩
    have hk2 : k ≤ 62 := by
      have : ([(pl : Int), b] : List Int).length = 2 := rfl
      omega
    refine ⟨S, _, k, rfl, upd_same, by omega, fun C p cr cm cl np => ?_⟩
    let HB : Hp := upd (upd (upd HA l (.lst [.int (pl : Int), .int b])) S (SetO w S (fun j => decide (j ∈ [(pl : Int), b])) k)) p (.lst (C.map V.int))
    have sB : Same HA HB := (sl.trans (same_new nS)).trans (same_new np)
    have ep : HB p = some (.lst (C.map V.int)) := upd_same
    have Cr : ∀ x ∈ C, 0 ≤ x ∧ x < (n : Int) := fun x hx => by
      have := (cm x).mp hx
      rw [decide_eq_true_iff] at this
      rcases List.mem_cons.mp this with z | z
      · omega
      · rw [List.mem_singleton.mp z]; exact ⟨b0, b1⟩
    have cin : (pl : Int) ∈ C := (cm _).mpr (decide_eq_true List.mem_cons_self)
    have Cl : C.length ≤ n := by
      have := nd_len (m := up n) (cr.imp fun h => Int.ne_of_lt h) fun x hx => mem_up.mpr (Cr x hx)
      rwa [up_len] at this
    have flB : FL PM L H6 HB := (FL.fr (PM := PM) frA).trans (FL.same (PM := PM) (L := L) sB)
    have tgB : TabG HB PM := tabG_sameM (tab_frL tg6 lf6 frA) sB
    have lfB : Lf HB L _ := lfA.same sB
    have fB : FL PM L H HB := f6.trans flB
    refine ⟨.ref pw, n, ts, p, C, rfl, hWeb.mono (fB.tst tg lf), ep, by omega, Cr, by omega, fun Wl r HC nr sC hWl er => ?_⟩
    have mW := hWl.mdl
    have wl := mW.len
    have rng := mW.rng
    have plW := hWl.lm.sub _ cin
    have fC : FL PM L H HC := fB.trans (FL.same (PM := PM) (L := L) sC)
    have f6C : FL PM L H6 HC := flB.trans (FL.same (PM := PM) (L := L) sC)
    have tgC : TabG HC PM := tabG_sameM tgB sC
    have lfC : Lf HC L _ := lfB.same sC
    have wmC : Web HC u (n + m - 1) rs := wm6.mono (f6C.tst tg6 lf6)
    have eOC : HC O = some (.lst ((inL pl m).map V.int)) := f6C.lst tg6 OL eO6
    have eoC := (fC.tst tg lf) _ _ eo
    -- grown
    refine ⟨_, rfl, _, rfl, r, rfl, ⟨_, SqL.of er⟩, fun D nD => ?_⟩
    refine wk (walk_list (K := K) (a := r) (xs := Wl.map V.int)) (fun j HY => Same HC HY ∧ HY D = some (.lst ((((Wl.take j).filter fun y => !decide (y = (pl : Int))).map (grO pl m)).map V.int))) ⟨same_new nD, upd_same⟩ ?_ ?_ ?_
    · rintro j HY _ ⟨sY, _⟩
      exact SqL.of (sY _ _ er)
    · rintro j x HY HZ hj ⟨sY, eD⟩ ⟨rfl, hx⟩
      rw [List.getElem?_map] at hx
      obtain ⟨y, ey, rfl⟩ := Option.map_eq_some_iff.mp hx
      rw [List.length_map] at hj
      have fl := List.length_filter_le (fun y => !decide (y = (pl : Int))) (Wl.take j)
      rw [List.length_take] at fl
      have stp : (Wl.take (j + 1)).filter (fun y => !decide (y = (pl : Int))) = (Wl.take j).filter (fun y => !decide (y = (pl : Int))) ++ (if (!decide (y = (pl : Int))) = true then [y] else []) := by
        rw [List.take_add_one, ey, List.filter_append]
        show _ ++ List.filter _ [y] = _
        rw [List.filter_cons]; rfl
      refine ⟨rfl, _, rfl, _, rfl, rfl, _, rfl, ?_⟩
      rw [neI]
      cases hd : decide (y = (pl : Int)) with
      | true =>
        rw [hd] at stp
        refine iteF ⟨sY, ?_⟩
        rw [stp, show (if (!true) = true then [y] else []) = [] from rfl, List.append_nil]; exact eD
      | false =>
        rw [hd] at stp
        refine iteT ⟨_, rfl, _, rfl, po, _, 0, .int (m : Int), rfl, rfl, SqT.of ((Same.tst sY) _ _ eoC), atI_nat (j := 0) rfl, _, _, rfl, rfl, _, rfl, _, rfl, _, _, rfl, rfl, .inr ⟨_, rfl, ?_⟩⟩
        refine ⟨_, _, rfl, rfl, .inl ⟨by omega, by omega⟩, _, _, rfl, rfl, _, eD, sz' (by rw [List.length_map, List.length_map]; omega), Same.put sY nD, ?_⟩
        rw [upd_same, stp, show (if (!false) = true then [y] else []) = [y] from rfl, List.map_append, List.map_append]
        refine congrArg (fun z => some (HO.lst (_ ++ [V.int z]))) ?_
        unfold grO
        congr 2
        by_cases hy : y > (pl : Int)
        · rw [decide_eq_true hy, if_pos hy]; rfl
        · rw [decide_eq_false hy, if_neg hy]; rfl
    rintro HY ⟨sY, eD⟩
    rw [List.length_map, List.take_length] at eD
    have fl := List.length_filter_le (fun y => !decide (y = (pl : Int))) Wl
    refine ⟨O, D, _, _, rfl, rfl, sY _ _ eOC, eD, sz (by rw [List.length_map, List.length_map, List.length_map, iL]; omega), fun cc ncc => ?_⟩
    refine ⟨cc, inL pl m ++ (Wl.filter fun y => !decide (y = (pl : Int))).map (grO pl m), rfl, SqL.of (by rw [upd_same, List.map_append]), fun G g pmG srG ng => ?_⟩
    have sG := (same_new (o := .lst ((inL pl m).map V.int ++ (((Wl.filter fun y => !decide (y = (pl : Int))).map (grO pl m)).map V.int))) ncc).trans (same_new (o := .lst (G.map V.int)) ng)
    have sYG := sY.trans sG
    have eG := upd_same (H := upd HY cc (.lst ((inL pl m).map V.int ++ (((Wl.filter fun y => !decide (y = (pl : Int))).map (grO pl m)).map V.int)))) (a := g) (o := .lst (G.map V.int))
    generalize upd (upd HY cc (.lst ((inL pl m).map V.int ++ (((Wl.filter fun y => !decide (y = (pl : Int))).map (grO pl m)).map V.int)))) g (.lst (G.map V.int)) = HG at sYG eG ⊢
    have gmem : ∀ x, x ∈ G ↔ (0 ≤ x ∧ x < (n : Int) + m - 1) ∧ oldO pl m x ∈ Wl := fun x => by rw [pmG.mem_iff]; exact grown_mem hp m0 rng plW x
    have gnd : G.Nodup := by
      refine pmG.nodup_iff.mpr (List.nodup_append.mpr ⟨iN, ?_, ?_⟩)
      · rw [List.nodup_iff_pairwise_ne, List.pairwise_map]
        refine (mW.rise.filter _).imp_of_mem fun {x y} hx hy lt e => ?_
        have c1 := grO_cases (pl : Int) m x
        have c2 := grO_cases (pl : Int) m y
        omega
      · intro x hx y hy e
        subst e
        obtain ⟨z, hz, rfl⟩ := List.mem_map.mp hy
        obtain ⟨z1, z2⟩ := List.mem_filter.mp hz
        have zn : z ≠ pl := fun e => by rw [decide_eq_true e] at z2; cases z2
        have c1 := grO_cases (pl : Int) m z
        have := (mem_inL hp m0 hW hO hr hrs).mp hx
        omega
    have grise : G.Pairwise (· < ·) := by
      have := srG.and (List.nodup_iff_pairwise_ne.mp gnd)
      exact this.imp fun ⟨a, b⟩ => by omega
    have mG := mdl_grown hp m0 hW hO hr hrs mW plW grise gmem
    have gl := mG.len
    have xin : (pl : Int) ∈ G := (gmem _).mpr ⟨⟨by omega, by omega⟩, by rw [oldO_in (by omega) (by omega)]; exact plW⟩
    have tgG : TabG HG PM := tabG_sameM tgC sYG
    have wmG := wmC.mono (Same.tst sYG)
    refine ⟨_, rfl, _, rfl, u, n + m - 1, rs, g, G, rfl, wmG, eG, by omega, mG.rng, by omega, tgG, fun L9 HZ frZ tgZ hL9 => ?_⟩
    rw [hL9.uniq mG.least, ne_em xin, Bool.true_and, decide_eq_true rfl]
    refine ⟨true, true, rfl, rfl, _, rfl, iteF ?_⟩
    have fZ : FL PM L H HZ := (fC.trans (FL.same (PM := PM) (L := L) sYG)).trans (FL.tab (L := L) frZ)
    have lfG : Lf HG L _ := lfC.same sYG
    have lfZ : Lf HZ L _ := lf_tab lfG frZ tgG
    have wmZ := wmG.mono (frM_tst frZ tgG)
    have eOZ : HZ O = some (.lst ((inL pl m).map V.int)) := frM_lst frZ tgG (sYG _ _ eOC)
    -- kept
    obtain ⟨pu, qu, uu, eu, epu, _⟩ := id wmZ
    subst eu
    refine ⟨_, rfl, pu, _, 0, .int ((n + m - 1 : Nat) : Int), rfl, rfl, SqT.of epu, atI_nat (j := 0) rfl, _, rfl, by omega, by omega, fun Kp nK => ?_⟩
    refine lc_range (fun j HX => Same HZ HX ∧ HX Kp = some (.lst (((up j).filter (outT pl m pl)).map V.int))) ⟨same_new nK, upd_same⟩ ?_ ?_
    · rintro j HX hj ⟨sX, eK⟩
      have kf := List.length_filter_le (outT pl m pl) (up j)
      rw [up_len] at kf
      refine ⟨rfl, _, rfl, _, rfl, _, rfl, O, _, rfl, SqL.of (sX _ _ eOZ), fun T nT => ?_⟩
      have sT := same_new (o := .lst (cutV ((inL pl m).map V.int) (some 1) none)) nT
      have ecut : cutV ((inL pl m).map V.int) (some 1) none = ((inL pl m).drop 1).map V.int := by
        rw [cut1, ← List.map_drop]
      rw [ecut] at sT ⊢
      refine ⟨T, _, rfl, .inl (SqL.of upd_same), rfl, all_flat _, _, rfl, ?_⟩
      rw [inV_int]
      have eo' := outT_kept (pl := pl) m0 (0 + (j : Int))
      have stp : (up (j + 1)).filter (outT pl m pl) = (up j).filter (outT pl m pl) ++ (if outT pl m pl (0 + (j : Int)) = true then [0 + (j : Int)] else []) := by
        rw [up_succ, List.filter_append, Int.zero_add]
        show _ ++ List.filter _ [(j : Int)] = _
        rw [List.filter_cons]; rfl
      rw [← eo']
      by_cases ht : outT pl m pl (0 + (j : Int)) = true
      · rw [ht] at stp ⊢
        refine iteT ⟨_, rfl, _, sT _ _ eK, sz' (by rw [List.length_map]; omega), Same.put (sX.trans sT) nK, ?_⟩
        rw [upd_same, stp, if_pos rfl, List.map_append]; rfl
      · rw [Bool.eq_false_iff.mpr ht] at stp ⊢
        refine iteF ⟨sX.trans sT, ?_⟩
        rw [stp, if_neg (by decide), List.append_nil]
        exact sT _ _ eK
    rintro HX ⟨sX, eK⟩
    rw [show (((n + m - 1 : Nat) : Int)).toNat = n + m - 1 from Int.toNat_natCast _] at eK
    have oR : Ris (n + m - 1) (outL n m pl pl) := outL_ris
    have oL : (outL n m pl (pl : Int)).length = n := outL_len hp m0 (Int.le_refl _) (by omega)
    refine ⟨_, rfl, _, rfl, .ref pu, n + m - 1, rs, Kp, outL n m pl pl, rfl, wmZ.mono (Same.tst sX), rl, eK, oR.nodup, by omega, fun u9 H9 s9 hW9 => ?_⟩
    rw [oL, part_out hp m0 (Int.le_refl _) (by omega) hW hO hr hrs] at hW9
    have f9 : FL PM L H H9 := fZ.trans (FL.same (PM := PM) (L := L) (sX.trans s9))
    refine ⟨_, rfl, dW n ts, dW n ts, hW9.dp, (hWeb.mono (f9.tst tg lf)).dp, shaped_dW _ _, shaped_dW _ _, ?_⟩
    rw [eqv_dW]
    exact q H9 f9 (tabG_sameM tgZ (sX.trans s9)) ((lfZ.same (sX.trans s9)).mono (by omega))
/-! ### law -/
abbrev s_law : Stmt := topS 29
abbrev N_law : List Str := ["_law_script", "_law_cells", "_law_k", "_law_left_here", "_law_web_here", "_law_small", "_law_other"]
theorem sc_law : FnScope N_law ["_law_script"] (defScope s_law) := ⟨rfl, rfl, rfl, by decide +kernel, rfl, by decide +kernel, by decide +kernel⟩
def sp_law (K : PySem.W.Frag) (PM : Addr) : Sp := fun vs H Q _ => ∃ (a : Addr) (ns : List Int), vs = [.ref a] ∧ SqL K H a (ns.map V.int) ∧ ns.length ≤ 63 ∧ TabG H PM ∧ ∀ H', Q (.bl true) H'
theorem ok_law {f PM : Addr} {fd : FuncData} (B : Bts mg) (F : Fun K "law" "law" s_law f fd) (c__law_left : Cl P w K mg base 1 "_law_left" (sp_left K)) (c__law_web : Cl P w K mg base 5 "_law_web" sp_web) (c__law_folded : Cl P w K mg base 1 "_law_folded" (sp_folded K)) (c__law_least_right : Cl P w K mg base 8 "_law_least_right" (sp_lright PM)) (c__law_put_right : Cl P w K mg base 8 "_law_put_right" (sp_pright PM)) : TopRun P w K mg base f fd "_law_script" (sp_law K PM) := by
  refine top_run (k := 29) F sc_law ⟨rfl, by decide, by decide⟩ fun cdv s H v Q E hr h => ?_
  obtain ⟨a, ns, e, hS, hl, tg, q⟩ := h
  cases e
  refine ⟨_, (pss_cons (ps_set (i := 1) sc_law.nd rfl (by first | exact Or.inl rfl | exact Or.inr rfl) (pe_c c__law_folded hr (by decide) (by rfl) (pa_cons (pv 0) (pa_cons pe_int pa_nil))))
    (pss_cons (ps_for PassesOwn.never rfl (pi_range1 (by rfl) B.range (pa_cons (pe_callB (call_max2 rfl) (by rfl) B.max (by decide +kernel) (pa_cons pe_int (pa_cons (pe_callB call_len_seq (by rfl) B.len (by decide +kernel) (pa_cons (pv 1) pa_nil)) pa_nil))) pa_nil)) (pg_name (i := 2) sc_law.nd rfl (by first | exact Or.inl rfl | exact Or.inr rfl))
      (pss_cons (ps_set (i := 3) sc_law.nd rfl (by first | exact Or.inl rfl | exact Or.inr rfl) (pe_c c__law_left hr (by decide) (by rfl) (pa_cons (pv 1) (pa_cons (pv 2) pa_nil))))
      (pss_cons (ps_asg (pe_op op_add (pe_ix ix_list (pv 3) pe_int (fun _ _ => rfl)) pe_int) (pg_sub (pv 3) pe_int set_list))
      (pss_cons (ps_set (i := 4) sc_law.nd rfl (by first | exact Or.inl rfl | exact Or.inr rfl) (pe_c c__law_web hr (by decide) (by rfl) (pa_cons (pv 3) (pa_cons pe_int pa_nil))))
      (pss_cut (ps_if (PW.pt (pw_and (pt_cmpR op_gt (pe_ix ix_tup (pv 4) pe_int (fun _ _ => rfl)) pe_int (nomark _)) (pw_and1 (pt_not (pt_val (pe_c c__law_least_right hr (by decide) (by rfl) (pa_cons (pv 3) (pa_cons (pv 4) pa_nil)))))))) (pss_one (ps_ret pe_bl)) pss_nil)
      (pss_cons (ps_par (i := 5) (j := 6) rfl sc_law.nd rfl rfl (by decide) rfl rfl (pa_cons (pe_c c__law_web hr (by decide) (by rfl) (pa_cons (pv 3) (pa_cons pe_int pa_nil))) (pa_cons (pe_c c__law_web hr (by decide) (by rfl) (pa_cons (pv 3) (pa_cons pe_int pa_nil))) pa_nil)) (by rfl))
      (pss_one (ps_if (PW.pt (pw_and (pt_cmpR op_gt (pe_ix ix_tup (pv 5) pe_int (fun _ _ => rfl)) pe_int (nomark _)) (pw_and (pt_cmpR op_gt (pe_ix ix_tup (pv 6) pe_int (fun _ _ => rfl)) pe_int (nomark _)) (pw_and1 (pt_not (pt_val (pe_c c__law_put_right hr (by decide) (by rfl) (pa_cons (pv 3) (pa_cons (pv 5) (pa_cons (pv 6) pa_nil)))))))))) (pss_one (ps_ret pe_bl)) pss_nil))))))))
    (pss_one (ps_ret pe_bl)))), ?_⟩
  refine ⟨_, rfl, a, ns, 5, rfl, hS, hl, by decide, by decide, fun C cs H0 nC sC eC clen => ?_⟩
  have tg0 := tab_same tg sC
  refine ⟨_, rfl, C, _, rfl, .inl (SqL.of eC), _, _, rfl, _, rfl, ?_, ?_, ?_⟩
  · rw [List.length_map]; split <;> omega
  · rw [List.length_map]; split <;> omega
  refine for_range (fun k σ H1 => ∃ y2 y3 y4 y5 y6, σ = [some (.ref a), some (.ref C), y2, y3, y4, y5, y6] ∧ St1 PM H0 H1) ⟨none, none, none, none, none, rfl, St1.refl tg0⟩ ?_ ?_
  · rintro k σ H1 hk ⟨y2, y3, y4, y5, y6, rfl, S1⟩
    have hk' : k < 100 := by
      refine Nat.lt_of_lt_of_le hk ?_
      rw [List.length_map]; split <;> omega
    refine ⟨_, rfl, _, rfl, C, cs, _, rfl, SqL.of (S1.lst tg0 eC), by omega, by omega, fun L H2 nL s2 lf2 => ?_⟩
    have n0L : H0 L = none := S1.free nL
    have S2 := S1.same s2
    have stf : ∀ {HX HY : Hp}, St1 PM H0 HX → FL PM L HX HY → TabG HY PM → St1 PM H0 HY := fun {HX HY} S f t => ⟨fun b o nb e => f b o (fun z => by rw [z, n0L] at e; cases e) (fun z => nb (List.mem_singleton.mpr z)) (S.fr b o nb e), t⟩
    obtain ⟨x, y, z, eL, setL⟩ := lf_set1 lf2
    refine ⟨_, rfl, L, _, _, _, rfl, rfl, SqL.of eL, rfl, _, _, rfl, rfl, ?_⟩
    refine ⟨_, rfl, L, _, _, _, rfl, rfl, eL, rfl, ?_⟩
    have S3 : St1 PM H0 (upd H2 L (.lst [.int x, .int (y + 1400), .int z])) := S2.put n0L eL
    refine ⟨_, rfl, L, 12, 0, rfl, setL (y + 1400), by decide, by decide, fun v H4 n ts hn fr4 lf4 hWeb hW => ?_⟩
    have S4 : St1 PM H0 H4 := S3.frL (setL (y + 1400)) n0L fr4
    obtain ⟨pw, qw, uw, rfl, ew, _⟩ := id hWeb
    refine ⟨fun σ HX => σ = [some (.ref a), some (.ref C), some (.int (0 + (k : Int))), some (.ref L), some (.ref pw), y5, y6] ∧ St1 PM H0 HX ∧ Lf HX L 300000, ?_, ?_⟩
    · refine ⟨_, rfl, pw, _, 0, .int (n : Int), rfl, rfl, SqT.of ew, atI_nat (j := 0) rfl, _, _, rfl, rfl, _, rfl, ite2 (fun e => ?_) (fun e => iteF ⟨rfl, S4, lf4.mono (by decide)⟩)⟩
      have n0 := of_decide_eq_true e
      exact ⟨_, rfl, _, rfl, L, .ref pw, _, n, ts, rfl, lf4, by decide, hWeb, by omega, hn, S4.tg, fun H5 f5 t5 lf5 => ⟨true, rfl, iteF ⟨rfl, stf S4 f5 t5, lf5.mono (by decide)⟩⟩⟩
    rintro σ H5 ⟨rfl, S5, lf5⟩
    refine ⟨_, rfl, L, 7, _, rfl, lf5, by decide, by decide, fun v1 H6 n1 t1 hn1 fr6 lf6 hW1 hO1 => ?_⟩
    refine ⟨_, rfl, L, 6, _, rfl, lf6, by decide, by decide, fun v2 H7 n2 t2 hn2 fr7 lf7 hW2 hO2 => ?_⟩
    have S7 := (S5.frL lf5 n0L fr6).frL lf6 n0L fr7
    have hW17 := hW1.mono (lf6.tst fr7)
    obtain ⟨p1, q1, u1, rfl, e1, _⟩ := id hW17
    obtain ⟨p2, q2, u2, rfl, e2, _⟩ := id hW2
    refine ⟨_, _, rfl, ?_⟩
    refine ⟨_, rfl, p1, _, 0, .int (n1 : Int), rfl, rfl, SqT.of e1, atI_nat (j := 0) rfl, _, _, rfl, rfl, _, rfl, ite2 (fun e => ?_) (fun e => iteF ⟨_, _, _, _, _, rfl, S7⟩)⟩
    have m1 := of_decide_eq_true e
    refine ⟨_, rfl, p2, _, 0, .int (n2 : Int), rfl, rfl, SqT.of e2, atI_nat (j := 0) rfl, _, _, rfl, rfl, _, rfl, ite2 (fun e => ?_) (fun e => iteF ⟨_, _, _, _, _, rfl, S7⟩)⟩
    have m2 := of_decide_eq_true e
    exact ⟨_, rfl, _, rfl, _, rfl, L, .ref p1, .ref p2, _, n1, n2, t1, t2, rfl, lf7, by decide, hW17, hO1, hW2, hO2, by omega, by omega, by omega, by omega, S7.tg, fun H8 f8 t8 lf8 => ⟨true, rfl, iteF ⟨_, _, _, _, _, rfl, stf S7 f8 t8⟩⟩⟩
  · rintro σ H1 ⟨y2, y3, y4, y5, y6, rfl, S1⟩
    exact q _
end
end My

set_option Elab.async false
set_option linter.all false
set_option maxRecDepth 100000
set_option maxHeartbeats 8000000
namespace My
open PySem PySem.Spec PyProof.Rows L2 GxR
/-! ### the head -/
def d_is_number : He.DefD := ⟨("is_number", none), "is_number", "is_number", defArgs s_is_number, defBody s_is_number, defScope s_is_number, [], []⟩
def d_is_place : He.DefD := ⟨("is_place", none), "is_place", "is_place", defArgs s_is_place, defBody s_is_place, defScope s_is_place, [], []⟩
def d_tied : He.DefD := ⟨("tied", none), "tied", "tied", defArgs s_tied, defBody s_tied, defScope s_tied, [], []⟩
def d_tie_of : He.DefD := ⟨("tie_of", none), "tie_of", "tie_of", defArgs s_tie_of, defBody s_tie_of, defScope s_tie_of, [], []⟩
def d_part_of : He.DefD := ⟨("part_of", none), "part_of", "part_of", defArgs s_part_of, defBody s_part_of, defScope s_part_of, [], []⟩
def d_put_for : He.DefD := ⟨("put_for", none), "put_for", "put_for", defArgs s_put_for, defBody s_put_for, defScope s_put_for, [], []⟩
def d_numbers_behind : He.DefD := ⟨("numbers_behind", none), "numbers_behind", "numbers_behind", defArgs s_numbers_behind, defBody s_numbers_behind, defScope s_numbers_behind, [], []⟩
def d_is_module : He.DefD := ⟨("is_module", none), "is_module", "is_module", defArgs s_is_module, defBody s_is_module, defScope s_is_module, [], []⟩
def d_least_module : He.DefD := ⟨("least_module", none), "least_module", "least_module", defArgs s_least_module, defBody s_least_module, defScope s_least_module, [], []⟩
def d_least_among : He.DefD := ⟨("least_among", none), "least_among", "least_among", defArgs s_least_among, defBody s_least_among, defScope s_least_among, [], []⟩
def d_is_parting : He.DefD := ⟨("is_parting", none), "is_parting", "is_parting", defArgs s_is_parting, defBody s_is_parting, defScope s_is_parting, [], []⟩
def d__law_mix : He.DefD := ⟨("_law_mix", none), "_law_mix", "_law_mix", defArgs s__law_mix, defBody s__law_mix, defScope s__law_mix, [], []⟩
def d__law_left : He.DefD := ⟨("_law_left", none), "_law_left", "_law_left", defArgs s__law_left, defBody s__law_left, defScope s__law_left, [], []⟩
def d__law_pick : He.DefD := ⟨("_law_pick", none), "_law_pick", "_law_pick", defArgs s__law_pick, defBody s__law_pick, defScope s__law_pick, [], []⟩
def d__law_folded : He.DefD := ⟨("_law_folded", none), "_law_folded", "_law_folded", defArgs s__law_folded, defBody s__law_folded, defScope s__law_folded, [], []⟩
def d__law_pairs : He.DefD := ⟨("_law_pairs", none), "_law_pairs", "_law_pairs", defArgs s__law_pairs, defBody s__law_pairs, defScope s__law_pairs, [], []⟩
def d__law_any_web : He.DefD := ⟨("_law_any_web", none), "_law_any_web", "_law_any_web", defArgs s__law_any_web, defBody s__law_any_web, defScope s__law_any_web, [], []⟩
def d__law_row : He.DefD := ⟨("_law_row", none), "_law_row", "_law_row", defArgs s__law_row, defBody s__law_row, defScope s__law_row, [], []⟩
def d__law_row_web : He.DefD := ⟨("_law_row_web", none), "_law_row_web", "_law_row_web", defArgs s__law_row_web, defBody s__law_row_web, defScope s__law_row_web, [], []⟩
def d__law_ring_web : He.DefD := ⟨("_law_ring_web", none), "_law_ring_web", "_law_ring_web", defArgs s__law_ring_web, defBody s__law_ring_web, defScope s__law_ring_web, [], []⟩
def d__law_put_together : He.DefD := ⟨("_law_put_together", none), "_law_put_together", "_law_put_together", defArgs s__law_put_together, defBody s__law_put_together, defScope s__law_put_together, [], []⟩
def d__law_web : He.DefD := ⟨("_law_web", none), "_law_web", "_law_web", defArgs s__law_web, defBody s__law_web, defScope s__law_web, [], []⟩
def d__law_two_right : He.DefD := ⟨("_law_two_right", none), "_law_two_right", "_law_two_right", defArgs s__law_two_right, defBody s__law_two_right, defScope s__law_two_right, [], []⟩
def d__law_least_right : He.DefD := ⟨("_law_least_right", none), "_law_least_right", "_law_least_right", defArgs s__law_least_right, defBody s__law_least_right, defScope s__law_least_right, [], []⟩
def d__law_put_right : He.DefD := ⟨("_law_put_right", none), "_law_put_right", "_law_put_right", defArgs s__law_put_right, defBody s__law_put_right, defScope s__law_put_right, [], []⟩
def d_law : He.DefD := ⟨("law", none), "law", "law", defArgs s_law, defBody s_law, defScope s_law, [], []⟩
def fns : List He.DefD := [d_is_number, d_is_place, d_tied, d_tie_of, d_part_of, d_put_for, d_numbers_behind, d_is_module, d_least_module, d_least_among, d_is_parting, d__law_mix, d__law_left, d__law_pick, d__law_folded, d__law_pairs, d__law_any_web, d__law_row, d__law_row_web, d__law_ring_web, d__law_put_together, d__law_web, d__law_two_right, d__law_least_right, d__law_put_right, d_law]
def fas : List He.Fa := [.glo "is_number", .glo "is_place", .glo "tied", .glo "tie_of", .glo "part_of", .glo "put_for", .glo "numbers_behind", .glo "is_module", .glo "least_module", .glo "least_among", .glo "is_parting", .glo "_law_mix", .glo "_law_left", .glo "_law_pick", .glo "_law_folded", .glo "_law_pairs", .glo "_law_any_web", .glo "_law_row", .glo "_law_row_web", .glo "_law_ring_web", .glo "_law_put_together", .glo "_law_web", .glo "_law_two_right", .glo "_law_least_right", .glo "_law_put_right", .glo "law", .free "len", .free "range", .free "tuple", .free "list", .free "int", .free "abs", .free "min", .free "sorted", .free "set", .free "all", .free "any", .free "enumerate", .free "zip", .free "isinstance", .free "bool", .free "str", .free "dict", .free "max", .free "reversed", .free "sum"]
def tfs : List He.Defn := [("is_module", none)]
abbrev Rw : PySem.W.OpenRow := PySem.W.OpenLaw.row PySem.Challenge.rw_pointedties_k85_whole_modules_walked
def exf (K : PySem.W.Frag) : Bool := true
abbrev hk : PySem.W.Hook := He.hookX 4 fas fns [] tfs exf
def ob (s : PySem.W.SharedT) : He.AlX := He.obsX 4 fas fns [] tfs exf (HandSHeadRun.getT s)
theorem ob_eq (s : PySem.W.SharedT) : ob s = hk.obs s.abs := He.obsX_eq (HandSHeadRun.getT_eq s)
abbrev others : List Str := [("is_number" : Str), ("is_place" : Str), ("tied" : Str), ("tie_of" : Str), ("part_of" : Str), ("put_for" : Str), ("numbers_behind" : Str), ("is_module" : Str), ("least_module" : Str), ("least_among" : Str), ("is_parting" : Str), ("_law_mix" : Str), ("_law_left" : Str), ("_law_pick" : Str), ("_law_folded" : Str), ("_law_pairs" : Str), ("_law_any_web" : Str), ("_law_row" : Str), ("_law_row_web" : Str), ("_law_ring_web" : Str), ("_law_put_together" : Str), ("_law_web" : Str), ("_law_two_right" : Str), ("_law_least_right" : Str), ("_law_put_right" : Str)]
theorem run (w : World) : HandSHeadRun.RunEq Rw (PySem.W.view Rw.prog [29]) hk ob 4000 others w := by
  intro os; kernel_rfl

theorem code_of {K : PySem.W.Frag} {x q : Str} {st : Stmt} {p : He.Defn} {fd : FuncData} (F : Fun K x q st (He.fAd K p) fd) : fd.code = .ref (He.codeOf K p) := by
  obtain ⟨oc, od, kV, doc, pm, an, cdv, ct, osl, rfl, lk, hcd⟩ := F.ex
  cases cdv with
  | ref c => rw [He.codeOf_eq lk rfl]
  | _ => cases hcd
theorem law_ok {P : Program} {w : World} {K : PySem.W.Frag} {h : Heap} {mg : Str → Option Value} {f : Addr} (X : K.In h) (G : h.Ns mainGlobals mg) (hfa : mg ("law" : Str) = some (.ref f)) (c : He.SaysX fas fns [] tfs exf w h K) :
    ∃ fd : FuncData, (∀ (s : Shared) (v : Value), BindsTo s fd ⟨[v], []⟩ [("_law_script", v)]) ∧ ∀ base : Heap, K.In base → base.Ns mainGlobals mg → (∀ p ∈ tfs.map (He.cT K), LamX.TabB base mg p.1 p.2) →
      TopRun P w K mg base f fd "_law_script" (sp_law K (He.cT K ("is_module", none)).2) := by
    have cd := c.t.d
    obtain ⟨fd_is_number, F_is_number⟩ := cd.def_ 0 (d := d_is_number) rfl
    have b_is_number : Binds K fd_is_number ["thing"] [] := F_is_number.bindsN fun _ _ _ _ _ _ us hl => match us, hl with | [_], _ => rfl
    have g_is_number : mg "is_number" = some (.ref (He.ga K "is_number")) := He.glo_ok X G (cd.fact 0 (f := .glo "is_number") rfl)
    have U_is_number : Fun K "is_number" "is_number" s_is_number (He.ga K "is_number") fd_is_number := fun_of F_is_number
    obtain ⟨fd_is_place, F_is_place⟩ := cd.def_ 1 (d := d_is_place) rfl
    have b_is_place : Binds K fd_is_place ["web", "thing"] [] := F_is_place.bindsN fun _ _ _ _ _ _ us hl => match us, hl with | [_, _], _ => rfl
    have g_is_place : mg "is_place" = some (.ref (He.ga K "is_place")) := He.glo_ok X G (cd.fact 1 (f := .glo "is_place") rfl)
    have U_is_place : Fun K "is_place" "is_place" s_is_place (He.ga K "is_place") fd_is_place := fun_of F_is_place
    obtain ⟨fd_tied, F_tied⟩ := cd.def_ 2 (d := d_tied) rfl
    have b_tied : Binds K fd_tied ["web", "a", "b"] [] := F_tied.bindsN fun _ _ _ _ _ _ us hl => match us, hl with | [_, _, _], _ => rfl
    have g_tied : mg "tied" = some (.ref (He.ga K "tied")) := He.glo_ok X G (cd.fact 2 (f := .glo "tied") rfl)
    have U_tied : Fun K "tied" "tied" s_tied (He.ga K "tied") fd_tied := fun_of F_tied
    obtain ⟨fd_tie_of, F_tie_of⟩ := cd.def_ 3 (d := d_tie_of) rfl
    have b_tie_of : Binds K fd_tie_of ["a", "b"] [] := F_tie_of.bindsN fun _ _ _ _ _ _ us hl => match us, hl with | [_, _], _ => rfl
    have g_tie_of : mg "tie_of" = some (.ref (He.ga K "tie_of")) := He.glo_ok X G (cd.fact 3 (f := .glo "tie_of") rfl)
    have U_tie_of : Fun K "tie_of" "tie_of" s_tie_of (He.ga K "tie_of") fd_tie_of := fun_of F_tie_of
    obtain ⟨fd_part_of, F_part_of⟩ := cd.def_ 4 (d := d_part_of) rfl
    have b_part_of : Binds K fd_part_of ["web", "places"] [] := F_part_of.bindsN fun _ _ _ _ _ _ us hl => match us, hl with | [_, _], _ => rfl
    have g_part_of : mg "part_of" = some (.ref (He.ga K "part_of")) := He.glo_ok X G (cd.fact 4 (f := .glo "part_of") rfl)
    have U_part_of : Fun K "part_of" "part_of" s_part_of (He.ga K "part_of") fd_part_of := fun_of F_part_of
    obtain ⟨fd_put_for, F_put_for⟩ := cd.def_ 5 (d := d_put_for) rfl
    have b_put_for : Binds K fd_put_for ["web", "place", "other"] [] := F_put_for.bindsN fun _ _ _ _ _ _ us hl => match us, hl with | [_, _, _], _ => rfl
    have g_put_for : mg "put_for" = some (.ref (He.ga K "put_for")) := He.glo_ok X G (cd.fact 5 (f := .glo "put_for") rfl)
    have U_put_for : Fun K "put_for" "put_for" s_put_for (He.ga K "put_for") fd_put_for := fun_of F_put_for
    obtain ⟨fd_numbers_behind, F_numbers_behind⟩ := cd.def_ 6 (d := d_numbers_behind) rfl
    have b_numbers_behind : Binds K fd_numbers_behind ["old", "place", "size"] [] := F_numbers_behind.bindsN fun _ _ _ _ _ _ us hl => match us, hl with | [_, _, _], _ => rfl
    have g_numbers_behind : mg "numbers_behind" = some (.ref (He.ga K "numbers_behind")) := He.glo_ok X G (cd.fact 6 (f := .glo "numbers_behind") rfl)
    have U_numbers_behind : Fun K "numbers_behind" "numbers_behind" s_numbers_behind (He.ga K "numbers_behind") fd_numbers_behind := fun_of F_numbers_behind
    obtain ⟨fd_is_module, F_is_module⟩ := cd.def_ 7 (d := d_is_module) rfl
    have b_is_module : Binds K fd_is_module ["web", "places"] [] := F_is_module.bindsN fun _ _ _ _ _ _ us hl => match us, hl with | [_, _], _ => rfl
    have g_is_module : mg "is_module" = some (.ref (He.ga K "is_module")) := He.glo_ok X G (cd.fact 7 (f := .glo "is_module") rfl)
    have U_is_module : Fun K "is_module" "is_module" s_is_module (He.ga K "is_module") fd_is_module := fun_of F_is_module
    obtain ⟨fd_least_module, F_least_module⟩ := cd.def_ 8 (d := d_least_module) rfl
    have b_least_module : Binds K fd_least_module ["web", "places"] [] := F_least_module.bindsN fun _ _ _ _ _ _ us hl => match us, hl with | [_, _], _ => rfl
    have g_least_module : mg "least_module" = some (.ref (He.ga K "least_module")) := He.glo_ok X G (cd.fact 8 (f := .glo "least_module") rfl)
    have U_least_module : Fun K "least_module" "least_module" s_least_module (He.ga K "least_module") fd_least_module := fun_of F_least_module
    obtain ⟨fd_least_among, F_least_among⟩ := cd.def_ 9 (d := d_least_among) rfl
    have b_least_among : Binds K fd_least_among ["web", "everything", "places"] [] := F_least_among.bindsN fun _ _ _ _ _ _ us hl => match us, hl with | [_, _, _], _ => rfl
    have g_least_among : mg "least_among" = some (.ref (He.ga K "least_among")) := He.glo_ok X G (cd.fact 9 (f := .glo "least_among") rfl)
    have U_least_among : Fun K "least_among" "least_among" s_least_among (He.ga K "least_among") fd_least_among := fun_of F_least_among
    obtain ⟨fd_is_parting, F_is_parting⟩ := cd.def_ 10 (d := d_is_parting) rfl
    have b_is_parting : Binds K fd_is_parting ["web", "place", "places"] [] := F_is_parting.bindsN fun _ _ _ _ _ _ us hl => match us, hl with | [_, _, _], _ => rfl
    have g_is_parting : mg "is_parting" = some (.ref (He.ga K "is_parting")) := He.glo_ok X G (cd.fact 10 (f := .glo "is_parting") rfl)
    have U_is_parting : Fun K "is_parting" "is_parting" s_is_parting (He.ga K "is_parting") fd_is_parting := fun_of F_is_parting
    obtain ⟨fd__law_mix, F__law_mix⟩ := cd.def_ 11 (d := d__law_mix) rfl
    have b__law_mix : Binds K fd__law_mix ["_law_cell", "_law_k"] [] := F__law_mix.bindsN fun _ _ _ _ _ _ us hl => match us, hl with | [_, _], _ => rfl
    have g__law_mix : mg "_law_mix" = some (.ref (He.ga K "_law_mix")) := He.glo_ok X G (cd.fact 11 (f := .glo "_law_mix") rfl)
    have U__law_mix : Fun K "_law_mix" "_law_mix" s__law_mix (He.ga K "_law_mix") fd__law_mix := fun_of F__law_mix
    obtain ⟨fd__law_left, F__law_left⟩ := cd.def_ 12 (d := d__law_left) rfl
    have b__law_left : Binds K fd__law_left ["_law_script", "_law_k"] [] := F__law_left.bindsN fun _ _ _ _ _ _ us hl => match us, hl with | [_, _], _ => rfl
    have g__law_left : mg "_law_left" = some (.ref (He.ga K "_law_left")) := He.glo_ok X G (cd.fact 12 (f := .glo "_law_left") rfl)
    have U__law_left : Fun K "_law_left" "_law_left" s__law_left (He.ga K "_law_left") fd__law_left := fun_of F__law_left
    obtain ⟨fd__law_pick, F__law_pick⟩ := cd.def_ 13 (d := d__law_pick) rfl
    have b__law_pick : Binds K fd__law_pick ["_law_left_here", "_law_many"] [] := F__law_pick.bindsN fun _ _ _ _ _ _ us hl => match us, hl with | [_, _], _ => rfl
    have g__law_pick : mg "_law_pick" = some (.ref (He.ga K "_law_pick")) := He.glo_ok X G (cd.fact 13 (f := .glo "_law_pick") rfl)
    have U__law_pick : Fun K "_law_pick" "_law_pick" s__law_pick (He.ga K "_law_pick") fd__law_pick := fun_of F__law_pick
    obtain ⟨fd__law_folded, F__law_folded⟩ := cd.def_ 14 (d := d__law_folded) rfl
    have b__law_folded : Binds K fd__law_folded ["_law_script", "_law_many"] [] := F__law_folded.bindsN fun _ _ _ _ _ _ us hl => match us, hl with | [_, _], _ => rfl
    have g__law_folded : mg "_law_folded" = some (.ref (He.ga K "_law_folded")) := He.glo_ok X G (cd.fact 14 (f := .glo "_law_folded") rfl)
    have U__law_folded : Fun K "_law_folded" "_law_folded" s__law_folded (He.ga K "_law_folded") fd__law_folded := fun_of F__law_folded
    obtain ⟨fd__law_pairs, F__law_pairs⟩ := cd.def_ 15 (d := d__law_pairs) rfl
    have b__law_pairs : Binds K fd__law_pairs ["_law_many"] [] := F__law_pairs.bindsN fun _ _ _ _ _ _ us hl => match us, hl with | [_], _ => rfl
    have g__law_pairs : mg "_law_pairs" = some (.ref (He.ga K "_law_pairs")) := He.glo_ok X G (cd.fact 15 (f := .glo "_law_pairs") rfl)
    have U__law_pairs : Fun K "_law_pairs" "_law_pairs" s__law_pairs (He.ga K "_law_pairs") fd__law_pairs := fun_of F__law_pairs
    obtain ⟨fd__law_any_web, F__law_any_web⟩ := cd.def_ 16 (d := d__law_any_web) rfl
    have b__law_any_web : Binds K fd__law_any_web ["_law_left_here", "_law_many"] [] := F__law_any_web.bindsN fun _ _ _ _ _ _ us hl => match us, hl with | [_, _], _ => rfl
    have g__law_any_web : mg "_law_any_web" = some (.ref (He.ga K "_law_any_web")) := He.glo_ok X G (cd.fact 16 (f := .glo "_law_any_web") rfl)
    have U__law_any_web : Fun K "_law_any_web" "_law_any_web" s__law_any_web (He.ga K "_law_any_web") fd__law_any_web := fun_of F__law_any_web
    obtain ⟨fd__law_row, F__law_row⟩ := cd.def_ 17 (d := d__law_row) rfl
    have b__law_row : Binds K fd__law_row ["_law_left_here", "_law_many"] [] := F__law_row.bindsN fun _ _ _ _ _ _ us hl => match us, hl with | [_, _], _ => rfl
    have g__law_row : mg "_law_row" = some (.ref (He.ga K "_law_row")) := He.glo_ok X G (cd.fact 17 (f := .glo "_law_row") rfl)
    have U__law_row : Fun K "_law_row" "_law_row" s__law_row (He.ga K "_law_row") fd__law_row := fun_of F__law_row
    obtain ⟨fd__law_row_web, F__law_row_web⟩ := cd.def_ 18 (d := d__law_row_web) rfl
    have b__law_row_web : Binds K fd__law_row_web ["_law_left_here", "_law_many"] [] := F__law_row_web.bindsN fun _ _ _ _ _ _ us hl => match us, hl with | [_, _], _ => rfl
    have g__law_row_web : mg "_law_row_web" = some (.ref (He.ga K "_law_row_web")) := He.glo_ok X G (cd.fact 18 (f := .glo "_law_row_web") rfl)
    have U__law_row_web : Fun K "_law_row_web" "_law_row_web" s__law_row_web (He.ga K "_law_row_web") fd__law_row_web := fun_of F__law_row_web
    obtain ⟨fd__law_ring_web, F__law_ring_web⟩ := cd.def_ 19 (d := d__law_ring_web) rfl
    have b__law_ring_web : Binds K fd__law_ring_web ["_law_left_here", "_law_many"] [] := F__law_ring_web.bindsN fun _ _ _ _ _ _ us hl => match us, hl with | [_, _], _ => rfl
    have g__law_ring_web : mg "_law_ring_web" = some (.ref (He.ga K "_law_ring_web")) := He.glo_ok X G (cd.fact 19 (f := .glo "_law_ring_web") rfl)
    have U__law_ring_web : Fun K "_law_ring_web" "_law_ring_web" s__law_ring_web (He.ga K "_law_ring_web") fd__law_ring_web := fun_of F__law_ring_web
    obtain ⟨fd__law_put_together, F__law_put_together⟩ := cd.def_ 20 (d := d__law_put_together) rfl
    have b__law_put_together : Binds K fd__law_put_together ["_law_left_here", "_law_many"] [] := F__law_put_together.bindsN fun _ _ _ _ _ _ us hl => match us, hl with | [_, _], _ => rfl
    have g__law_put_together : mg "_law_put_together" = some (.ref (He.ga K "_law_put_together")) := He.glo_ok X G (cd.fact 20 (f := .glo "_law_put_together") rfl)
    have U__law_put_together : Fun K "_law_put_together" "_law_put_together" s__law_put_together (He.ga K "_law_put_together") fd__law_put_together := fun_of F__law_put_together
    obtain ⟨fd__law_web, F__law_web⟩ := cd.def_ 21 (d := d__law_web) rfl
    have b__law_web : Binds K fd__law_web ["_law_left_here", "_law_most"] [] := F__law_web.bindsN fun _ _ _ _ _ _ us hl => match us, hl with | [_, _], _ => rfl
    have g__law_web : mg "_law_web" = some (.ref (He.ga K "_law_web")) := He.glo_ok X G (cd.fact 21 (f := .glo "_law_web") rfl)
    have U__law_web : Fun K "_law_web" "_law_web" s__law_web (He.ga K "_law_web") fd__law_web := fun_of F__law_web
    obtain ⟨fd__law_two_right, F__law_two_right⟩ := cd.def_ 22 (d := d__law_two_right) rfl
    have b__law_two_right : Binds K fd__law_two_right ["_law_web_here", "_law_one", "_law_other"] [] := F__law_two_right.bindsN fun _ _ _ _ _ _ us hl => match us, hl with | [_, _, _], _ => rfl
    have g__law_two_right : mg "_law_two_right" = some (.ref (He.ga K "_law_two_right")) := He.glo_ok X G (cd.fact 22 (f := .glo "_law_two_right") rfl)
    have U__law_two_right : Fun K "_law_two_right" "_law_two_right" s__law_two_right (He.ga K "_law_two_right") fd__law_two_right := fun_of F__law_two_right
    obtain ⟨fd__law_least_right, F__law_least_right⟩ := cd.def_ 23 (d := d__law_least_right) rfl
    have b__law_least_right : Binds K fd__law_least_right ["_law_left_here", "_law_web_here"] [] := F__law_least_right.bindsN fun _ _ _ _ _ _ us hl => match us, hl with | [_, _], _ => rfl
    have g__law_least_right : mg "_law_least_right" = some (.ref (He.ga K "_law_least_right")) := He.glo_ok X G (cd.fact 23 (f := .glo "_law_least_right") rfl)
    have U__law_least_right : Fun K "_law_least_right" "_law_least_right" s__law_least_right (He.ga K "_law_least_right") fd__law_least_right := fun_of F__law_least_right
    obtain ⟨fd__law_put_right, F__law_put_right⟩ := cd.def_ 24 (d := d__law_put_right) rfl
    have b__law_put_right : Binds K fd__law_put_right ["_law_left_here", "_law_web_here", "_law_other"] [] := F__law_put_right.bindsN fun _ _ _ _ _ _ us hl => match us, hl with | [_, _, _], _ => rfl
    have g__law_put_right : mg "_law_put_right" = some (.ref (He.ga K "_law_put_right")) := He.glo_ok X G (cd.fact 24 (f := .glo "_law_put_right") rfl)
    have U__law_put_right : Fun K "_law_put_right" "_law_put_right" s__law_put_right (He.ga K "_law_put_right") fd__law_put_right := fun_of F__law_put_right
    obtain ⟨fd_law, F_law⟩ := cd.def_ 25 (d := d_law) rfl
    have b_law : Binds K fd_law ["_law_script"] [] := F_law.bindsN fun _ _ _ _ _ _ us hl => match us, hl with | [_], _ => rfl
    have g_law : mg "law" = some (.ref (He.ga K "law")) := He.glo_ok X G (cd.fact 25 (f := .glo "law") rfl)
    have bA_law := FunD.bindsA (ps := ["_law_script"]) F_law fun _ _ _ _ _ _ us hl => match us, hl with | [_], _ => rfl
    have U_law : Fun K "law" "law" s_law (He.ga K "law") fd_law := fun_of F_law
    have B : Bts mg := ⟨He.free_ok X G (cd.fact 26 (f := .free "len") rfl), He.free_ok X G (cd.fact 27 (f := .free "range") rfl), He.free_ok X G (cd.fact 28 (f := .free "tuple") rfl), He.free_ok X G (cd.fact 29 (f := .free "list") rfl), He.free_ok X G (cd.fact 30 (f := .free "int") rfl), He.free_ok X G (cd.fact 31 (f := .free "abs") rfl), He.free_ok X G (cd.fact 32 (f := .free "min") rfl), He.free_ok X G (cd.fact 33 (f := .free "sorted") rfl), He.free_ok X G (cd.fact 34 (f := .free "set") rfl), He.free_ok X G (cd.fact 35 (f := .free "all") rfl), He.free_ok X G (cd.fact 36 (f := .free "any") rfl), He.free_ok X G (cd.fact 37 (f := .free "enumerate") rfl), He.free_ok X G (cd.fact 38 (f := .free "zip") rfl), He.free_ok X G (cd.fact 39 (f := .free "isinstance") rfl), He.free_ok X G (cd.fact 40 (f := .free "bool") rfl), He.free_ok X G (cd.fact 41 (f := .free "str") rfl), He.free_ok X G (cd.fact 42 (f := .free "dict") rfl), He.free_ok X G (cd.fact 43 (f := .free "max") rfl), He.free_ok X G (cd.fact 44 (f := .free "reversed") rfl), He.free_ok X G (cd.fact 45 (f := .free "sum") rfl)⟩

    have e := hfa.symm.trans g_law
    cases e
    refine ⟨fd_law, fun s v => bA_law s [v] rfl, fun base _ _ hT => ?_⟩
    have T_is_module : GxR.TabB base mg (He.cT K ("is_module", none)).1 (He.cT K ("is_module", none)).2 := (fun t => ⟨t.code, t.bm, t.gP⟩) (hT _ (List.mem_map.mpr ⟨("is_module", none), by simp [tfs], rfl⟩))
    have h_is_module : fd_is_module.code = .ref (He.cT K ("is_module", none)).1 := code_of U_is_module
    have k_mix : Cl P w K mg base 1 "_law_mix" sp_mix := Cl.mk' U__law_mix g__law_mix b__law_mix (ok_mix U__law_mix)
    have k_left : Cl P w K mg base 1 "_law_left" (sp_left K) := Cl.mk' U__law_left g__law_left b__law_left (ok_left B U__law_left)
    have k_pick : Cl P w K mg base 2 "_law_pick" sp_pick := Cl.mk' U__law_pick g__law_pick b__law_pick (ok_pick U__law_pick k_mix)
    have k_pairs : Cl P w K mg base 1 "_law_pairs" sp_pairs := Cl.mk' U__law_pairs g__law_pairs b__law_pairs (ok_pairs B U__law_pairs)
    have k_row : Cl P w K mg base 3 "_law_row" sp_row := Cl.mk' U__law_row g__law_row b__law_row (ok_row B U__law_row k_pick)
    have k_any : Cl P w K mg base 3 "_law_any_web" sp_gen := Cl.mk' U__law_any_web g__law_any_web b__law_any_web (ok_any_web B U__law_any_web k_pick k_pairs)
    have k_rw : Cl P w K mg base 4 "_law_row_web" sp_gen := Cl.mk' U__law_row_web g__law_row_web b__law_row_web (ok_row_web B U__law_row_web k_pick k_row)
    have k_ring : Cl P w K mg base 4 "_law_ring_web" sp_gen := Cl.mk' U__law_ring_web g__law_ring_web b__law_ring_web (ok_ring_web B U__law_ring_web k_pick k_row k_pairs)
    have k_put : Cl P w K mg base 4 "_law_put_together" sp_gen := Cl.mk' U__law_put_together g__law_put_together b__law_put_together (ok_put_together B U__law_put_together k_pick k_row)
    have k_web : Cl P w K mg base 5 "_law_web" sp_web := Cl.mk' U__law_web g__law_web b__law_web (ok_web B U__law_web k_pick k_any k_rw k_put k_ring)
    have k_tie_of : Cl P w K mg base 1 "tie_of" sp_tie_of := Cl.mk' U_tie_of g_tie_of b_tie_of (ok_tie_of B U_tie_of)
    have k_num : Cl P w K mg base 1 "is_number" sp_num := Cl.mk' U_is_number g_is_number b_is_number (ok_number B U_is_number)
    have k_tied : Cl P w K mg base 2 "tied" sp_tied := Cl.mk' U_tied g_tied b_tied (ok_tied B U_tied k_tie_of)
    have k_folded : Cl P w K mg base 1 "_law_folded" (sp_folded K) := Cl.mk' U__law_folded g__law_folded b__law_folded (ok_folded B U__law_folded)
    have k_place : Cl P w K mg base 2 "is_place" sp_place := Cl.mk' U_is_place g_is_place b_is_place (ok_place B U_is_place k_num)
    have k_parting : Cl P w K mg base 3 "is_parting" sp_parting := Cl.mk' U_is_parting g_is_parting b_is_parting (ok_parting B U_is_parting k_tied)
    have k_among : Cl P w K mg base 4 "least_among" sp_among := Cl.mk' U_least_among g_least_among b_least_among (ok_among B U_least_among k_parting)
    have k_least : Cl P w K mg base 5 "least_module" sp_least := Cl.mk' U_least_module g_least_module b_least_module (ok_least B U_least_module k_among)
    have k_module : Cl P w K mg base 6 "is_module" (sp_module (He.cT K ("is_module", none)).2) := Cl.mk' U_is_module g_is_module b_is_module (ok_module B U_is_module h_is_module T_is_module k_place k_least)
    have k_part : Cl P w K mg base 1 "part_of" sp_part := Cl.mk' U_part_of g_part_of b_part_of (ok_part_of B U_part_of)
    have k_behind : Cl P w K mg base 1 "numbers_behind" sp_behind := Cl.mk' U_numbers_behind g_numbers_behind b_numbers_behind (ok_behind B U_numbers_behind)
    have k_putfor : Cl P w K mg base 2 "put_for" sp_put := Cl.mk' U_put_for g_put_for b_put_for (ok_put_for B U_put_for k_behind)
    have k_two85 : Cl P w K mg base 7 "_law_two_right" (sp_two (He.cT K ("is_module", none)).2) := Cl.mk' U__law_two_right g__law_two_right b__law_two_right (ok_two B U__law_two_right k_module k_least)
    have k_lright : Cl P w K mg base 8 "_law_least_right" (sp_lright (He.cT K ("is_module", none)).2) := Cl.mk' U__law_least_right g__law_least_right b__law_least_right (ok_lright B U__law_least_right k_pick k_least k_module k_two85)
    have k_pright : Cl P w K mg base 8 "_law_put_right" (sp_pright (He.cT K ("is_module", none)).2) := Cl.mk' U__law_put_right g__law_put_right b__law_put_right (ok_pright B U__law_put_right k_pick k_putfor k_part k_least k_module)
    exact ok_law B U_law k_left k_web k_folded k_lright k_pright

end My
open PySem PySem.W PySem.Calls PyProof.Rows
set_option maxHeartbeats 0 in
theorem PySem.Challenge.cw_pointedties_k85_whole_modules_walked_holds : PySem.Challenge.rw_pointedties_k85_whole_modules_walked.Holds := by
  w_on; o_law
  refine HandSHeadRun.head_any (r := My.Rw) (q := view My.Rw.prog [29]) (H := My.hk) (ob := My.ob) (M := 4000) (loose := My.others) (d := HandSHeadRun.topDef My.Rw.prog 29) (kwd := []) My.ob_eq
    (by kernel_rfl) (fun s => by kernel_rfl) My.run (by kernel_rfl) (by kernel_rfl) (by kernel_rfl) (by rfl) (by first | assumption | decide +kernel) (by decide +kernel) ⟨rfl, rfl, rfl, rfl, rfl, by decide +kernel⟩ ?hw ?hc
  case hw => w_witness2
  case hc =>
    refine My.walk_top (l := PySem.Challenge.rw_pointedties_k85_whole_modules_walked) (n := 63) (y := "_law_script") rfl (by decide) (by kernel_rfl) ?F
    intro w mg fa h Y G hmg0
    obtain ⟨K, KX, c⟩ := Y
    have hmg : mg ("law" : PySem.Str) = some (.ref fa) := by
      have e : (HandSHeadRun.topDef My.Rw.prog 29).name = ("law" : PySem.Str) := by kernel_rfl
      rw [← e]; exact hmg0
    obtain ⟨fd, hb, hF⟩ := My.law_ok (P := (PySem.Challenge.rw_pointedties_k85_whole_modules_walked).prog) (w := w) KX G hmg c
    have inT : ∀ p ∈ My.tfs.map (He.cT K), ∃ q ∈ My.tfs, p = He.cT K q := fun p hp => by
      obtain ⟨q, hq, e⟩ := List.mem_map.mp hp
      exact ⟨q, hq, e.symm⟩
    refine ⟨K, KX, fd, My.tfs.map (He.cT K), _, fun p hp => ?_, fun p hp => ?_, fun p hp => ?_, hb, fun H a ns hl _ hT hS => ?_, hF⟩
    · obtain ⟨q, hq, rfl⟩ := inT p hp; exact c.empty q hq
    · obtain ⟨q, hq, rfl⟩ := inT p hp; exact c.out q hq
    · obtain ⟨q, hq, rfl⟩ := inT p hp; exact PySem.W.codeHd_of_K KX (c.hd q hq)
    · exact ⟨a, ns, rfl, hS, hl, ⟨_, hT _ (List.mem_map.mpr ⟨_, by simp [My.tfs], rfl⟩), True.intro⟩, fun _ => rfl⟩
