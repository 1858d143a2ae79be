import PyProof.Rows.All
import Wide.All
import OpenK.AllK
import Wide.FinOn
import HandS.ForMost
import HandS.More
import HandS.SortRule
import HandS.SortInts
import HandS.TupSets
import HandS.Deep
import HandS.IsInst
import HandS.DictComp
import HandS.Style
import HandS.Flow
import HandS.TupAny
import HandS.Walk
import HandS.AnyAll
import HandS.GenOver
import PyProof.GenQ
import PyProof.GenComp
import PyProof.ConsumeS
import HandS.Zip
import HandS.Defaults
import PySem.Challenge.RW_pointedties_k01_what_webs_are
import HandS.HeadWalk
import PyProof.ReprRoads
import KE.GoesNew
import KE.GoesMore
import KE.KStateDown
import HandS.Head0
import HandS.Head1
import HandS.Head2
import HandS.HeadEnd
import HandS.HeadHook1
import HandS.HeadHook2
import HandS.HeadHook3
import HandS.HeadHook4
set_option Elab.async false
set_option linter.all false
set_option maxRecDepth 100000
namespace My
open PySem PySem.Spec PyProof.Rows L2

/-! ### a def that may be called by its name -/
structure Cl (P : Program) (w : World) (K : PySem.W.Frag) (mg : Str → Option Value) (base : Heap)
    (k : Nat) (x : Str) (sp : Sp) : Prop where
  ex : ∃ (f : Addr) (fd : FuncData) (ps : List Str), FnOk P w K mg base CX0 k f fd ps sp ∧
    mg x = some (.ref f) ∧ PySem.W.keepIn K (.ref f) = true ∧ Binds K fd ps []
theorem Cl.mk' {P : Program} {w : World} {K : PySem.W.Frag} {mg : Str → Option Value} {base : Heap} {k : Nat} {x : Str} {sp : Sp}
    {st : Stmt} {f : Addr} {fd : FuncData} {ps : List Str} (F : Fun K x x st f fd) (hm : mg x = some (.ref f))
    (hb : Binds K fd ps []) (ok : FnOk P w K mg base CX0 k f fd ps sp) : Cl P w K mg base k x sp := ⟨f, fd, ps, ok, hm, F.kp, hb⟩
theorem pe_c {X : Cx} {k j : Nat} {x : Str} {sp : Sp} {p pos : Pos} {e : Expr} {es : List Expr} {t : TA}
    (c : Cl X.prog X.w X.K X.mg X.base k x sp) (hr : Room j X.A) (hk : k ≤ j) (hg : Gl X x) (ha : PA X (e :: es) t)
    (h1 : (x == ("__debug__" : Str)) = false := by decide)
    (h2 : starEach (e :: es) X.env = (false, eval e X.env) :: starEach es X.env := by rfl)
    (h3 : (backTo pos (starEach es X.env)).any (·.1) = false := by rfl) :
    PE X (.Call (.Name x p) (e :: es) [] pos) (tCall sp [] E0 t) := by
  obtain ⟨f, fd, ps, F, hm, kp, b⟩ := c.ex
  exact pe_call F (hr.mono hk) hg hm kp b .nil pass0 ha h1 h2 h3

/-! ### heaps: all stays but the list of draws at L -/
def Fr (L : Addr) (H H' : Hp) : Prop := ∀ b o, b ≠ L → H b = some o → H' b = some o
theorem Fr.refl (L : Addr) (H : Hp) : Fr L H H := fun _ _ _ h => h
theorem Fr.trans {L : Addr} {H H1 H2 : Hp} (a : Fr L H H1) (b : Fr L H1 H2) : Fr L H H2 :=
  fun c o n h => b c o n (a c o n h)
theorem Fr.of {L : Addr} {H H' : Hp} (a : Same H H') : Fr L H H' := fun b o _ h => a b o h
theorem same_new {H : Hp} {p : Addr} {o : HO} (h : H p = none) : Same H (upd H p o) := fun b x e => by
  rw [upd_ne (ne_of_none e h)]; exact e
theorem Fr.new {L : Addr} {H : Hp} {p : Addr} {o : HO} (h : H p = none) : Fr L H (upd H p o) := Fr.of (same_new h)
/-- what is new to the first heap may change -/
theorem Fr.put {L : Addr} {H H' : Hp} {p : Addr} {o : HO} (a : Fr L H H') (h : H p = none) : Fr L H (upd H' p o) :=
  fun b x n e => by rw [upd_ne (ne_of_none e h)]; exact a b x n e
theorem Same.put {H H' : Hp} {p : Addr} {o : HO} (a : Same H H') (h : H p = none) : Same H (upd H' p o) :=
  fun b x e => by rw [upd_ne (ne_of_none e h)]; exact a b x e
theorem Fr.putL {L : Addr} {H H' : Hp} {o : HO} (a : Fr L H H') : Fr L H (upd H' L o) :=
  fun b x n e => by rw [upd_ne n]; exact a b x n e

/-! ### the list of draws -/
def Lf (H : Hp) (L : Addr) (c : Int) : Prop :=
  ∃ x y z : Int, H L = some (.lst [.int x, .int y, .int z]) ∧ 0 ≤ x ∧ 0 ≤ z ∧ z ≤ c
theorem Lf.mono {H : Hp} {L : Addr} {c d : Int} (h : Lf H L c) (e : c ≤ d) : Lf H L d := by
  obtain ⟨x, y, z, h1, h2, h3, h4⟩ := h
  exact ⟨x, y, z, h1, h2, h3, Int.le_trans h4 e⟩
theorem Lf.same {H H' : Hp} {L : Addr} {c : Int} (h : Lf H L c) (e : Same H H') : Lf H' L c := by
  obtain ⟨x, y, z, h1, h2⟩ := h
  exact ⟨x, y, z, e _ _ h1, h2⟩
theorem Lf.new {H : Hp} {L p : Addr} {c : Int} {o : HO} (h : Lf H L c) (e : H p = none) : Lf (upd H p o) L c := h.same (same_new e)
theorem Lf.ne {H : Hp} {L p : Addr} {c : Int} (h : Lf H L c) (e : H p = none) : p ≠ L := by
  obtain ⟨x, y, z, h1, h2⟩ := h
  rintro rfl; rw [h1] at e; cases e
theorem Lf.put {H : Hp} {L p : Addr} {c : Int} {o : HO} (h : Lf H L c) (e : p ≠ L) : Lf (upd H p o) L c := by
  obtain ⟨x, y, z, h1, h2⟩ := h
  exact ⟨x, y, z, by rw [upd_ne (Ne.symm e)]; exact h1, h2⟩
theorem Lf.free {H H' : Hp} {L p : Addr} {c' : Int} (a : Fr L H H') (h' : Lf H' L c') (e : H' p = none) : H p = none := by
  have n := h'.ne e
  cases q : H p with
  | none => rfl
  | some o => rw [a p o n q] at e; cases e
theorem Lf.tup {H H' : Hp} {L p : Addr} {c : Int} {xs : List V} (a : Fr L H H') (h : Lf H L c) (e : H p = some (.tup xs)) : H' p = some (.tup xs) := by
  refine a p _ ?_ e
  obtain ⟨x, y, z, h1, h2⟩ := h
  rintro rfl; rw [h1] at e; cases e

/-! ### ties, rows of ties, webs -/
def Tie (H : Hp) (v : V) (t : Int × Int) : Prop := ∃ p, v = .ref p ∧ H p = some (.tup [.int t.1, .int t.2])
def Ties (H : Hp) : List V → List (Int × Int) → Prop
  | [], [] => True
  | v :: vs, t :: ts => Tie H v t ∧ Ties H vs ts
  | _, _ => False
/-- tuples stay -/
def Tst (H H' : Hp) : Prop := ∀ b xs, H b = some (.tup xs) → H' b = some (.tup xs)
theorem Tst.refl (H : Hp) : Tst H H := fun _ _ h => h
theorem Tst.trans {H H1 H2 : Hp} (a : Tst H H1) (b : Tst H1 H2) : Tst H H2 := fun c o h => b c o (a c o h)
theorem Same.tst {H H' : Hp} (a : Same H H') : Tst H H' := fun b xs h => a b _ h
theorem Lf.tst {H H' : Hp} {L : Addr} {c : Int} (h : Lf H L c) (a : Fr L H H') : Tst H H' := fun b xs e => Lf.tup a h e
theorem tst_new {H : Hp} {p : Addr} {o : HO} (h : H p = none) : Tst H (upd H p o) := Same.tst (same_new h)
theorem tst_put {H : Hp} {p : Addr} {o : HO} {xs : List V} (h : H p = some (.lst xs)) : Tst H (upd H p o) := fun b ys e => by
  rw [upd_ne]
  · exact e
  · rintro rfl; rw [h] at e; cases e
theorem Tie.mono {H H' : Hp} {v : V} {t : Int × Int} (a : Tst H H') (h : Tie H v t) : Tie H' v t := by
  obtain ⟨p, e, h⟩ := h
  exact ⟨p, e, a _ _ h⟩
theorem Ties.mono {H H' : Hp} (a : Tst H H') : ∀ {vs : List V} {ts : List (Int × Int)}, Ties H vs ts → Ties H' vs ts
  | [], [], _ => trivial
  | _ :: _, _ :: _, h => ⟨h.1.mono a, Ties.mono a h.2⟩
  | [], _ :: _, h => h.elim
  | _ :: _, [], h => h.elim
theorem Ties.app {H : Hp} : ∀ {vs : List V} {ts : List (Int × Int)} {us : List V} {rs : List (Int × Int)}, Ties H vs ts → Ties H us rs → Ties H (vs ++ us) (ts ++ rs)
  | [], [], _, _, _, k => k
  | _ :: _, _ :: _, _, _, h, k => ⟨h.1, Ties.app h.2 k⟩
  | [], _ :: _, _, _, h, _ => h.elim
  | _ :: _, [], _, _, h, _ => h.elim
theorem Ties.len {H : Hp} : ∀ {vs : List V} {ts : List (Int × Int)}, Ties H vs ts → vs.length = ts.length
  | [], [], _ => rfl
  | _ :: _, _ :: _, h => congrArg (· + 1) (Ties.len h.2)
  | [], _ :: _, h => h.elim
  | _ :: _, [], h => h.elim
theorem Ties.at {H : Hp} : ∀ {vs : List V} {ts : List (Int × Int)} {i : Nat} {v : V}, Ties H vs ts → vs[i]? = some v → ∃ t, ts[i]? = some t ∧ Tie H v t
  | [], [], _, _, _, e => by cases e
  | _ :: _, t :: _, 0, _, h, e => by cases e; exact ⟨t, rfl, h.1⟩
  | _ :: _, _ :: _, i + 1, _, h, e => Ties.at (i := i) h.2 e
  | [], _ :: _, _, _, h, _ => h.elim
  | _ :: _, [], _, _, h, _ => h.elim
theorem Ties.one {H : Hp} {v : V} {t : Int × Int} (h : Tie H v t) : Ties H [v] [t] := ⟨h, trivial⟩
theorem Tie.new {H : Hp} {p : Addr} {a b : Int} : Tie (upd H p (.tup [.int a, .int b])) (.ref p) (a, b) := ⟨p, rfl, upd_same⟩

/-! ### what a web is -/
def ltT (s t : Int × Int) : Prop := s.1 < t.1 ∨ (s.1 = t.1 ∧ s.2 < t.2)
def WOk (n : Nat) (ts : List (Int × Int)) : Prop := ts.Pairwise ltT ∧ ∀ t ∈ ts, 0 ≤ t.1 ∧ t.1 < t.2 ∧ t.2 < (n : Int)
def Web (H : Hp) (v : V) (n : Nat) (ts : List (Int × Int)) : Prop :=
  ∃ p q vs, v = .ref p ∧ H p = some (.tup [.int (n : Int), .ref q]) ∧ H q = some (.tup vs) ∧ Ties H vs ts
theorem Web.mono {H H' : Hp} {v : V} {n : Nat} {ts : List (Int × Int)} (a : Tst H H') (h : Web H v n ts) : Web H' v n ts := by
  obtain ⟨p, q, vs, e, h1, h2, h3⟩ := h
  exact ⟨p, q, vs, e, a _ _ h1, a _ _ h2, h3.mono a⟩

theorem sz {n : Nat} (h : n ≤ 100000) : n ≤ sizeLine := Nat.le_trans h (by decide)
theorem sz' {n : Nat} (h : n < 100000) : n < sizeLine := Nat.lt_of_lt_of_le h (by decide)

theorem bi (b : Bool) : -(2 ^ 64) < (if b = true then (1 : Int) else 0) ∧ (if b = true then (1 : Int) else 0) < 2 ^ 64 ∧ 0 ≤ (if b = true then (1 : Int) else 0) := by
  cases b <;> decide

theorem yes {σ : L2.St} {H : Hp} {R N : Hp → Prop} (h : R H) : tYes σ H (fun b H3 => if b = true then R H3 else N H3) := by
  show (if true = true then R H else N H)
  exact iteT h

/-! ### all pairs, rising -/
def prow (a : Nat) (j : Nat) : List (Int × Int) := (List.range j).map fun (i : Nat) => ((a : Int), (a : Int) + 1 + (i : Int))
def pup (n i : Nat) : List (Int × Int) := (List.range i).flatMap fun a => prow a (n - (a + 1))
theorem prow_succ (a j : Nat) : prow a (j + 1) = prow a j ++ [((a : Int), (a : Int) + 1 + (j : Int))] := by
  unfold prow; rw [List.range_succ, List.map_append]; rfl
theorem pup_succ (n i : Nat) : pup n (i + 1) = pup n i ++ prow i (n - (i + 1)) := by
  unfold pup; rw [List.range_succ, List.flatMap_append, List.flatMap_singleton]
theorem prow_len (a j : Nat) : (prow a j).length = j := by unfold prow; rw [List.length_map, List.length_range]
theorem mem_prow {a j : Nat} {t : Int × Int} : t ∈ prow a j ↔ t.1 = a ∧ (a : Int) < t.2 ∧ t.2 < (a : Int) + 1 + j := by
  unfold prow
  rw [List.mem_map]
  constructor
  · rintro ⟨i, hi, rfl⟩
    have := List.mem_range.mp hi
    refine ⟨rfl, ?_, ?_⟩ <;> dsimp only <;> omega
  · rintro ⟨h1, h2, h3⟩
    refine ⟨(t.2 - a - 1).toNat, List.mem_range.mpr (by omega), ?_⟩
    cases t with
    | mk x y =>
      dsimp only at h1 h2 h3
      rw [h1]
      congr 1
      omega
theorem mem_pup {n i : Nat} {t : Int × Int} (hi : i ≤ n) : t ∈ pup n i ↔ 0 ≤ t.1 ∧ t.1 < i ∧ t.1 < t.2 ∧ t.2 < n := by
  unfold pup
  rw [List.mem_flatMap]
  constructor
  · rintro ⟨a, ha, h⟩
    have := List.mem_range.mp ha
    have := mem_prow.mp h
    omega
  · rintro ⟨h1, h2, h3, h4⟩
    refine ⟨t.1.toNat, List.mem_range.mpr (by omega), mem_prow.mpr ?_⟩
    omega
theorem prow_pw (a : Nat) : ∀ j, (prow a j).Pairwise ltT
  | 0 => by exact List.Pairwise.nil
  | j + 1 => by
    rw [prow_succ, List.pairwise_append]
    refine ⟨prow_pw a j, List.pairwise_singleton _ _, fun s hs t ht => ?_⟩
    have h := mem_prow.mp hs
    have e := List.mem_singleton.mp ht
    subst e
    refine .inr ⟨h.1, ?_⟩
    show s.2 < (a : Int) + 1 + j
    omega
theorem pup_pw (n : Nat) : ∀ i, i ≤ n → (pup n i).Pairwise ltT
  | 0, _ => by exact List.Pairwise.nil
  | i + 1, h => by
    rw [pup_succ, List.pairwise_append]
    refine ⟨pup_pw n i (by omega), prow_pw i _, fun s hs t ht => ?_⟩
    have h1 := (mem_pup (by omega)).mp hs
    have h2 := mem_prow.mp ht
    refine .inl ?_
    omega
theorem pup_len (n : Nat) : ∀ i, (pup n i).length ≤ i * n
  | 0 => Nat.zero_le _
  | i + 1 => by
    rw [pup_succ, List.length_append, prow_len, Nat.succ_mul]
    have := pup_len n i
    omega
theorem pup_len' {n i : Nat} (hn : n ≤ 100) (hi : i ≤ n) : (pup n i).length ≤ 10000 :=
  Nat.le_trans (pup_len n i) (Nat.le_trans (Nat.mul_le_mul (Nat.le_trans hi hn) hn) (by decide))
theorem wok_sub {n : Nat} {ts : List (Int × Int)} (h : ts.Sublist (pup n n)) : WOk n ts :=
  ⟨(pup_pw n n (Nat.le_refl n)).sublist h, fun t ht => by
    have := (mem_pup (Nat.le_refl n)).mp (h.subset ht)
    omega⟩

/-! ### the numbers below n -/
def up (n : Nat) : List Int := (List.range n).map fun (i : Nat) => (i : Int)
theorem up_succ (n : Nat) : up (n + 1) = up n ++ [(n : Int)] := by unfold up; rw [List.range_succ, List.map_append]; rfl
theorem up_len (n : Nat) : (up n).length = n := by unfold up; rw [List.length_map, List.length_range]
theorem mem_up {n : Nat} {x : Int} : x ∈ up n ↔ 0 ≤ x ∧ x < n := by
  unfold up
  rw [List.mem_map]
  constructor
  · rintro ⟨i, hi, rfl⟩
    have := List.mem_range.mp hi
    omega
  · intro h
    exact ⟨x.toNat, List.mem_range.mpr (by omega), by omega⟩
theorem up_nodup (n : Nat) : (up n).Nodup := by
  unfold up
  rw [List.nodup_iff_pairwise_ne, List.pairwise_map]
  exact (List.nodup_iff_pairwise_ne.mp List.nodup_range).imp fun h e => h (by omega)
theorem ins_perm {α : Type} (l : List α) (x : α) (k : Nat) : (l.take k ++ [x] ++ l.drop k).Perm (l ++ [x]) := by
  have h : (l.take k ++ [x] ++ l.drop k).Perm (l.take k ++ (l.drop k ++ [x])) := by
    rw [List.append_assoc]
    exact List.Perm.append_left _ List.perm_append_comm
  refine h.trans ?_
  rw [← List.append_assoc, List.take_append_drop]

/-! ### where a number stands in a list -/
theorem all_flat (ns : List Int) : (ns.map V.int).all flatV = true := by
  rw [List.all_map, List.all_eq_true]; intro x _; rfl
theorem idx_at {ns : List Int} {x : Int} (h : x ∈ ns) : (ns.map V.int)[ns.idxOf x]? = some (.int x) := by
  have hl := List.idxOf_lt_length_of_mem h
  rw [List.getElem?_map, List.getElem?_eq_getElem hl, List.getElem_idxOf hl]; rfl
theorem idx_first {ns : List Int} {x : Int} : ∀ (m : Nat) (z : V), m < ns.idxOf x → (ns.map V.int)[m]? = some z → eqV z (.int x) = false := by
  intro m z hm hz
  rw [List.getElem?_map] at hz
  have hml : m < ns.length := Nat.lt_of_lt_of_le hm List.idxOf_le_length
  rw [List.getElem?_eq_getElem hml] at hz
  cases hz
  have : ns[m] ≠ x := fun e => by
    have := List.not_of_lt_findIdx (xs := ns) (p := fun y => y == x) hm
    rw [e] at this
    simp at this
  exact beq_eq_false_iff_ne.mpr this

/-! ### readings by name -/
abbrev rLenK (K : PySem.W.Frag) : List V → Hp → VK → Prop :=
  fun xs H Q => ∃ p ys, xs = [.ref p] ∧ (SqL K H p ys ∨ SqT K H p ys) ∧ Q (.int ys.length) H
abbrev rTupK (K : PySem.W.Frag) : List V → Hp → VK → Prop :=
  fun xs H Q => ∃ p ys, xs = [.ref p] ∧ ((SqL K H p ys ∧ ∀ l, H l = none → Q (.ref l) (upd H l (.tup ys))) ∨ (SqT K H p ys ∧ Q (.ref p) H))
abbrev rLstK (K : PySem.W.Frag) : List V → Hp → VK → Prop :=
  fun xs H Q => ∃ p ys, xs = [.ref p] ∧ (SqL K H p ys ∨ SqT K H p ys) ∧ ∀ l, H l = none → Q (.ref l) (upd H l (.lst ys))

/-! ### the built-in names -/
structure Bts (mg : Str → Option Value) : Prop where
  len : mg "len" = none
  range : mg "range" = none
  tuple : mg "tuple" = none
  list : mg "list" = none
  int : mg "int" = none
  abs : mg "abs" = none
  min : mg "min" = none
  sorted : mg "sorted" = none
  set : mg "set" = none
  all : mg "all" = none
  any : mg "any" = none
  enumerate : mg "enumerate" = none
  zip : mg "zip" = none
  isinstance : mg "isinstance" = none
  bool : mg "bool" = none
  str : mg "str" = none
  dict : mg "dict" = none
  max : mg "max" = none
  reversed : mg "reversed" = none
  sum : mg "sum" = none
end My

set_option Elab.async false
set_option linter.all false
set_option maxRecDepth 100000
namespace My
open PySem PySem.Spec PyProof.Rows L2

/-! ### the pair that a value tells -/
theorem Tie.inj {H : Hp} {v : V} {s t : Int × Int} (h : Tie H v s) (k : Tie H v t) : s = t := by
  obtain ⟨p, rfl, h⟩ := h
  obtain ⟨q, e, k⟩ := k
  cases e
  rw [h] at k
  cases s; cases t
  cases k
  rfl
open Classical in
noncomputable def key (H : Hp) (v : V) : Int × Int := if h : ∃ t, Tie H v t then h.choose else (0, 0)
theorem key_of {H : Hp} {v : V} {t : Int × Int} (h : Tie H v t) : key H v = t := by
  unfold key
  rw [dif_pos ⟨t, h⟩]
  exact (Exists.choose_spec (⟨t, h⟩ : ∃ t, Tie H v t)).inj h
theorem Ties.key {H : Hp} : ∀ {vs : List V} {ts : List (Int × Int)}, Ties H vs ts → ts = vs.map (My.key H)
  | [], [], _ => rfl
  | _ :: _, _ :: _, h => by rw [List.map_cons, key_of h.1, ← Ties.key h.2]
  | [], _ :: _, h => h.elim
  | _ :: _, [], h => h.elim
theorem Ties.all {H : Hp} : ∀ {vs : List V} {ts : List (Int × Int)}, Ties H vs ts → ∀ v ∈ vs, Tie H v (My.key H v)
  | [], [], _, _, hv => by cases hv
  | _ :: _, _ :: _, h, v, hv => by
    rcases List.mem_cons.mp hv with rfl | hv
    · rw [key_of h.1]; exact h.1
    · exact Ties.all h.2 v hv
  | [], _ :: _, h, _, _ => h.elim
  | _ :: _, [], h, _, _ => h.elim
theorem ties_mk {H : Hp} : ∀ {vs : List V}, (∀ v ∈ vs, Tie H v (My.key H v)) → Ties H vs (vs.map (My.key H))
  | [], _ => trivial
  | v :: vs, h => ⟨h v List.mem_cons_self, ties_mk fun u hu => h u (List.mem_cons_of_mem _ hu)⟩

/-! ### a list of ties, sorted -/
theorem srt_ties {H : Hp} {xs ys : List V} {ts : List (Int × Int)} (hs : SrtO.Srtd (ltP (My.key H)) ys) (hb : ys.Perm xs) (hT : Ties H xs ts) :
    ∃ ts', Ties H ys ts' ∧ ts'.Perm ts ∧ ts'.Pairwise (fun s t => ¬ ltT t s) := by
  refine ⟨ys.map (My.key H), ties_mk fun v hv => hT.all v (hb.mem_iff.mp hv), ?_, ?_⟩
  · rw [hT.key]; exact hb.map _
  · rw [List.pairwise_map]
    refine hs.imp fun {a b} h l => ?_
    have : ltP (My.key H) b a = true := SrtO.lexB_iff.mpr l
    rw [this] at h
    cases h
theorem ltT_tri (s t : Int × Int) : ltT s t ∨ s = t ∨ ltT t s := by
  cases s with | mk a b =>
  cases t with | mk c d =>
  unfold ltT
  by_cases h1 : a < c
  · exact .inl (.inl h1)
  · by_cases h2 : c < a
    · exact .inr (.inr (.inl h2))
    · have e : a = c := by omega
      subst e
      by_cases h3 : b < d
      · exact .inl (.inr ⟨rfl, h3⟩)
      · by_cases h4 : d < b
        · exact .inr (.inr (.inr ⟨rfl, h4⟩))
        · have e : b = d := by omega
          subst e
          exact .inr (.inl rfl)
theorem ltT_irr {s : Int × Int} : ¬ ltT s s := by unfold ltT; omega
theorem ltT_tr {s t u : Int × Int} (h : ltT s t) (k : ltT t u) : ltT s u := by unfold ltT at *; omega
theorem pw_lt {ts : List (Int × Int)} (h : ts.Pairwise (fun s t => ¬ ltT t s)) (nd : ts.Nodup) : ts.Pairwise ltT := by
  refine (h.and (List.nodup_iff_pairwise_ne.mp nd)).imp ?_
  rintro s t ⟨h1, h2⟩
  rcases ltT_tri s t with h | h | h
  · exact h
  · exact absurd h h2
  · exact absurd h h1
/-- two rising lists with the same items are one -/
theorem pw_eq : ∀ {as bs : List (Int × Int)}, as.Pairwise ltT → bs.Pairwise ltT → (∀ t, t ∈ as ↔ t ∈ bs) → as = bs
  | [], [], _, _, _ => rfl
  | [], b :: bs, _, _, h => by have := (h b).mpr List.mem_cons_self; cases this
  | a :: as, [], _, _, h => by have := (h a).mp List.mem_cons_self; cases this
  | a :: as, b :: bs, ha, hb, h => by
    have ha' := List.pairwise_cons.mp ha
    have hb' := List.pairwise_cons.mp hb
    have e : a = b := by
      rcases List.mem_cons.mp ((h a).mp List.mem_cons_self) with e | m1
      · exact e
      · rcases List.mem_cons.mp ((h b).mpr List.mem_cons_self) with e | m2
        · exact e.symm
        · exact absurd (ltT_tr (ha'.1 b m2) (hb'.1 a m1)) ltT_irr
    subst e
    rw [pw_eq ha'.2 hb'.2 fun t => ⟨fun m => ?_, fun m => ?_⟩]
    · rcases List.mem_cons.mp ((h t).mp (List.mem_cons_of_mem _ m)) with e | m'
      · subst e; exact absurd (ha'.1 t m) ltT_irr
      · exact m'
    · rcases List.mem_cons.mp ((h t).mpr (List.mem_cons_of_mem _ m)) with e | m'
      · subst e; exact absurd (hb'.1 t m) ltT_irr
      · exact m'

/-! ### ties as data -/
def dT (t : Int × Int) : PyData := .tuple [.int t.1, .int t.2]
theorem Tie.dp {K : PySem.W.Frag} {H : Hp} {v : V} {t : Int × Int} (h : Tie H v t) : Dp K H v (dT t) := by
  obtain ⟨p, rfl, h⟩ := h
  exact .tup (Or.inl (Or.inl h)) (.cons (.int _) (.cons (.int _) .nil))
theorem Ties.dp {K : PySem.W.Frag} {H : Hp} : ∀ {vs : List V} {ts : List (Int × Int)}, Ties H vs ts → DpAll K H vs (ts.map dT)
  | [], [], _ => .nil
  | _ :: _, _ :: _, h => .cons h.1.dp (Ties.dp h.2)
  | [], _ :: _, h => h.elim
  | _ :: _, [], h => h.elim
theorem shaped_dT (t : Int × Int) : SeqAt.shaped (dT t) = true := rfl
theorem can_ties (ts : List (Int × Int)) : PyData.canLayAll0 (ts.map dT) = true := by
  induction ts with
  | nil => rfl
  | cons t ts ih => rw [List.map_cons, PyData.canLayAll0, ih]; rfl
theorem dep_ties (ts : List (Int × Int)) : PyData.depthAll (ts.map dT) ≤ 1 := by
  induction ts with
  | nil => exact Nat.zero_le _
  | cons t ts ih =>
    rw [List.map_cons, PyData.depthAll]
    exact Nat.max_le.mpr ⟨Nat.le_refl _, ih⟩
theorem shaped_ties (ts : List (Int × Int)) : SeqAt.shaped (.list (ts.map dT)) = true := by
  unfold SeqAt.shaped
  rw [Bool.and_eq_true, decide_eq_true_eq]
  refine ⟨can_ties ts, ?_⟩
  show PyData.depthAll (ts.map dT) + 1 ≤ 64
  have := dep_ties ts
  omega
theorem eqv_dT (s t : Int × Int) : PyData.eqv (dT s) (dT t) = decide (s = t) := by
  cases s with | mk a b =>
  cases t with | mk c d =>
  show ((a == c) && ((b == d) && true)) = _
  by_cases h : a = c <;> by_cases k : b = d <;> simp [h, k]
theorem two {A : Hp → Prop} {C : Prop} (R : Hp → Prop) (k : (∀ H, R H → A H) → C) (h : ∀ H, R H → A H) : C := k h
theorem at_mem {ns : List Int} {j : Int} (h1 : -(ns.length : Int) ≤ j) (h2 : j < ns.length) : ∃ x, atI (ns.map V.int) j = some (.int x) ∧ x ∈ ns := by
  unfold atI ixN
  rw [List.length_map]
  by_cases h0 : 0 ≤ j
  · have hl : j.toNat < ns.length := by omega
    rw [if_pos h0, if_pos h2]
    refine ⟨ns[j.toNat], ?_, List.getElem_mem hl⟩
    show (ns.map V.int)[j.toNat]? = _
    rw [List.getElem?_map, List.getElem?_eq_getElem hl]; rfl
  · have hl : (j + ns.length).toNat < ns.length := by omega
    rw [if_neg h0, if_pos h1]
    refine ⟨ns[(j + ns.length).toNat], ?_, List.getElem_mem hl⟩
    show (ns.map V.int)[(j + ns.length).toNat]? = _
    rw [List.getElem?_map, List.getElem?_eq_getElem hl]; rfl
theorem perm2 {ns : List Int} {x y : Int} (h : ns.Perm [x, y]) (s : ns.Pairwise (· ≤ ·)) : ns = [if x ≤ y then x else y, if x ≤ y then y else x] := by
  match ns, h.length_eq with
  | [a, b], _ =>
    have ab : a ≤ b := (List.pairwise_cons.mp s).1 b (List.mem_singleton.mpr rfl)
    have ha := h.mem_iff (a := a) |>.mp List.mem_cons_self
    have hb := h.mem_iff (a := b) |>.mp (List.mem_cons_of_mem _ List.mem_cons_self)
    have hx := h.mem_iff (a := x) |>.mpr List.mem_cons_self
    have hy := h.mem_iff (a := y) |>.mpr (List.mem_cons_of_mem _ List.mem_cons_self)
    simp only [List.mem_cons, List.not_mem_nil, or_false] at ha hb hx hy
    by_cases c : x ≤ y
    · rw [if_pos c, if_pos c]
      have : a = x ∧ b = y := by omega
      rw [this.1, this.2]
    · rw [if_neg c, if_neg c]
      have : a = y ∧ b = x := by omega
      rw [this.1, this.2]
/-! ### ties by their places, for sets -/
def prT (p : Addr × List Int) : Int × Int := (p.2.getD 0 0, p.2.getD 1 0)
theorem Ties.addr {H : Hp} : ∀ {vs : List V} {ts : List (Int × Int)}, Ties H vs ts → ∃ ks : List (Addr × List Int), vs = (ks.map fun p => V.ref p.1) ∧
    (∀ p ∈ ks, H p.1 = some (.tup (p.2.map V.int)) ∧ ∃ t ∈ ts, p.2 = [t.1, t.2]) ∧ ks.map prT = ts
  | [], [], _ => ⟨[], rfl, (fun _ h => by cases h), rfl⟩
  | v :: vs, t :: ts, h => by
    obtain ⟨ks, e1, e2, e3⟩ := Ties.addr h.2
    obtain ⟨p, rfl, hp⟩ := h.1
    refine ⟨(p, [t.1, t.2]) :: ks, by rw [e1]; rfl, fun q hq => ?_, by rw [List.map_cons, e3]; rfl⟩
    rcases List.mem_cons.mp hq with rfl | hq
    · exact ⟨hp, t, List.mem_cons_self, rfl⟩
    · obtain ⟨g1, t', g2, g3⟩ := e2 q hq
      exact ⟨g1, t', List.mem_cons_of_mem _ g2, g3⟩
  | [], _ :: _, h => h.elim
  | _ :: _, [], h => h.elim
theorem ties_addr {H : Hp} : ∀ {ks : List (Addr × List Int)}, (∀ p ∈ ks, H p.1 = some (.tup (p.2.map V.int)) ∧ ∃ t : Int × Int, p.2 = [t.1, t.2]) → Ties H (ks.map fun p => V.ref p.1) (ks.map prT)
  | [], _ => trivial
  | p :: ks, h => by
    refine ⟨?_, ties_addr fun q hq => h q (List.mem_cons_of_mem _ hq)⟩
    obtain ⟨g1, t, g2⟩ := h p List.mem_cons_self
    refine ⟨p.1, rfl, ?_⟩
    unfold prT
    rw [g1, g2]; rfl
theorem u65 {k : Nat} {A : Around} (r : Room k A) : A.units + 65 < cLine := by have := r.un; omega
end My

set_option Elab.async false
set_option linter.all false
set_option maxRecDepth 100000
namespace My
open PySem PySem.Spec PyProof.Rows L2

/-! ### lists side by side -/
def All2 {α : Type} (R : V → α → Prop) : List V → List α → Prop
  | [], [] => True
  | v :: vs, t :: ts => R v t ∧ All2 R vs ts
  | _, _ => False
section
variable {α : Type} {R S : V → α → Prop}
theorem All2.imp (a : ∀ v t, R v t → S v t) : ∀ {vs : List V} {ts : List α}, All2 R vs ts → All2 S vs ts
  | [], [], _ => trivial
  | _ :: _, _ :: _, h => ⟨a _ _ h.1, All2.imp a h.2⟩
  | [], _ :: _, h => h.elim
  | _ :: _, [], h => h.elim
theorem All2.app : ∀ {vs us : List V} {ts rs : List α}, All2 R vs ts → All2 R us rs → All2 R (vs ++ us) (ts ++ rs)
  | [], _, [], _, _, k => k
  | _ :: _, _, _ :: _, _, h, k => ⟨h.1, All2.app h.2 k⟩
  | [], _, _ :: _, _, h, _ => h.elim
  | _ :: _, _, [], _, h, _ => h.elim
theorem All2.len : ∀ {vs : List V} {ts : List α}, All2 R vs ts → vs.length = ts.length
  | [], [], _ => rfl
  | _ :: _, _ :: _, h => congrArg (· + 1) (All2.len h.2)
  | [], _ :: _, h => h.elim
  | _ :: _, [], h => h.elim
theorem All2.at : ∀ {vs : List V} {ts : List α} {i : Nat} {v : V}, All2 R vs ts → vs[i]? = some v → ∃ t, ts[i]? = some t ∧ R v t
  | [], [], _, _, _, e => by cases e
  | _ :: _, t :: _, 0, _, h, e => by cases e; exact ⟨t, rfl, h.1⟩
  | _ :: _, _ :: _, i + 1, _, h, e => All2.at (i := i) h.2 e
  | [], _ :: _, _, _, h, _ => h.elim
  | _ :: _, [], _, _, h, _ => h.elim
theorem All2.at' : ∀ {vs : List V} {ts : List α} {i : Nat} {t : α}, All2 R vs ts → ts[i]? = some t → ∃ v, vs[i]? = some v ∧ R v t
  | [], [], _, _, _, e => by cases e
  | v :: _, _ :: _, 0, _, h, e => by cases e; exact ⟨v, rfl, h.1⟩
  | _ :: _, _ :: _, i + 1, _, h, e => All2.at' (i := i) h.2 e
  | [], _ :: _, _, _, h, _ => h.elim
  | _ :: _, [], _, _, h, _ => h.elim
theorem All2.erase : ∀ {vs : List V} {ts : List α} (k : Nat), All2 R vs ts → All2 R (vs.eraseIdx k) (ts.eraseIdx k)
  | [], [], _, _ => trivial
  | _ :: _, _ :: _, 0, h => h.2
  | _ :: _, _ :: _, k + 1, h => ⟨h.1, All2.erase k h.2⟩
  | [], _ :: _, _, h => h.elim
  | _ :: _, [], _, h => h.elim
end

/-! ### pairs of places of unlike groups -/
def norm (a b : Int) : Int × Int := (if a ≤ b then a else b, if a ≤ b then b else a)
theorem norm_inj {a b c d : Int} (h : norm a b = norm c d) : (a = c ∧ b = d) ∨ (a = d ∧ b = c) := by
  unfold norm at h
  have h1 := congrArg Prod.fst h
  have h2 := congrArg Prod.snd h
  dsimp only at h1 h2
  by_cases x : a ≤ b <;> by_cases y : c ≤ d
  · rw [if_pos x, if_pos y] at h1 h2; omega
  · rw [if_pos x, if_neg y] at h1 h2; omega
  · rw [if_neg x, if_pos y] at h1 h2; omega
  · rw [if_neg x, if_neg y] at h1 h2; omega
def newA (g h : List Int) : List (Int × Int) := g.flatMap fun a => h.map fun b => norm a b
def newK (s : List (List Int)) (cd : Nat → Nat → Bool) (k j : Nat) : List (Int × Int) :=
  (List.range j).flatMap fun j => newA (if cd k j = true then s.getD k [] else []) (s.getD j [])
def news (s : List (List Int)) (cd : Nat → Nat → Bool) (m : Nat) : List (Int × Int) := (List.range m).flatMap fun k => newK s cd k k
theorem newA_app (g g' h : List Int) : newA (g ++ g') h = newA g h ++ newA g' h := by unfold newA; rw [List.flatMap_append]
theorem newA_one (a : Int) (h : List Int) : newA [a] h = h.map fun b => norm a b := by unfold newA; rw [List.flatMap_singleton]
theorem newK_succ (s : List (List Int)) (cd : Nat → Nat → Bool) (k j : Nat) : newK s cd k (j + 1) = newK s cd k j ++ newA (if cd k j = true then s.getD k [] else []) (s.getD j []) := by
  unfold newK; rw [List.range_succ, List.flatMap_append, List.flatMap_singleton]
theorem news_succ (s : List (List Int)) (cd : Nat → Nat → Bool) (m : Nat) : news s cd (m + 1) = news s cd m ++ newK s cd m m := by
  unfold news; rw [List.range_succ, List.flatMap_append, List.flatMap_singleton]
theorem mem_newA {g h : List Int} {t : Int × Int} : t ∈ newA g h ↔ ∃ a ∈ g, ∃ b ∈ h, t = norm a b := by
  unfold newA
  simp only [List.mem_flatMap, List.mem_map]
  constructor
  · rintro ⟨a, ha, b, hb, rfl⟩; exact ⟨a, ha, b, hb, rfl⟩
  · rintro ⟨a, ha, b, hb, rfl⟩; exact ⟨a, ha, b, hb, rfl⟩
theorem mem_newK {s : List (List Int)} {cd : Nat → Nat → Bool} {k j : Nat} {t : Int × Int} (h : t ∈ newK s cd k j) :
    ∃ j' < j, ∃ a ∈ s.getD k [], ∃ b ∈ s.getD j' [], t = norm a b := by
  unfold newK at h
  obtain ⟨j', hj, h⟩ := List.mem_flatMap.mp h
  obtain ⟨a, ha, b, hb, e⟩ := mem_newA.mp h
  refine ⟨j', List.mem_range.mp hj, a, ?_, b, hb, e⟩
  split at ha
  · exact ha
  · cases ha
theorem mem_news {s : List (List Int)} {cd : Nat → Nat → Bool} {m : Nat} {t : Int × Int} (h : t ∈ news s cd m) :
    ∃ k < m, ∃ j < k, ∃ a ∈ s.getD k [], ∃ b ∈ s.getD j [], t = norm a b := by
  unfold news at h
  obtain ⟨k, hk, h⟩ := List.mem_flatMap.mp h
  obtain ⟨j, hj, r⟩ := mem_newK h
  exact ⟨k, List.mem_range.mp hk, j, hj, r⟩
/-- a place is in one group alone -/
theorem grp_one {s : List (List Int)} (nd : s.flatten.Nodup) {a : Int} {i j : Nat} (hi : a ∈ s.getD i []) (hj : a ∈ s.getD j []) : i = j := by
  have li : i < s.length := by
    rcases Nat.lt_or_ge i s.length with h | h
    · exact h
    · rw [List.getD_eq_getElem?_getD, List.getElem?_eq_none h] at hi; cases hi
  have lj : j < s.length := by
    rcases Nat.lt_or_ge j s.length with h | h
    · exact h
    · rw [List.getD_eq_getElem?_getD, List.getElem?_eq_none h] at hj; cases hj
  rw [List.getD_eq_getElem?_getD, List.getElem?_eq_getElem li] at hi
  rw [List.getD_eq_getElem?_getD, List.getElem?_eq_getElem lj] at hj
  dsimp only [Option.getD_some] at hi hj
  have pw := (List.pairwise_flatten.mp (List.nodup_iff_pairwise_ne.mp nd)).2
  rw [List.pairwise_iff_getElem] at pw
  rcases Nat.lt_trichotomy i j with h | h | h
  · exact absurd rfl (pw i j li lj h a hi a hj)
  · exact h
  · exact absurd rfl (pw j i lj li h a hj a hi)
theorem grp_nd {s : List (List Int)} (nd : s.flatten.Nodup) (i : Nat) : (s.getD i []).Nodup := by
  rcases Nat.lt_or_ge i s.length with h | h
  · rw [List.getD_eq_getElem?_getD, List.getElem?_eq_getElem h]
    exact List.nodup_iff_pairwise_ne.mpr ((List.pairwise_flatten.mp (List.nodup_iff_pairwise_ne.mp nd)).1 _ (List.getElem_mem h))
  · rw [List.getD_eq_getElem?_getD, List.getElem?_eq_none h]; exact List.nodup_nil
theorem four_inj {s : List (List Int)} (nd : s.flatten.Nodup) {k j k' j' : Nat} {a b a' b' : Int} (hj : j < k) (hj' : j' < k') (ha : a ∈ s.getD k []) (hb : b ∈ s.getD j [])
    (ha' : a' ∈ s.getD k' []) (hb' : b' ∈ s.getD j' []) (e : norm a b = norm a' b') : k = k' ∧ j = j' ∧ a = a' ∧ b = b' := by
  rcases norm_inj e with ⟨rfl, rfl⟩ | ⟨rfl, rfl⟩
  · exact ⟨grp_one nd ha ha', grp_one nd hb hb', rfl, rfl⟩
  · have e1 := grp_one nd ha hb'
    have e2 := grp_one nd hb ha'
    omega
theorem news_nd {s : List (List Int)} (nd : s.flatten.Nodup) (cd : Nat → Nat → Bool) (m : Nat) : (news s cd m).Nodup := by
  unfold news
  rw [List.nodup_iff_pairwise_ne, List.pairwise_flatMap]
  refine ⟨fun k hk => ?_, ?_⟩
  · unfold newK
    rw [List.pairwise_flatMap]
    refine ⟨fun j hj => ?_, ?_⟩
    · have hj := List.mem_range.mp hj
      unfold newA
      rw [List.pairwise_flatMap]
      refine ⟨fun a ha => ?_, ?_⟩
      · rw [List.pairwise_map]
        refine (List.nodup_iff_pairwise_ne.mp (grp_nd nd j)).imp_of_mem fun {b b'} hb hb' ne e => ?_
        have ha : a ∈ s.getD k [] := by split at ha; exact ha; cases ha
        exact ne (four_inj nd hj hj ha hb ha hb' e).2.2.2
      · have nda : (if cd k j = true then s.getD k [] else []).Nodup := by split; exact grp_nd nd k; exact List.nodup_nil
        refine (List.nodup_iff_pairwise_ne.mp nda).imp_of_mem fun {a a'} ha ha' ne x hx y hy e => ?_
        have ha : a ∈ s.getD k [] := by split at ha; exact ha; cases ha
        have ha' : a' ∈ s.getD k [] := by split at ha'; exact ha'; cases ha'
        obtain ⟨b, hb, rfl⟩ := List.mem_map.mp hx
        obtain ⟨b', hb', rfl⟩ := List.mem_map.mp hy
        exact ne (four_inj nd hj hj ha hb ha' hb' e).2.2.1
    · refine (List.nodup_iff_pairwise_ne.mp List.nodup_range).imp_of_mem fun {j j'} hj hj' ne x hx y hy e => ?_
      have hj := List.mem_range.mp hj
      have hj' := List.mem_range.mp hj'
      obtain ⟨a, ha, b, hb, rfl⟩ := mem_newA.mp hx
      obtain ⟨a', ha', b', hb', rfl⟩ := mem_newA.mp hy
      have ha : a ∈ s.getD k [] := by split at ha; exact ha; cases ha
      have ha' : a' ∈ s.getD k [] := by split at ha'; exact ha'; cases ha'
      exact ne (four_inj nd hj hj' ha hb ha' hb' e).2.1
  · refine (List.nodup_iff_pairwise_ne.mp List.nodup_range).imp_of_mem fun {k k'} hk hk' ne x hx y hy e => ?_
    obtain ⟨j, hj, a, ha, b, hb, rfl⟩ := mem_newK hx
    obtain ⟨j', hj', a', ha', b', hb', rfl⟩ := mem_newK hy
    exact ne (four_inj nd hj hj' ha hb ha' hb' e).1

/-- what holds of groups and ties between two turns -/
structure PInv (n : Nat) (gs : List (List Int)) (ts : List (Int × Int)) : Prop where
  fl : gs.flatten.Perm (up n)
  nd : ts.Nodup
  bd : ∀ t ∈ ts, 0 ≤ t.1 ∧ t.1 < t.2 ∧ t.2 < (n : Int)
  one : ∀ t ∈ ts, ∃ g ∈ gs, t.1 ∈ g ∧ t.2 ∈ g
theorem nd_len {α : Type} [DecidableEq α] : ∀ {l m : List α}, l.Nodup → (∀ x ∈ l, x ∈ m) → l.length ≤ m.length
  | [], _, _, _ => Nat.zero_le _
  | a :: l, m, nd, h => by
    have nd' := List.nodup_cons.mp nd
    have ha := h a List.mem_cons_self
    have := nd_len (l := l) (m := m.erase a) nd'.2 fun x hx => (List.mem_erase_of_ne (fun (e : x = a) => nd'.1 (by rw [← e]; exact hx))).mpr (h x (List.mem_cons_of_mem _ hx))
    rw [List.length_erase_of_mem ha] at this
    have := List.length_pos_of_mem ha
    rw [List.length_cons]
    omega
theorem PInv.len {n : Nat} {gs : List (List Int)} {ts : List (Int × Int)} (h : PInv n gs ts) (hn : n ≤ 100) : ts.length ≤ 10000 := by
  refine Nat.le_trans (nd_len (m := pup n n) h.nd fun t ht => ?_) (pup_len' hn (Nat.le_refl n))
  have := h.bd t ht
  exact (mem_pup (Nat.le_refl n)).mpr (by omega)
theorem norm_ends {a b : Int} {g : List Int} (h1 : (norm a b).1 ∈ g) (h2 : (norm a b).2 ∈ g) : a ∈ g ∧ b ∈ g := by
  unfold norm at h1 h2
  dsimp only at h1 h2
  by_cases x : a ≤ b
  · rw [if_pos x] at h1 h2; exact ⟨h1, h2⟩
  · rw [if_neg x] at h1 h2; exact ⟨h2, h1⟩
theorem PInv.next {n : Nat} {gs s r : List (List Int)} {ts : List (Int × Int)} (h : PInv n gs ts) (pm : gs.Perm (s ++ r)) (cd : Nat → Nat → Bool) :
    PInv n (r ++ [s.flatten]) (ts ++ news s cd s.length) := by
  have pf : (s ++ r).flatten.Perm (up n) := pm.flatten.symm.trans h.fl
  have ndf : (s ++ r).flatten.Nodup := pf.nodup_iff.mpr (up_nodup n)
  have nds : s.flatten.Nodup := by
    rw [List.flatten_append] at ndf
    exact (List.nodup_append.mp ndf).1
  have gd : ∀ i, i < s.length → (s ++ r).getD i [] = s.getD i [] := fun i hi => by
    rw [List.getD_eq_getElem?_getD, List.getD_eq_getElem?_getD, List.getElem?_append_left hi]
  have inS : ∀ {a : Int} {k : Nat}, a ∈ s.getD k [] → a ∈ s.flatten ∧ k < s.length := fun {a k} ha => by
    rcases Nat.lt_or_ge k s.length with hk | hk
    · rw [List.getD_eq_getElem?_getD, List.getElem?_eq_getElem hk] at ha
      exact ⟨List.mem_flatten.mpr ⟨_, List.getElem_mem hk, ha⟩, hk⟩
    · rw [List.getD_eq_getElem?_getD, List.getElem?_eq_none hk] at ha; cases ha
  have bd : ∀ {a : Int}, a ∈ s.flatten → 0 ≤ a ∧ a < (n : Int) := fun {a} ha =>
    mem_up.mp (pf.mem_iff.mp (by rw [List.flatten_append]; exact List.mem_append_left _ ha))
  refine ⟨?_, ?_, ?_, ?_⟩
  · refine List.Perm.trans ?_ pf
    rw [List.flatten_append, List.flatten_append]
    have : [s.flatten].flatten = s.flatten := by simp
    rw [this]
    exact List.perm_append_comm
  · rw [List.nodup_append]
    refine ⟨h.nd, news_nd nds cd _, fun t ht t' ht' e => ?_⟩
    subst e
    obtain ⟨k, hk, j, hj, a, ha, b, hb, rfl⟩ := mem_news ht'
    obtain ⟨g, hg, g1, g2⟩ := h.one _ ht
    obtain ⟨ga, gb⟩ := norm_ends g1 g2
    obtain ⟨i, hi, e⟩ := List.getElem_of_mem (pm.mem_iff.mp hg)
    have gi : (s ++ r).getD i [] = g := by rw [List.getD_eq_getElem?_getD, List.getElem?_eq_getElem hi, e]; rfl
    have e1 := grp_one ndf (i := i) (j := k) (by rw [gi]; exact ga) (by rw [gd k hk]; exact ha)
    have e2 := grp_one ndf (i := i) (j := j) (by rw [gi]; exact gb) (by rw [gd j (by omega)]; exact hb)
    omega
  · intro t ht
    rcases List.mem_append.mp ht with ht | ht
    · exact h.bd t ht
    · obtain ⟨k, hk, j, hj, a, ha, b, hb, rfl⟩ := mem_news ht
      have b1 := bd (inS ha).1
      have b2 := bd (inS hb).1
      have ne : a ≠ b := fun e => by subst e; have := grp_one nds ha hb; omega
      unfold norm
      dsimp only
      split <;> omega
  · intro t ht
    rcases List.mem_append.mp ht with ht | ht
    · obtain ⟨g, hg, g1, g2⟩ := h.one t ht
      rcases List.mem_append.mp (pm.mem_iff.mp hg) with m | m
      · exact ⟨s.flatten, List.mem_append_right _ (List.mem_singleton.mpr rfl), List.mem_flatten.mpr ⟨g, m, g1⟩, List.mem_flatten.mpr ⟨g, m, g2⟩⟩
      · exact ⟨g, List.mem_append_left _ m, g1, g2⟩
    · obtain ⟨k, hk, j, hj, a, ha, b, hb, rfl⟩ := mem_news ht
      refine ⟨s.flatten, List.mem_append_right _ (List.mem_singleton.mpr rfl), ?_, ?_⟩
      · unfold norm; dsimp only; split
        · exact (inS ha).1
        · exact (inS hb).1
      · unfold norm; dsimp only; split
        · exact (inS hb).1
        · exact (inS ha).1
theorem flat_one : ∀ ns : List Int, (ns.map fun x => [x]).flatten = ns
  | [] => rfl
  | a :: l => by rw [List.map_cons, List.flatten_cons, flat_one l]; rfl
theorem erase_perm {α : Type} : ∀ {l : List α} {i : Nat} (h : i < l.length), (l[i] :: l.eraseIdx i).Perm l
  | _ :: _, 0, _ => .refl _
  | a :: l, i + 1, h => by
    show (l[i]'(Nat.lt_of_succ_lt_succ h) :: a :: l.eraseIdx i).Perm (a :: l)
    exact (List.Perm.swap _ _ _).trans ((erase_perm (Nat.lt_of_succ_lt_succ h)).cons a)
/-! ### lengths -/
theorem newA_len {g h : List Int} {x y : Nat} (hg : g.length ≤ x) (hh : h.length ≤ y) : (newA g h).length ≤ x * y := by
  have : ∀ g : List Int, (newA g h).length = g.length * h.length := by
    intro g
    induction g with
    | nil => simp [newA]
    | cons a g ih =>
      have e : newA (a :: g) h = newA [a] h ++ newA g h := newA_app [a] g h
      rw [e, List.length_append, ih, newA_one, List.length_map, List.length_cons, Nat.succ_mul, Nat.add_comm]
  rw [this]
  exact Nat.mul_le_mul hg hh
theorem newK_len {s : List (List Int)} {cd : Nat → Nat → Bool} {k : Nat} (hs : ∀ i, (s.getD i []).length ≤ 12) : ∀ j, (newK s cd k j).length ≤ j * 144
  | 0 => Nat.zero_le _
  | j + 1 => by
    rw [newK_succ, List.length_append]
    have h1 := newK_len (s := s) (cd := cd) (k := k) hs j
    have h2 : (newA (if cd k j = true then s.getD k [] else []) (s.getD j [])).length ≤ 12 * 12 := newA_len (by split; exact hs k; exact Nat.zero_le _) (hs j)
    omega
theorem news_len {s : List (List Int)} {cd : Nat → Nat → Bool} (hs : ∀ i, (s.getD i []).length ≤ 12) : ∀ m, m ≤ 10 → (news s cd m).length ≤ m * 1440
  | 0, _ => Nat.zero_le _
  | m + 1, h => by
    rw [news_succ, List.length_append]
    have h1 := news_len (s := s) (cd := cd) hs m (by omega)
    have h2 := newK_len (s := s) (cd := cd) (k := m) hs m
    omega
theorem grp_len {n : Nat} {s : List (List Int)} {r : List (List Int)} (h : (s ++ r).flatten.Perm (up n)) (i : Nat) : (s.getD i []).length ≤ n := by
  rcases Nat.lt_or_ge i s.length with hi | hi
  · rw [List.getD_eq_getElem?_getD, List.getElem?_eq_getElem hi]
    have e := h.length_eq
    rw [up_len, List.flatten_append, List.length_append] at e
    have : ∀ (l : List (List Int)) (g : List Int), g ∈ l → g.length ≤ l.flatten.length := by
      intro l g hg
      induction l with
      | nil => cases hg
      | cons x l ih =>
        rw [List.flatten_cons, List.length_append]
        rcases List.mem_cons.mp hg with rfl | hg
        · omega
        · have := ih hg; omega
    have := this s _ (List.getElem_mem hi)
    show s[i].length ≤ n
    omega
  · rw [List.getD_eq_getElem?_getD, List.getElem?_eq_none hi]; exact Nat.zero_le _
end My

set_option Elab.async false
set_option linter.all false
set_option maxRecDepth 100000
set_option maxHeartbeats 2000000
namespace My
open PySem PySem.Spec PyProof.Rows L2 GxR

/-! ### the frame of a generator expression -/
abbrev gcx (X : Cx) (A' : Around) (s : Shared) (H : Hp) (cenv : Env) (fp : List Addr) (pn : List (Addr × Obj)) : Cx :=
  { X with A := A', s_0 := s, H_0 := H, env := cenv, outer := X.stack, stack := cenv :: X.stack, ex := fp, fn := fun _ => false, calm := true, pn := pn, xe := fun _ _ => False }
structure GsOk (scope : Scope) : Prop where
  co : scope.isCoroutine = false
  cell : ∀ y ∈ scope.names, y.2 ≠ .cell
  dot : scope.names.lookup (".0" : Str) = some NameKind.local

section
variable {X : Cx} {pins : List (Addr × Obj)} {σ : L2.St} {H : Hp} {s : Shared}
abbrev gEnv (X : Cx) (scope : Scope) (C : Addr) (code : Value) : Env :=
  genEnv scope (cloFrom X.env.cells scope.names []) C code builtinsNs X.env
theorem gen_inv {scope : Scope} {own : List (Str × Nat)} {fp : List Addr} {A' : Around} {C : Addr} {code : Value} {s5 : Shared}
    {m : Str → Option Value} {pn : List (Addr × Obj)} (I : Inv X pins σ H s) (ok : BlkOk X.N X.env.scope scope own) (hN : X.N.Nodup)
    (S : GsOk scope) (hfp : ∀ b ∈ fp, FpOk X pins H b ∧ b < s.heap.objs.size) (hC : C = s.heap.objs.size) (hA : A'.handled = none)
    (hF : A'.frames = some (gEnv X scope C code :: X.stack)) (kp : ∀ b o, s.heap.get? b = some o → s5.heap.get? b = some o)
    (hns : s5.heap.Ns C m) (hos : s5.os = s.os) (hb : AllBare s5.gens)
    (hpn : ∀ p ∈ pn, s5.heap.get? p.1 = some p.2 ∧ s.heap.objs.size < p.1 ∧ ∀ v, p.2.data ≠ .cell v) :
    Inv (gcx X A' s H (gEnv X scope C code) fp pn) [] (wipe σ (own.map (·.2))) H s5 := by
  have cm : ∀ {y : Str} {c : Addr}, (cloFrom X.env.cells scope.names []).lookup y = some c → X.env.cells.lookup y = some c ∧ c < s.heap.objs.size := fun {y c} e => by
    rcases cloFrom_mem (PySem.mem_of_lookup e) with z | ⟨h1, rfl⟩
    · cases z
    · have : ∃ c, X.env.cells.lookup y = some c := by
        rcases ok.free _ h1 rfl with k | k
        · exact I.ok.has _ (.inl k)
        · exact I.ok.has _ (.inr k)
      obtain ⟨c, hc⟩ := this
      rw [hc]
      obtain ⟨w, z⟩ := I.cell _ _ hc
      exact ⟨rfl, z.lt⟩
  have look : ∀ {y : Str}, scope.names.lookup y = some .free → ∃ c, (cloFrom X.env.cells scope.names []).lookup y = some c ∧ X.env.cells.lookup y = some c := fun {y} hl => by
    obtain ⟨c, e⟩ := mem_lookup (cloFrom_has (cells := X.env.cells) (acc := []) (PySem.mem_of_lookup hl))
    exact ⟨c, e, (cm e).1⟩
  have hCs : s.heap.objs.size ≤ C := Nat.le_of_eq hC.symm
  have okB : (gcx X A' s H (gEnv X scope C code) fp pn).Ok := by
    refine ⟨I.ok.mod, ok.kind, I.ok.glob, rfl, hCs, fun y z c e1 e2 => I.ok.inj y z c (cm e1).1 (cm e2).1, fun y hy => ?_, (fun y c z e => by cases z), fun _ => hA, hF, .inr ⟨rfl, rfl⟩,
      fun b hb => ⟨?_, fun y c e => (hfp b hb).1.2.2.2.2.1 y c (cm e).1⟩, I.bs, Nat.le_trans I.ok.bsz I.sz, fun b o e hb => ?_, fun b hb z => ?_, I.stack, I.stkFree⟩
    · rcases hy with hy | hy
      · exact absurd rfl (S.cell _ (PySem.mem_of_lookup (show scope.names.lookup y = some .cell from hy)))
      · obtain ⟨c, e, _⟩ := look (show scope.names.lookup y = some .free from hy)
        exact ⟨c, e⟩
    · show b ≠ C
      rw [hC]; exact Nat.ne_of_lt (hfp b hb).2
    · rcases (hfp b hb).1.2.2.2.1 with z | z
      · exact I.ok.noex b o e z
      · exact absurd (Nat.lt_of_lt_of_le (Heap.lt_size e) (Nat.le_trans I.ok.bsz z)) (Nat.lt_irrefl _)
    · rcases List.mem_cons.mp (I.stkSub b z) with z | z
      · exact (hfp b hb).1.2.1 z
      · exact (hfp b hb).1.2.2.1 z
  refine ⟨okB, hos, hb, Un.kept kp, ⟨m, hns, fun i y v e1 e2 e3 => ?_⟩, fun y c e => ?_, ?_, fun y c e => I.freeC y c (cm e).1, fun p hp => ?_, I.hok.kept kp, by rw [wipe_length]; exact I.len⟩
  · obtain ⟨e2, hne⟩ := wipe_some e2
    have no : ∀ k, scope.names.lookup y = some k → ¬ (k = .local ∨ k = .cell) := fun k e hh => by
      rcases ok.own _ (PySem.mem_of_lookup e) hh with z | z
      · obtain ⟨p, hp, hpy⟩ := List.mem_map.mp z
        have e4 := ok.ix p hp
        have hpy : p.1 = y := hpy
        rw [hpy] at e4
        exact hne (List.mem_map.mpr ⟨p, hp, nodup_ix hN e4 e1⟩)
      · exact z (List.mem_of_getElem? e1)
    have e3 : Vis scope y := e3
    have fr : scope.names.lookup y = some .free := by
      rcases e3 with e3 | e3 | e3
      · exact absurd (.inl rfl) (no _ e3)
      · exact absurd (.inr rfl) (no _ e3)
      · exact e3
    obtain ⟨m', hn, hl⟩ := I.loc
    have k := ok.free _ (PySem.mem_of_lookup fr) rfl
    have hv : Vis X.env.scope y := by
      rcases k with k | k
      · exact .inr (.inl k)
      · exact .inr (.inr k)
    obtain ⟨w, r, q⟩ := hl i y v e1 e2 hv
    refine ⟨w, r, .inr ⟨.inr fr, ?_⟩⟩
    obtain ⟨c, h1, h2⟩ := look fr
    rcases q with ⟨z, _⟩ | ⟨_, c', e', z⟩
    · have z : X.env.scope.names.lookup y = some .local := z
      rcases k with k | k <;> (have k : X.env.scope.names.lookup y = _ := k; rw [k] at z; cases z)
    · rw [h2] at e'; cases e'
      exact ⟨c, h1, z.keeps kp⟩
  · obtain ⟨w, z⟩ := I.cell y c (cm e).1
    exact ⟨w, z.keeps kp⟩
  · exact I.hok.fresh hCs
  · rw [List.append_nil] at hp
    obtain ⟨h1, h2, h3⟩ := hpn p hp
    refine ⟨h1, I.hok.fresh (Nat.le_of_lt h2), ?_, fun z => ?_, h3⟩
    · show p.1 ≠ C
      rw [hC]; exact Nat.ne_of_gt h2
    · rcases List.mem_cons.mp (I.stkSub p.1 z) with z | z
      · have := I.lt
        rw [← z] at this
        exact absurd (Nat.lt_trans h2 this) (Nat.lt_irrefl _)
      · exact I.nofs (Nat.le_of_lt h2) z
theorem inv_gens {gs : Array GenState} (I : Inv X pins σ H s) (hb : AllBare gs) : Inv X pins σ H { s with gens := gs } :=
  ⟨I.ok, I.os, hb, I.base, I.loc, I.cell, I.free, I.freeC, I.pin, I.hok, I.len⟩
theorem inv_setGen {g : Nat} {x : GenState} (I : Inv X pins σ H s) (hx : x.bare = true) : Inv X pins σ H (s.setGen g x) := by
  refine inv_gens I fun y hy => ?_
  rcases Array.mem_or_eq_of_mem_setIfInBounds hy with h | h
  · exact I.bare y h
  · rw [h]; exact hx
end

/-! ### the loop of a generator expression -/
section
variable {prog : Program} {w : World} {A : Around}
/-- n: how many more may come; Yl m v s: v is handed out, fewer than m turns are left; St m s: ready for the next turn -/
def protoG (St : Nat → Shared → Prop) (Yl : Nat → Value → Shared → Prop) : Protocol := fun n _ v s kap =>
  (∃ m, m ≤ n ∧ Yl m v s) ∧ ∀ s'' m', m' < n → St m' s'' → kap (.send .none) s''
theorem seg_loopG {elt tg iter : Expr} {scope : Scope} {pos : Pos} {it : Addr} {cenv : Env} (hco : cenv.scope.isCoroutine = false)
    (St : Nat → Shared → Prop) (En : Shared → Prop) (Yl : Nat → Value → Shared → Prop)
    (turn : ∀ m s, St m s → wpAny (model prog w) (A.over (.compLoop (.GeneratorExp elt [⟨tg, iter, [], 0⟩] scope pos) 0 (.ref it) .none cenv) []) (pyNext (.ref it)) (fun r s1 => match r with
      | none => En s1
      | some u => wpAny (model prog w) (A.over (.compLoop (.GeneratorExp elt [⟨tg, iter, [], 0⟩] scope pos) 0 (.ref it) .none cenv) []) (letOwnedTupleGo tg (.ref it) u) (fun _ s2 =>
          wpAny (model prog w) (A.over (.compLoop (.GeneratorExp elt [⟨tg, iter, [], 0⟩] scope pos) 0 (.ref it) .none cenv) []) (assign tg cenv u) (fun _ s3 =>
            wpAny (model prog w) (A.over (.compLoop (.GeneratorExp elt [⟨tg, iter, [], 0⟩] scope pos) 0 (.ref it) .none cenv) []) (eval elt cenv) (fun v s4 => Yl m v s4) (fun _ _ => False) s3) (fun _ _ => False) s2) (fun _ _ => False) s1) (fun _ _ => False) s) :
    ∀ (n m : Nat) (s₀ s : Shared), m < n → St m s →
      Seg (model prog w) A (fun _ _ r s₁ => r = .ok .next ∧ En s₁) (protoG St Yl) n s₀
        (.compLoop (.GeneratorExp elt [⟨tg, iter, [], 0⟩] scope pos) 0 (.ref it) .none cenv)
        ((model prog w).den (.compLoop (.GeneratorExp elt [⟨tg, iter, [], 0⟩] scope pos) 0 (.ref it) .none cenv)) [] s := by
  intro n
  induction n with
  | zero => intro m _ _ h; exact absurd h (Nat.not_lt_zero _)
  | succ n ih =>
    intro m s₀ s hm hst
    show Seg _ A _ _ _ s₀ _ ((compTurn (.GeneratorExp elt [⟨tg, iter, [], 0⟩] scope pos) 0 (.ref it) .none cenv).onRaise (leaving cenv)) [] s
    rw [compTurn_gen, Sem.onRaise_eq_wrap]
    refine seg_bind_wrap (wpAny_standAt ?_)
    refine seg_bind_wrap (wpAny_mono (turn m s hst) (fun r s1 h1 => ?_) fun _ _ e => e.elim)
    cases r with
    | none => exact seg_end (.ok .next) ⟨rfl, h1⟩
    | some u =>
      refine seg_bind_wrap (wpAny_mono h1 (fun _ s2 h2 => ?_) fun _ _ e => e.elim)
      refine seg_bind_wrap (wpAny_mono h2 (fun _ s3 h3 => ?_) fun _ _ e => e.elim)
      refine seg_bind_wrap ?_
      simp only [List.forIn_nil]
      refine wpAny_pure ?_
      simp only [if_true]
      have hy : ∀ v, yieldOut cenv v = yieldValue v := fun v => by simp only [yieldOut, hco, Bool.false_eq_true, if_false]
      simp only [hy]
      rw [Sem.bind_eq_wrap', Sem.bind_eq_wrap', Sem.wrap_wrap, Sem.wrap_wrap]
      refine seg_wrap (wpAny_mono h3 (fun v s4 h4 => ?_) fun _ _ e => e.elim)
      refine seg_at (seg_yield rfl rfl rfl ⟨⟨m, Nat.le_of_lt_succ hm, h4⟩, fun s'' m' hm' hst' => ?_⟩)
      exact seg_again rfl (ih m' s'' s'' hm' hst')
end
end My

set_option Elab.async false
set_option linter.all false
set_option maxRecDepth 100000
set_option maxHeartbeats 2000000
namespace My
open PySem PySem.Spec PyProof.Rows L2 GxR GenW

abbrev genObj (g : Nat) (x y : Value) : Obj := { cls := .type "generator", data := .fields #[.int g 0, x, y] }
/-- a generator expression is made: what stands then -/
structure Made (X : Cx) (pins : List (Addr × Obj)) (σ : L2.St) (elt tg iter : Expr) (scope : Scope) (gpos : Pos) (P : Addr) (J : It) (H1 H2 : Hp)
    (it : Addr) (fp : List Addr) (tn : Nat → Heap → Prop) (s4 s5 : Shared) (C a : Addr) (code : Value) (g : Nat) (x y : Value) : Prop where
  tab : Tabbed P H1 H2
  inv : Inv X pins σ H2 s4
  tu : Turn X.prog X.w X.K tg J fp it tn
  st : tn 0 s4.heap
  fp : ∀ b ∈ fp, FpOk X pins H2 b ∧ b < s4.heap.objs.size
  c : C = s4.heap.objs.size
  kp : ∀ b o, s4.heap.get? b = some o → s5.heap.get? b = some o
  ns : s5.heap.Ns C (fun y => if y = (".0" : Str) then some (.ref it) else none)
  os : s5.os = s4.os
  bare : AllBare s5.gens
  obj : s5.heap.get? a = some (genObj g x y)
  lt : s4.heap.objs.size < a
  gs : s5.gens[g]? = some (.fresh (.compStart (.GeneratorExp elt [⟨tg, iter, [], 0⟩] scope gpos) 0 (.ref it) .none (gEnv X scope C code)))

section
variable {X : Cx} {pins : List (Addr × Obj)} {σ : L2.St} {H : Hp} {s : Shared}
theorem gen_mk {c P : Addr} {elt tg iter : Expr} {gpos : Pos} {scope : Scope} {own : List (Str × Nat)} {wi : TI} {k : Nat} {Q' : Value → Shared → Prop} {R : It → Hp → Prop}
    (hr : Room k X.A) (TB : TabB X.base X.mg c P) (hcode : X.env.code = .ref c) (S : GsOk scope) (ok : BlkOk X.N X.env.scope scope own) (hi : PI X tg iter wi)
    (hs : ∀ v, genFold iter X.env v = pure v) (I : Inv X pins σ H s) (h : wi σ H fun J H1 => TabG H1 P ∧ R J H1)
    (hQ : ∀ J H1 H2 it fp tn s4 s5 C a code g x y, R J H1 → Made X pins σ elt tg iter scope gpos P J H1 H2 it fp tn s4 s5 C a code g x y → Q' (.ref a) s5) :
    wpAny (model X.prog X.w) X.A (eval (.GeneratorExp elt [⟨tg, iter, [], 0⟩] scope gpos) X.env) Q' X.xe s := by
  have hfree : ∀ y ∈ scope.names, y.2 = .free → ∃ c, X.env.cells.lookup y.1 = some c := fun y hy e => (ok.free y hy e).elim (fun k => I.ok.has _ (.inl k)) fun k => I.ok.has _ (.inr k)
  refine wpAny_GeneratorExp_make S.co (closure_ok hfree) S.cell S.dot ok.kind (by have := hr.dp; omega) ?_ hs
  refine thn (hi.run pins s σ H _ I h) fun xv s1 hx => thn hx fun itv s2 h2 => ?_
  obtain ⟨it, fp, tn, J, H1, rfl, I2, T, st2, f2, ⟨ps, hP, ht⟩, q⟩ := h2
  have hPs : s2.heap.get? P = some { cls := .none, data := .fields ps } := I2.hok P _ hP
  have cd : PySem.W.CodeHd s2.heap c P := TB.code.keeps fun b u e => I2.bk b u e
  have cont : ∀ (code : Value) (h3 : Heap) (tk : Nat) (more : Array Value), Heap.ExtBut P s2.heap h3 → s2.heap.objs.size ≤ h3.objs.size → h3.get? P = some { cls := .none, data := .fields (ps ++ more) } → TriplesOk (ps ++ more).toList →
      wpAny (model X.prog X.w) X.A (builtinsFor X.env.globals X.env.builtins) (fun bi s₄ =>
        ∀ h', h'.Ns s₄.heap.objs.size (fun y => if y = ".0" then some (Value.ref it) else none) → Heap.SameBut s₄.heap.objs.size (s₄.heap.push { cls := .type "frame", data := .dict #[] }) h' →
          Q' (.ref h'.objs.size) { s₄ with
            gens := s₄.gens.push (.fresh (.compStart (.GeneratorExp elt [⟨tg, iter, [], 0⟩] scope gpos) 0 (.ref it) .none (genEnv scope (cloFrom X.env.cells scope.names []) s₄.heap.objs.size code bi X.env))),
            toks := s₄.toks + 1 + 1 + 1,
            heap := h'.push { cls := .type "generator", data := .fields #[.int s₄.gens.size 0, .str "<genexpr>" (s₄.toks + 1), .str (X.env.qual ++ "<genexpr>") (s₄.toks + 1 + 1)] } }) X.xe { s2 with heap := h3, toks := tk } := by
    intro code h3 tk more hx hsz hP3 ht3
    obtain ⟨bm, ob, e1, e2, e3, e4, e5, e6, e7, e8⟩ := TB.bm
    have keep3 : ∀ b u, b ≠ P → s2.heap.get? b = some u → h3.get? b = some u := fun b u hb e => hx b u hb e
    refine wpAny_builtinsFor (m := X.mg) (by rw [I2.ok.glob]; exact (I2.mod.glob.keeps I2.bk).extBut hx TB.gP) e1 e2 (keep3 _ _ e4 (I2.bk _ _ e5)) e6 e7 e8 ?_
    intro h' hns hsb
    have I4 := inv_tab (more := more) (h' := h3) (g' := s2.gens) (d' := s2.drawn) (t' := tk) I2 hP keep3 hP3 I2.bare
    have old : ∀ b u, h3.get? b = some u → h'.get? b = some u := fun b u e => hsb.extBut b u (Nat.ne_of_lt (Heap.lt_size e)) (Heap.get?_push_of_some _ e)
    have hsz' : h'.objs.size = h3.objs.size + 1 := by rw [hsb.1, Heap.size_push]
    refine hQ J H1 (upd H1 P (.tbl (ps ++ more))) it fp tn { s2 with heap := h3, toks := tk } _ h3.objs.size _ code s2.gens.size _ _ q
      ⟨⟨⟨_, upd_same, ht3⟩, fun b hb => upd_ne hb⟩, I4, T, ?_, fun b hb => ⟨?_, ?_⟩, rfl, fun b o e => Heap.get?_push_of_some _ (old b o e), hns.keeps fun b o e => Heap.get?_push_of_some _ e, rfl, I2.bare.push rfl, Heap.get?_push_size _ rfl, ?_, ?_⟩
    · refine T.keep _ _ _ st2 fun b hb o e => keep3 b o (fun z => ?_) e
      have z2 := (f2 b hb).1
      rw [z, hP] at z2; cases z2
    · refine ⟨?_, (f2 b hb).2⟩
      have nb : b ≠ P := fun z => by
        have z2 := (f2 b hb).1
        rw [z, hP] at z2; cases z2
      rw [upd_ne nb]; exact (f2 b hb).1
    · obtain ⟨o, e, _⟩ := T.obj _ _ st2 b hb
      exact Nat.lt_of_lt_of_le (Heap.lt_size e) hsz
    · show h3.objs.size < h'.objs.size
      omega
    · show (s2.gens.push _)[s2.gens.size]? = _
      rw [Array.getElem?_push_size]
  refine ⟨I2.nolimit, ?_⟩
  cases hf : codeAmong gpos ps.toList with
  | none =>
    refine wpAny_genexprCodeX hcode (cd.code hPs ht) (cd.tab hPs) hf fun c' h' tk hx hge hlt hco' _ htab' _ => ?_
    obtain ⟨o1, vs, f1, tf, fl, tg', inF, tx, tt, op, _, _, _, _, _, _, _, _, _, htr, _⟩ := hco'
    exact cont _ h' tk _ hx (Nat.le_trans hge (Nat.le_of_lt hlt)) htab'.2 htr
  | some cv =>
    refine wpAny_genexprCode_hit hcode (cd.code hPs ht) hf ?_
    have z : ps ++ #[] = ps := by simp
    exact cont cv s2.heap s2.toks #[] (Heap.ExtBut.refl _ _) (Nat.le_refl _) (by rw [z]; exact hPs) (by rw [z]; exact ht)
end

/-! ### all, any: one item after another -/
section
variable {prog : Program} {w : World} {A : Around} {R : Result → Shared → Prop} {a : Addr} {g : Nat} {St : Nat → Shared → Prop} {En : Shared → Prop} {Yl : Nat → Value → Shared → Prop}
theorem allG_loop (hh : A.handled = none) (hd : A.in1.depth < recursionLimit)
    (hen : ∀ s₁ h', En s₁ → (∀ b o, s₁.heap.get? b = some o → h'.get? b = some o) → R (.ok (.ret (.bool true))) { s₁.setGen g .finished with heap := h' })
    (hyl : ∀ m v s₁ gs', gs'.bare = true → Yl m v s₁ → (v = .bool false ∧ R (.ok (.ret (.bool false))) (s₁.setGen g gs')) ∨
      (v = .bool true ∧ (s₁.setGen g gs').heap.NoLimit ∧ (s₁.setGen g gs').heap.IsGen a g ∧ ∃ m', m' < m ∧ St m' ((s₁.setGen g gs').setGen g .running))) :
    ∀ (n : Nat) (s : Shared), s.heap.NoLimit → s.heap.IsGen a g →
      (∃ gs, s.gens[g]? = some gs ∧ gs.Goes (model prog w) A.in1.in1 (fun _ _ r s₁ => r = .ok .next ∧ En s₁) (protoG St Yl) n (.send .none) (s.setGen g .running)) →
      codeAny (model prog w) A (.builtin "all.loop" ⟨[.ref a], []⟩) R s := by
  intro n
  induction n with
  | zero =>
    rintro s hl hg ⟨gs, hgs, hgo⟩
    refine codeAny_builtin F.entry_all_loop ?_
    rw [Around.under_plainId F.plain_all_loop _]
    show wpAny _ A.in1 (pyNext (.ref a) >>= _) _ _ s
    refine wpAny_bind (wpAny_pyNext_genexpQ (P := fun _ _ s₁ => En s₁) hh hl hd hg hgs hgo (fun v s₁ gs' hb hY => ?_) (fun s₁ hP h' hk => ?_))
    · obtain ⟨⟨m, hm, hy⟩, _⟩ := hY
      rcases hyl m v s₁ gs' hb hy with ⟨rfl, hR⟩ | ⟨_, _, _, m', hm', _⟩
      · refine wpAny_bind (wpAny_holding (wpAny_truthy_bool ?_))
        refine wpAny_bind (wpAny_letGo ?_)
        simp only [Bool.false_eq_true, if_false]
        exact wpAny_bind (wpAny_rule (wpAny_pure hR))
      · omega
    · exact wpAny_bind (wpAny_rule (wpAny_pure (hen s₁ h' hP hk)))
  | succ n ih =>
    rintro s hl hg ⟨gs, hgs, hgo⟩
    refine codeAny_builtin F.entry_all_loop ?_
    rw [Around.under_plainId F.plain_all_loop _]
    show wpAny _ A.in1 (pyNext (.ref a) >>= _) _ _ s
    have hsz : g + 1 ≤ s.gens.size := by
      rcases Nat.lt_or_ge g s.gens.size with z | z
      · exact z
      · rw [Array.getElem?_eq_none z] at hgs; cases hgs
    refine wpAny_bind (wpAny_gsz hsz (wpAny_pyNext_genexpQ (P := fun _ _ s₁ => En s₁) hh hl hd hg hgs hgo (fun v s₁ gs' hb hY hn => ?_) (fun s₁ hP h' hk _ => ?_)))
    · obtain ⟨⟨m, hm, hy⟩, hres⟩ := hY
      rcases hyl m v s₁ gs' hb hy with ⟨rfl, hR⟩ | ⟨rfl, hl', hg', m', hm', hst⟩
      · refine wpAny_bind (wpAny_holding (wpAny_truthy_bool ?_))
        refine wpAny_bind (wpAny_letGo ?_)
        simp only [Bool.false_eq_true, if_false]
        exact wpAny_bind (wpAny_rule (wpAny_pure hR))
      · refine wpAny_bind (wpAny_holding (wpAny_truthy_bool ?_))
        refine wpAny_bind (wpAny_letGo ?_)
        simp only [if_true]
        have hm : m ≤ n := hm
        refine wpAny_pure ⟨plainId_quiet F.plain_all_loop _, ih _ hl' hg' ⟨gs', ?_, hres _ m' (by omega) hst⟩⟩
        have hn' : g < s₁.gens.size := by
          rw [setGen_size] at hn; exact hn
        show (s₁.gens.setIfInBounds g gs')[g]? = some gs'
        rw [Array.getElem?_setIfInBounds_self, if_pos hn']
    · exact wpAny_bind (wpAny_rule (wpAny_pure (hen s₁ h' hP hk)))
end
end My

set_option Elab.async false
set_option linter.all false
set_option maxRecDepth 100000
set_option maxHeartbeats 2000000
namespace My
open PySem PySem.Spec PyProof.Rows L2 GxR GenW

/-- the around of the generator's frame, asked for by all or any -/
abbrev gA (X : Cx) (elt tg iter : Expr) (scope : Scope) (gpos : Pos) (it : Addr) (C : Addr) (code : Value) : Around :=
  X.A.in1.in1.over (.compLoop (.GeneratorExp elt [⟨tg, iter, [], 0⟩] scope gpos) 0 (.ref it) .none (gEnv X scope C code)) []
theorem gA_room {X : Cx} {elt tg iter : Expr} {scope : Scope} {gpos : Pos} {it C : Addr} {code : Value} {k : Nat} (hr : Room (k + 1) X.A) : Room k (gA X elt tg iter scope gpos it C code) := by
  have h1 : (gA X elt tg iter scope gpos it C code).depth = X.A.depth + 1 := rfl
  have h2 : (gA X elt tg iter scope gpos it C code).units ≤ X.A.units + 16 := by
    show X.A.in1.in1.units + _ + _ ≤ _
    have : X.A.in1.in1.units ≤ X.A.units + 8 := by
      first
        | exact Nat.le_add_right _ _
        | (show X.A.units + _ + _ ≤ _; omega)
    show X.A.in1.in1.units + 0 + 3 ≤ _
    omega
  exact ⟨hr.hd, by have := hr.dp; omega, by have := hr.un; omega⟩
theorem gA_frames {X : Cx} {elt tg iter : Expr} {scope : Scope} {gpos : Pos} {it C : Addr} {code : Value} (h : X.A.frames = some X.stack) :
    (gA X elt tg iter scope gpos it C code).frames = some (gEnv X scope C code :: X.stack) := by
  have e : (gA X elt tg iter scope gpos it C code).frames = pushEnvs [gEnv X scope C code] (pushEnvs [] X.A.frames) := rfl
  rw [e, h]; rfl

/-- all(e for tg in iter) -/
def tAllG (P : Addr) (wi : TI) (g : TG) (te : TE) (vs : List Nat) : TE := fun σ H Q => wi σ H fun J H1 => TabG H1 P ∧ ∀ H2, Tabbed P H1 H2 →
  ∃ W : Nat → Nat → Hp → Prop, (∃ m, W 0 m H2) ∧ ∀ i m H, W i m H → (J.stop i H ∧ Q (.bl true) H) ∨
    (J.go i H ∧ ∃ Nx : Hp → Prop, (∀ H', Nx H' → ∃ m', m' < m ∧ W (i + 1) m' H') ∧ ∀ x H', J.yld i H x H' → g x (wipe σ vs) H' fun σ2 H2 => wipe σ2 vs = wipe σ vs ∧
      te σ2 H2 fun y H3 => ∃ b, y = .bl b ∧ if b = true then Nx H3 else Q (.bl false) H3)

section
variable {X : Cx}
theorem pe_allG {c P : Addr} {elt tg iter : Expr} {p pos gpos : Pos} {scope : Scope} {own : List (Str × Nat)} {wi : TI} {g : TG} {te : TE} {k : Nat}
    (hc : X.calm = true) (hN : X.N.Nodup) (hr : Room (k + 1) X.A) (hgl : Gl X "all") (hm : X.mg "all" = none) (TB : TabB X.base X.mg c P) (hcode : X.env.code = .ref c)
    (S : GsOk scope) (ok : BlkOk X.N X.env.scope scope own) (hi : PI X tg iter wi)
    (hg : ∀ A' s H C code fp pn, PG (gcx X A' s H (gEnv X scope C code) fp pn) tg g)
    (he : ∀ A' s H C code fp pn, Room k A' → PE (gcx X A' s H (gEnv X scope C code) fp pn) elt te)
    (hs : ∀ v, genFold iter X.env v = pure v := by intro _; rfl)
    (h1 : starEach [.GeneratorExp elt [⟨tg, iter, [], 0⟩] scope gpos] X.env = (false, eval (.GeneratorExp elt [⟨tg, iter, [], 0⟩] scope gpos) X.env) :: starEach [] X.env := by rfl) :
    PE X (.Call (.Name "all" p) [.GeneratorExp elt [⟨tg, iter, [], 0⟩] scope gpos] [] pos) (tAllG P wi g te (own.map (·.2))) := by
  refine ⟨fun pins s σ H Q I h => ?_⟩
  refine wpAny_Call_Name_kw (ld_blt I hgl hm boot_all ?_)
  refine PyProof.Rows.callWith_builtin1 ?_ h1 (by rfl)
  rw [h1]
  show wpAny _ _ (spliced ((false, eval (.GeneratorExp elt [⟨tg, iter, [], 0⟩] scope gpos) X.env) :: backTo pos (starEach [] X.env))) _ _ s
  refine Calls.spliced_cons (gen_mk hr TB hcode S ok hi hs I h fun J H1 H2 it fp tn s4 s5 C a code gi x y q M => ?_)
  refine Calls.spliced_nil ?_
  obtain ⟨W, ⟨m0, w0⟩, turn⟩ := q H2 M.tab
  have hX : X.A.handled = none := M.inv.ok.hd hc
  have I5 : Inv (gcx X (gA X elt tg iter scope gpos it C code) s4 H2 (gEnv X scope C code) fp [(a, genObj gi x y)]) [] (wipe σ (own.map (·.2))) H2 s5 :=
    gen_inv M.inv ok hN S M.fp M.c hX (gA_frames M.inv.ok.frames) M.kp M.ns M.os M.bare fun p hp => by
      rw [List.mem_singleton.mp hp]
      exact ⟨M.obj, M.lt, fun v e => by cases e⟩
  have pg := hg (gA X elt tg iter scope gpos it C code) s4 H2 C code fp [(a, genObj gi x y)]
  have pe := he (gA X elt tg iter scope gpos it C code) s4 H2 C code fp [(a, genObj gi x y)] (gA_room hr)
  have T := M.tu
  generalize hY : gcx X (gA X elt tg iter scope gpos it C code) s4 H2 (gEnv X scope C code) fp [(a, genObj gi x y)] = Y at I5 pg pe
  have stat : ∀ {σ' : L2.St} {H' : Hp} {s' : Shared}, Inv Y [] σ' H' s' → (∀ b ∈ fp, H' b = none) → ∀ b ∈ fp, FpOk Y [] H' b := fun {σ' H' s'} I' hn b hb => by
    subst hY
    refine ⟨hn b hb, (I'.ok.exf b hb).1, I'.ok.exfs b hb, .inl hb, fun x c e => (I'.ok.exf b hb).2 x c e, fun p hp => ?_⟩
    have hp : p ∈ [(a, genObj gi x y)] ++ ([] : List (Addr × Obj)) := hp
    rw [List.append_nil] at hp
    rw [List.mem_singleton.mp hp]
    have h2 := (M.fp b hb).2
    have h3 := M.lt
    exact Nat.ne_of_gt (Nat.lt_trans h2 h3)
  have obj : ∀ {σ' : L2.St} {H' : Hp} {s' : Shared}, Inv Y [] σ' H' s' → s'.heap.IsGen a gi := fun {σ' H' s'} I' => by
    subst hY
    exact ⟨_, x, y, (I'.pin (a, genObj gi x y) (List.mem_append_left _ (List.mem_singleton.mpr rfl))).1, rfl, rfl, rfl⟩
  have back : ∀ {σ' : L2.St} {H' : Hp} {s' : Shared}, Inv Y [] σ' H' s' → Inv X pins σ H' s' := fun {σ' H' s'} I' => by
    subst hY
    exact M.inv.call' (ch := fp) I'.os I'.base I'.hok I'.bare fun b hb => ⟨(M.fp b hb).1.2.2.2.1, (M.fp b hb).1.2.1, (M.fp b hb).1.2.2.2.2.1, (M.fp b hb).1.2.2.2.2.2⟩
  have seg := seg_loopG (prog := X.prog) (w := X.w) (A := X.A.in1.in1) (elt := elt) (tg := tg) (iter := iter) (scope := scope) (pos := gpos) (it := it) (cenv := gEnv X scope C code) S.co
    (fun m s => ∃ i H', Inv Y [] (wipe σ (own.map (·.2))) H' s ∧ tn i s.heap ∧ (∀ b ∈ fp, H' b = none) ∧ W i m H')
    (fun s => ∃ H', Inv Y [] (wipe σ (own.map (·.2))) H' s ∧ Q (.bl true) H')
    (fun m v s => ∃ i H' b, v = .bool b ∧ Inv Y [] (wipe σ (own.map (·.2))) H' s ∧ tn i s.heap ∧ (∀ b ∈ fp, H' b = none) ∧ if b = true then ∃ m', m' < m ∧ W i m' H' else Q (.bl false) H') ?_
  · have hl5 : s5.heap.NoLimit := I5.nolimit
    refine call_function_tree F.kind_all F.plain_all F.entry_all (F.args_all1 _) ?_
    unfold Builtin.«all»
    refine wpAny_bind (m := oneArg "all" _) (wpAny_pure ?_)
    refine wpAny_bind (wpAny_pyIter_gen (obj I5) ?_)
    refine wpAny_pure ⟨plainId_quiet F.plain_all_loop _, ?_⟩
    refine allG_loop (g := gi) (n := m0 + 1) (St := fun m s => ∃ i H', Inv Y [] (wipe σ (own.map (·.2))) H' s ∧ tn i s.heap ∧ (∀ b ∈ fp, H' b = none) ∧ W i m H')
      (En := fun s => ∃ H', Inv Y [] (wipe σ (own.map (·.2))) H' s ∧ Q (.bl true) H')
      (Yl := fun m v s => ∃ i H' b, v = .bool b ∧ Inv Y [] (wipe σ (own.map (·.2))) H' s ∧ tn i s.heap ∧ (∀ b ∈ fp, H' b = none) ∧ if b = true then ∃ m', m' < m ∧ W i m' H' else Q (.bl false) H')
      hX (by have := hr.dp; show X.A.depth < _; omega) ?_ ?_ s5 hl5 (obj I5) ⟨_, M.gs, rfl, ?_⟩
    · rintro s₁ h' ⟨H', I', qq⟩ hk
      have I6 := inv_setGen (g := gi) (x := .finished) I' rfl
      have I7 := (back I6).kept (t' := s₁.toks) hk
      exact ⟨.bl true, H', I7, rfl, qq⟩
    · rintro m v s₁ gs' hb ⟨i, H', b, rfl, I', st', n', q'⟩
      have I6 := inv_setGen (g := gi) I' hb
      cases b with
      | false => exact .inl ⟨rfl, .bl false, H', back I6, rfl, q'⟩
      | true =>
        obtain ⟨m', hm', w'⟩ : ∃ m', m' < m ∧ W i m' H' := q'
        exact .inr ⟨rfl, I6.nolimit, obj I6, m', hm', i, H', inv_setGen I6 rfl, st', n', w'⟩
    · -- the start
      have I6 : Inv Y [] (wipe σ (own.map (·.2))) H2 (s5.setGen gi .running) := inv_setGen I5 rfl
      have st5 : tn 0 (s5.setGen gi .running).heap := T.keep _ _ _ M.st fun b _ o e => M.kp b o e
      have loop := seg (m0 + 1) m0 (s5.setGen gi .running) (s5.setGen gi .running) (Nat.lt_succ_self _) ⟨0, H2, I6, st5, fun b hb => (M.fp b hb).1.1, w0⟩
      show Seg _ X.A.in1.in1 _ _ _ _ _ ((compStart (.GeneratorExp elt [⟨tg, iter, [], 0⟩] scope gpos) 0 (.ref it) .none (gEnv X scope C code)).onRaise (leaving (gEnv X scope C code))) [] _
      unfold compStart
      rw [Sem.onRaise_eq_wrap]
      show Seg _ X.A.in1.in1 _ _ _ _ _ ((ask >>= _).wrap _ _ _ _) [] _
      refine seg_bind_wrap (wpAny_askSetting ?_)
      split
      · exact seg_again rfl loop
      · refine seg_bind_wrap (wpAny_rule ?_)
        show Seg _ X.A.in1.in1 _ _ _ _ _ ((standAt iter.pos >>= _).wrap _ _ _ _) [] _
        exact seg_bind_wrap (wpAny_standAt (seg_bind_wrap (T.self _ 0 _ _ _ st5 (seg_again rfl loop))))
  · rintro m s6 ⟨i, H', I', st', n', w'⟩
    rcases turn i m H' w' with ⟨stop, qq⟩ | ⟨go, Nx, hNx, step⟩
    · have td := T.done Y (by subst hY; rfl) (by subst hY; rfl) (by subst hY; rfl) (by subst hY; rfl) i [] s6 _ H' (fun _ _ => False) I' (stat I' n') st' stop
      subst hY
      refine wpAny_mono td (fun r s7 ⟨hr7, I7⟩ => ?_) fun _ _ e => e
      subst hr7
      exact ⟨H', I7, qq⟩
    · have ti := T.item Y (by subst hY; rfl) (by subst hY; rfl) (by subst hY; rfl) (by subst hY; rfl) i [] s6 _ H' (fun _ _ => False) I' (stat I' n') st' go
      subst hY
      refine wpAny_mono ti (fun r s7 ⟨u, hr7, h7⟩ => ?_) fun _ _ e => e
      subst hr7
      refine wpAny_mono h7 (fun _ s8 ⟨xv, H8, I8, r8, y8, st8, n8⟩ => ?_) fun _ _ e => e
      have I8' := I8.pinned (stat I8 n8) (T.obj _ _ st8)
      refine wpAny_mono (pg.run _ s8 _ H8 xv u _ I8' r8 (step xv H8 y8)) (fun _ s9 ⟨σ9, H9, I9, hw9, q9⟩ => ?_) fun _ _ e => e
      refine wpAny_mono (pe.run _ s9 σ9 H9 _ I9 q9) (fun v s10 ⟨yv, H10, I10, r10, b, eb, q10⟩ => ?_) fun _ _ e => e
      subst eb
      cases r10
      have pin' : ∀ b ∈ fp, ∀ o, s8.heap.get? b = some o → s10.heap.get? b = some o ∧ H10 b = none := fun b hb o e =>
        let z := I10.pin (b, o) (List.mem_append_right _ (List.mem_append_right _ (mem_pinsAt hb e)))
        ⟨z.1, z.2.1⟩
      have hl : (wipe σ (own.map (·.2))).length = σ9.length := by rw [← hw9, wipe_length]
      refine ⟨i + 1, H10, b, rfl, (I10.unpinned (pins := [])).weak hl (fun j v e => ?_), T.keep _ _ _ st8 fun b hb o e => (pin' b hb o e).1, fun b hb => ?_, ?_⟩
      · rw [← hw9] at e
        exact (wipe_some e).1
      · obtain ⟨o, e, _⟩ := T.obj _ _ st8 b hb
        exact (pin' b hb o e).2
      · cases b with
        | true => exact hNx H10 q10
        | false => exact q10
end
end My

set_option Elab.async false
set_option linter.all false
set_option maxRecDepth 100000
namespace My
open PySem PySem.Spec PyProof.Rows L2 GxR

/-! ### a def whose code object is known -/
section
variable {P : Program} {w : World} {K : PySem.W.Frag} {mg : Str → Option Value} {base : Heap}
theorem okC {x qual : Str} {st : Stmt} {f c : Addr} {fd : FuncData} {N ps : List Str} {k : Nat} {sp : Sp} (F : Fun K x qual st f fd) (hc : fd.code = .ref c) (S : FnScope N ps (defScope st))
    (len : ∀ vs H Q E, sp vs H Q E → vs.length = ps.length)
    (hbody : ∀ (A : Around) (outer : List Env) (s : Shared) (H : Hp) (vs : List V) (Q : VK) (E : XK), Room k (A.deeper (envOfC qual (defScope st) s.heap.objs.size f (.ref c))) → sp vs H Q E →
      ∃ t, PSs (cxOf CX0 P w K mg base N qual (defScope st) f (.ref c) A outer s H E).nox (defBody st) t ∧ t { nx := fun _ H' => Q .non H', rt := Q } (start N vs) H) : FnOk P w K mg base CX0 (k + 1) f fd ps sp := by
  obtain ⟨oc, od, kV, doc, pm, an, cdv, ct, osl, rfl, lk, hcd⟩ := F.ex
  have e : cdv = .ref c := hc
  subst e
  refine fn_of lk hcd S len fun A outer s H vs Q E hr hsp => ?_
  obtain ⟨t, h, q⟩ := hbody A outer s H vs Q E hr hsp
  exact ⟨t, h.nox, q⟩
theorem fun_of {x qual : Str} {st : Stmt} {f : Addr} {fd : FuncData} {kws : List (Str × V)} (F : FunD K x qual (defArgs st) (defBody st) (defScope st) [] kws f fd) : Fun K x qual st f fd := by
  obtain ⟨oc, od, dV, kV, doc, pm, an, cdv, ct, osl, rfl, lk, hcd, hD, _⟩ := F.ex
  rcases hD with ⟨_, rfl⟩ | ⟨e, _⟩
  · exact ⟨⟨oc, od, kV, doc, pm, an, cdv, ct, osl, rfl, lk, hcd⟩, F.kp⟩
  · exact absurd rfl e
end

/-! ### a < b < c < d -/
section
variable {X : Cx} {a b c d : Expr} {ta tb tc td : TE} {pos : Pos}
def tChain3 (r1 r2 r3 : R2) (ta tb tc td : TE) : TE := fun σ H Q => ta σ H fun x H1 => tb σ H1 fun y H2 => r1 x y H2 fun z H3 => ∃ k, z = .bl k ∧
  (if k = true then tc σ H3 fun v H4 => r2 y v H4 fun z H5 => ∃ k, z = .bl k ∧ (if k = true then td σ H5 fun u H6 => r3 v u H6 Q else Q (.bl false) H5) else Q (.bl false) H3)
theorem pe_chain3 {o1 o2 o3 : CmpOp} {r1 r2 r3 : R2} (h1 : OpR X (compareOp o1) r1) (h2 : OpR X (compareOp o2) r2) (h3 : OpR X (compareOp o3) r3) (ha : PE X a ta) (hb : PE X b tb) (hc : PE X c tc) (hd : PE X d td)
    (hm : lastMarks [o1, o2, o3] [b, c, d] = false := by with_unfolding_all rfl) : PE X (.Compare a [o1, o2, o3] [b, c, d] pos) (tChain3 r1 r2 r3 ta tb tc td) := by
  refine ⟨fun pins s σ H Q I h => ?_⟩
  refine Compare_chain (thn (ha.run pins s σ H _ I h) fun v s1 ⟨x, H1, I1, q1, p1⟩ => chain_link (thn (hb.run pins s1 σ H1 _ I1 p1) fun u s2 ⟨y, H2, I2, q2, p2⟩ =>
    thn (h1 pins s2 σ H2 x y v u _ I2 q1 q2 p2) fun e s3 ⟨z, H3, I3, q3, k, ek, p3⟩ => ?_)) hm
  subst ek
  cases q3
  refine wpAny_truthy_bool ?_
  cases k with
  | false => exact ite_ff ⟨.bl false, H3, I3, rfl, p3⟩
  | true =>
    refine ite_tt (chain_link (thn (hc.run pins s3 σ H3 _ I3 p3) fun u4 s4 ⟨y4, H4, I4, q4, p4⟩ => thn (h2 pins s4 σ H4 y y4 u u4 _ I4 q2 q4 p4) fun e5 s5 ⟨z5, H5, I5, q5, k5, ek5, p5⟩ => ?_))
    subst ek5
    cases q5
    refine wpAny_truthy_bool ?_
    cases k5 with
    | false => exact ite_ff ⟨.bl false, H5, I5, rfl, p5⟩
    | true => exact ite_tt (chain_last (thn (hd.run pins s5 σ H5 _ I5 p5) fun u6 s6 ⟨y6, H6, I6, q6, p6⟩ => h3 pins s6 σ H6 y4 y6 u4 u6 Q I6 q4 q6 p6))
end

/-! ### all over what is walked -/
theorem allG_it {J : It} {n : Nat} {G : Hp → Prop} {Y : Nat → Hp → V → Hp → Prop} (w : Walk J n G Y) {g : TG} {te : TE} {vs : List Nat} {σ : L2.St} {H0 : Hp} {QT QF : Hp → Prop} (Pv : Nat → Hp → Prop) (h0 : Pv 0 H0) (hG : ∀ i H, i ≤ n → Pv i H → G H)
    (hs : ∀ i x H H', i < n → Pv i H → Y i H x H' → g x (wipe σ vs) H' fun σ2 H2 => wipe σ2 vs = wipe σ vs ∧ te σ2 H2 fun y H3 => ∃ b, y = .bl b ∧ if b = true then Pv (i + 1) H3 else QF H3)
    (hd : ∀ H, Pv n H → QT H) :
    ∃ W : Nat → Nat → Hp → Prop, (∃ m, W 0 m H0) ∧ ∀ i m H, W i m H → (J.stop i H ∧ QT H) ∨
      (J.go i H ∧ ∃ Nx : Hp → Prop, (∀ H', Nx H' → ∃ m', m' < m ∧ W (i + 1) m' H') ∧ ∀ x H', J.yld i H x H' → g x (wipe σ vs) H' fun σ2 H2 => wipe σ2 vs = wipe σ vs ∧
        te σ2 H2 fun y H3 => ∃ b, y = .bl b ∧ if b = true then Nx H3 else QF H3) := by
  refine ⟨fun i m H => m = n - i ∧ i ≤ n ∧ Pv i H, ⟨n, rfl, Nat.zero_le _, h0⟩, ?_⟩
  rintro i m H ⟨rfl, hi, p⟩
  have q := hG i H hi p
  by_cases hlt : i < n
  · exact .inr ⟨w.goes i H hlt q, Pv (i + 1), fun H' p' => ⟨n - (i + 1), by omega, rfl, hlt, p'⟩, fun x H' y => hs i x H H' hlt p (w.yields i H x H' hlt q y)⟩
  · have e : i = n := by omega
    subst e
    exact .inl ⟨w.stops H q, hd H p⟩
theorem walk_zipT {K : PySem.W.Frag} {a b : Addr} {xs ys : List V} {n : Nat} (hn : n = min xs.length ys.length) :
    Walk (RZ.ItzT K a b) n (fun H => SqT K H a xs ∧ SqT K H b ys) (YPair (fun i => xs[i]?) (fun i => ys[i]?)) := by
  subst hn
  refine ⟨fun i _ hi q => ?_, fun _ q => ⟨xs, ys, q.1, q.2, by omega⟩, fun i H v H' _ q y => ?_⟩
  · have h1 : i < xs.length := by omega
    have h2 : i < ys.length := by omega
    exact ⟨xs, ys, xs[i], ys[i], q.1, q.2, List.getElem?_eq_getElem h1, List.getElem?_eq_getElem h2⟩
  · obtain ⟨T, x, z, h1, h2, h3, h4, h5⟩ := y
    exact ⟨T, x, z, h1, h2, h3, h4 xs q.1, h5 ys q.2⟩
theorem cut1 (xs : List V) : cutV xs (some 1) none = xs.drop 1 := by
  unfold cutV
  rw [show HT.sIx xs.length 0 (some 1) = min 1 xs.length from HT.sIx_nat xs.length 0 1, HT.sIx_none]
  cases xs with
  | nil => rfl
  | cons x r =>
    rw [show min 1 (x :: r).length = 1 by rw [List.length_cons]; omega]
    show (List.take ((x :: r).length - 1) r) = r
    rw [List.length_cons, Nat.add_sub_cancel]
    exact List.take_length
theorem lex_of {s t : Int × Int} (h : ltT s t) : HT.lexLt [s.1, s.2] [t.1, t.2] = true := by
  rw [HT.lexLt_cons]
  rcases h with h | ⟨h, k⟩
  · rw [if_neg (by omega)]; exact decide_eq_true h
  · rw [if_pos h, HT.lexLt_cons, if_neg (by omega)]; exact decide_eq_true k
end My

set_option Elab.async false
set_option linter.all false
set_option maxRecDepth 100000
namespace My
open PySem PySem.Spec PyProof.Rows L2
def topS (i : Nat) : Stmt := PySem.Challenge.pw_pointedties_k01_what_webs_are.main.body.getD i (.Pass ⟨0, 0, 0, 0⟩)
section
variable {P : Program} {w : World} {K : PySem.W.Frag} {mg : Str → Option Value} {base : Heap}

/-! ### _law_mix -/
abbrev s__law_mix : Stmt := topS 8
abbrev N__law_mix : List Str := ["_law_cell", "_law_k", "_law_m"]
theorem sc__law_mix : FnScope N__law_mix ["_law_cell", "_law_k"] (defScope s__law_mix) := ⟨rfl, rfl, rfl, by decide +kernel, rfl, by decide +kernel, by decide +kernel⟩
def sp_mix : Sp := fun vs H Q _ => ∃ c k : Int, vs = [.int c, .int k] ∧ -(2 ^ 60) < k ∧ k < 2 ^ 60 ∧
  ∀ r : Int, 0 ≤ r → Q (.int r) H
theorem ok_mix {f : Addr} {fd : FuncData} (F : Fun K "_law_mix" "_law_mix" s__law_mix f fd) :
    FnOk P w K mg base CX0 1 f fd ["_law_cell", "_law_k"] sp_mix := by
  refine F.ok sc__law_mix (fun vs H Q E h => ?_) (fun cdv A outer s H vs Q E hr h => ?_)
  · obtain ⟨c, k, rfl, _⟩ := h; rfl
  · obtain ⟨c, k, rfl, h1, h2, q⟩ := h
    refine ⟨_, (pss_cons (ps_set (i := 2) sc__law_mix.nd rfl (by first | exact Or.inl rfl | exact Or.inr rfl) (pe_op op_mod (pe_op op_mul (pe_op op_add (pe_op op_add (pe_op op_mod (pv 0) pe_int) (pe_op op_mul (pe_op op_mul (pv 1) (pv 1)) pe_int)) pe_int) pe_int) pe_int))
    (pss_one (ps_ret (pe_op op_mod (pe_op op_mul (pv 2) (pv 2)) pe_int)))), ?_⟩
    refine ⟨_, rfl, _, _, rfl, rfl, (by decide : (0 : Int) < 2147483629), ?_⟩
    refine ⟨_, rfl, _, rfl, _, _, rfl, rfl, .inl ⟨by omega, by omega⟩, ?_⟩
    refine ⟨_, _, rfl, rfl, .inr ⟨by decide, by decide⟩, ?_⟩
    refine ⟨_, _, rfl, rfl, ?_⟩
    refine ⟨_, _, rfl, rfl, ?_⟩
    refine ⟨_, _, rfl, rfl, .inr ⟨by decide, by decide⟩, ?_⟩
    refine ⟨_, _, rfl, rfl, (by decide : (0 : Int) < 2147483647), ?_⟩
    have b1 : ∀ x : Int, 0 ≤ x % 2147483647 := fun x => Int.emod_nonneg _ (by decide)
    have b2 : ∀ x : Int, x % 2147483647 < 2147483647 := fun x => Int.emod_lt_of_pos _ (by decide)
    refine ⟨_, rfl, _, rfl, _, _, rfl, rfl, .inl ⟨by have := b1 (((c % 2147483629 + k * k * 7919) + 11) * 48271); omega, by have := b2 (((c % 2147483629 + k * k * 7919) + 11) * 48271); omega⟩, ?_⟩
    refine ⟨_, _, rfl, rfl, (by decide : (0 : Int) < 1999999973), ?_⟩
    exact q _ (Int.emod_nonneg _ (by decide))

/-! ### _law_left -/
abbrev s__law_left : Stmt := topS 9
abbrev N__law_left : List Str := ["_law_script", "_law_k", "_law_cell"]
theorem sc__law_left : FnScope N__law_left ["_law_script", "_law_k"] (defScope s__law_left) := ⟨rfl, rfl, rfl, by decide +kernel, rfl, by decide +kernel, by decide +kernel⟩
def sp_left (K : PySem.W.Frag) : Sp := fun vs H Q _ => ∃ (a : Addr) (ns : List Int) (k : Int), vs = [.ref a, .int k] ∧ SqL K H a (ns.map V.int) ∧ 0 ≤ k ∧ k < 2 ^ 60 ∧
  ∀ L H', H L = none → Same H H' → Lf H' L 0 → Q (.ref L) H'
theorem ok_left {f : Addr} {fd : FuncData} (B : Bts mg) (F : Fun K "_law_left" "_law_left" s__law_left f fd) :
    FnOk P w K mg base CX0 1 f fd ["_law_script", "_law_k"] (sp_left K) := by
  refine F.ok sc__law_left (fun vs H Q E h => ?_) (fun cdv A outer s H vs Q E hr h => ?_)
  · obtain ⟨c, k, _, rfl, _⟩ := h; rfl
  · obtain ⟨a, ns, k, rfl, hS, h1, h2, q⟩ := h
    refine ⟨_, (pss_cons (ps_set (i := 2) sc__law_left.nd rfl (by first | exact Or.inl rfl | exact Or.inr rfl) (pe_ifExp (pt_cmpR op_lt (pv 1) (pe_callB call_len_seq (by rfl) B.len (by decide +kernel) (pa_cons (pv 0) pa_nil)) (nomark _)) (pe_ix ix_list (pv 0) (pv 1) (fun _ _ => rfl)) pe_int))
    (pss_one (ps_ret (pe_lst (pa_cons (pe_op op_mul (pe_callB call_abs (by rfl) B.abs (by decide +kernel) (pa_cons (pv 2) pa_nil)) (pe_callTy call_int1 (by rfl) B.int (by decide +kernel) (pa_cons (pe_cmpR op_ge (pe_callB call_abs (by rfl) B.abs (by decide +kernel) (pa_cons (pv 2) pa_nil)) (pe_op op_pow pe_int pe_int) (nomark _)) pa_nil))) (pa_cons (pe_op op_add (pv 2) (pe_op op_mul pe_int (pv 1))) (pa_cons pe_int pa_nil))))))), ?_⟩
    have rest : ∀ x : Int, (tRet (tLst (tCons (tOp (rI CMul fun i j => .int (i * j)) (tCB (fun xs H Q => ∃ i, xs = [.int i] ∧ Q (.int (if i < 0 then -i else i)) H) (tCons (tVar 2) tNil)) (tCB (fun xs H Q => (∃ i, xs = [.int i] ∧ Q (.int i) H) ∨ ∃ k, xs = [.bl k] ∧ Q (.int (if k then 1 else 0)) H) (tCons (tOp (rI0 fun i j => .bl (decide (j ≤ i))) (tCB (fun xs H Q => ∃ i, xs = [.int i] ∧ Q (.int (if i < 0 then -i else i)) H) (tCons (tVar 2) tNil)) (tOp (rI CPow fun i j => .int (i ^ j.toNat)) (tC (.int 10)) (tC (.int 18)))) tNil))) (tCons (tOp (rI0 fun i j => .int (i + j)) (tVar 2) (tOp (rI CMul fun i j => .int (i * j)) (tC (.int 1000003)) (tVar 1))) (tCons (tC (.int 0)) tNil))))) { nx := fun _ H' => Q .non H', rt := Q } ((start N__law_left [.ref a, .int k]).set 2 (some (.int x))) H := by
      intro x
      refine ⟨_, rfl, _, rfl, ?_⟩
      refine ⟨_, rfl, _, rfl, ?_⟩
      refine ⟨_, _, rfl, rfl, ⟨by decide, by decide, by decide⟩, ?_⟩
      refine ⟨_, _, rfl, rfl, .inr ⟨_, rfl, ?_⟩⟩
      refine ⟨_, _, rfl, rfl, .inr ⟨?_, ?_⟩, ?_⟩
      · exact (bi _).1
      · exact (bi _).2.1
      refine ⟨_, rfl, _, rfl, _, _, rfl, rfl, .inl ⟨by decide, by decide⟩, ?_⟩
      refine ⟨_, _, rfl, rfl, ?_⟩
      refine ⟨by show 3 ≤ sizeLine; decide, fun p np => ?_⟩
      refine q p _ np (same_new np) ⟨_, _, _, upd_same, ?_, Int.le_refl _, Int.le_refl _⟩
      refine Int.mul_nonneg ?_ ?_
      · split <;> omega
      · exact (bi _).2.2
    refine ⟨_, rfl, _, rfl, a, _, rfl, .inl hS, _, _, rfl, rfl, _, rfl, ite2 (fun e => ?_) (fun e => ?_)⟩
    · have e := of_decide_eq_true e
      rw [List.length_map] at e
      have hk : k.toNat < ns.length := by omega
      have g : (ns.map V.int)[k.toNat]? = some (.int ns[k.toNat]) := by
        rw [List.getElem?_map, List.getElem?_eq_getElem hk]; rfl
      have g2 := atI_nat g
      rw [Int.toNat_of_nonneg h1] at g2
      refine ⟨_, rfl, _, rfl, a, _, k, _, rfl, rfl, hS, g2, ?_⟩
      exact rest _
    · exact rest 0

/-! ### _law_pick -/
abbrev s__law_pick : Stmt := topS 10
abbrev N__law_pick : List Str := ["_law_left_here", "_law_many", "_law_digit"]
theorem sc__law_pick : FnScope N__law_pick ["_law_left_here", "_law_many"] (defScope s__law_pick) := ⟨rfl, rfl, rfl, by decide +kernel, rfl, by decide +kernel, by decide +kernel⟩
def sp_pick : Sp := fun vs H Q _ => ∃ (L : Addr) (m c : Int), vs = [.ref L, .int m] ∧ Lf H L c ∧ 0 < m ∧ m < 1000000 ∧ c < 2 ^ 50 ∧
  ∀ (r : Int) (H' : Hp), 0 ≤ r → r < m → Fr L H H' → Lf H' L (c + 1) → Q (.int r) H'
theorem ok_pick {f : Addr} {fd : FuncData} (F : Fun K "_law_pick" "_law_pick" s__law_pick f fd) (c__law_mix : Cl P w K mg base 1 "_law_mix" sp_mix) :
    FnOk P w K mg base CX0 2 f fd ["_law_left_here", "_law_many"] sp_pick := by
  refine F.ok sc__law_pick (fun vs H Q E h => ?_) (fun cdv A outer s H vs Q E hr h => ?_)
  · obtain ⟨c, k, _, rfl, _⟩ := h; rfl
  · obtain ⟨L, m, c, rfl, ⟨x, y, z, hL, hx, hz, hzc⟩, h1, h2, h3, q⟩ := h
    refine ⟨_, (pss_cons (ps_asg (pe_op op_add (pe_ix ix_list (pv 0) pe_int (fun _ _ => rfl)) pe_int) (pg_sub (pv 0) pe_int set_list))
    (pss_cons (ps_if (pt_cmpR op_gt (pe_ix ix_list (pv 0) pe_int (fun _ _ => rfl)) pe_int (nomark _)) (pss_cons (ps_set (i := 2) sc__law_pick.nd rfl (by first | exact Or.inl rfl | exact Or.inr rfl) (pe_op op_mod (pe_ix ix_list (pv 0) pe_int (fun _ _ => rfl)) (pv 1)))
      (pss_cons (ps_asg (pe_op op_fdiv (pe_ix ix_list (pv 0) pe_int (fun _ _ => rfl)) (pv 1)) (pg_sub (pv 0) pe_int set_list))
      (pss_one (ps_ret (pv 2))))) pss_nil)
    (pss_one (ps_ret (pe_op op_mod (pe_op op_fdiv (pe_c c__law_mix hr (by decide) (by rfl) (pa_cons (pe_c c__law_mix hr (by decide) (by rfl) (pa_cons (pe_ix ix_list (pv 0) pe_int (fun _ _ => rfl)) (pa_cons (pe_ix ix_list (pv 0) pe_int (fun _ _ => rfl)) pa_nil))) (pa_cons (pe_op op_add (pe_ix ix_list (pv 0) pe_int (fun _ _ => rfl)) pe_int) pa_nil))) pe_int) (pv 1)))))), ?_⟩
    refine ⟨_, rfl, L, _, _, _, rfl, rfl, SqL.of hL, rfl, _, _, rfl, rfl, ?_⟩
    refine ⟨_, rfl, L, _, _, _, rfl, rfl, hL, rfl, ?_⟩
    refine ⟨_, rfl, L, _, _, _, rfl, rfl, SqL.of upd_same, rfl, _, _, rfl, rfl, _, rfl, ite2 (fun e => ?_) (fun e => ?_)⟩
    · refine ⟨_, rfl, L, _, _, _, rfl, rfl, SqL.of upd_same, rfl, _, rfl, _, _, rfl, rfl, h1, ?_⟩
      refine ⟨_, rfl, L, _, _, _, rfl, rfl, SqL.of upd_same, rfl, _, rfl, _, _, rfl, rfl, ⟨h1, by omega⟩, ?_⟩
      refine ⟨_, rfl, L, _, _, _, rfl, rfl, upd_same, rfl, ?_⟩
      refine ⟨_, rfl, ?_⟩
      refine q _ _ (Int.emod_nonneg _ (by omega)) (Int.emod_lt_of_pos _ h1) ((Fr.refl L H).putL.putL) ⟨_, _, _, upd_same, ?_, ?_, ?_⟩
      · exact Int.ediv_nonneg hx (Int.le_of_lt h1)
      · omega
      · omega
    · refine ⟨_, rfl, L, _, _, _, rfl, rfl, SqL.of upd_same, rfl, ?_⟩
      refine ⟨_, rfl, L, _, _, _, rfl, rfl, SqL.of upd_same, rfl, ?_⟩
      refine ⟨_, _, rfl, by omega, by omega, fun r hr0 => ?_⟩
      refine ⟨_, rfl, L, _, _, _, rfl, rfl, SqL.of upd_same, rfl, _, _, rfl, rfl, ?_⟩
      refine ⟨_, _, rfl, by omega, by omega, fun r2 hr2 => ?_⟩
      refine ⟨_, _, rfl, rfl, ⟨by decide, by decide⟩, ?_⟩
      refine ⟨_, rfl, _, _, rfl, rfl, h1, ?_⟩
      exact q _ _ (Int.emod_nonneg _ (by omega)) (Int.emod_lt_of_pos _ h1) (Fr.refl L H).putL ⟨_, _, _, upd_same, hx, by omega, by omega⟩
end
end My

set_option Elab.async false
set_option linter.all false
set_option maxRecDepth 100000
namespace My
open PySem PySem.Spec PyProof.Rows L2
section
variable {P : Program} {w : World} {K : PySem.W.Frag} {mg : Str → Option Value} {base : Heap}

/-! ### _law_pairs -/
abbrev s__law_pairs : Stmt := topS 11
abbrev N__law_pairs : List Str := ["_law_many", "_law_found", "_law_a", "_law_b"]
theorem sc__law_pairs : FnScope N__law_pairs ["_law_many"] (defScope s__law_pairs) := ⟨rfl, rfl, rfl, by decide +kernel, rfl, by decide +kernel, by decide +kernel⟩
def sp_pairs : Sp := fun vs H Q _ => ∃ n : Nat, vs = [.int (n : Int)] ∧ n ≤ 100 ∧
  ∀ p vs H', H p = none → Same H H' → H' p = some (.lst vs) → Ties H' vs (pup n n) → Q (.ref p) H'
theorem ok_pairs {f : Addr} {fd : FuncData} (B : Bts mg) (F : Fun K "_law_pairs" "_law_pairs" s__law_pairs f fd) :
    FnOk P w K mg base CX0 1 f fd ["_law_many"] sp_pairs := by
  refine F.ok sc__law_pairs (fun vs H Q E h => ?_) (fun cdv A outer s H vs Q E hr h => ?_)
  · obtain ⟨n, rfl, _⟩ := h; rfl
  · obtain ⟨n, rfl, hn, q⟩ := h
    refine ⟨_, (pss_cons (ps_set (i := 1) sc__law_pairs.nd rfl (by first | exact Or.inl rfl | exact Or.inr rfl) (pe_lst pa_nil))
    (pss_cons (ps_for PassesOwn.never rfl (pi_range1 (by rfl) B.range (pa_cons (pv 0) pa_nil)) (pg_name (i := 2) sc__law_pairs.nd rfl (by first | exact Or.inl rfl | exact Or.inr rfl))
      (pss_one (ps_expr (pe_bm PySem.F.plainAttrs_list PySem.F.slot_list_extend PySem.F.type_list_extend mt_extend (pv 1) (pa_cons (pe_lc (own := [("_law_b", 3)]) (g := (gName 3)) (tt := tYes) rfl sc__law_pairs.nd (pi_range2 (by rfl) B.range (pa_cons (pe_op op_add (pv 2) pe_int) (pa_cons (pv 0) pa_nil))) (blkOk_by (own := [("_law_b", 3)]) (N := N__law_pairs) (sc := defScope s__law_pairs) (by decide +kernel)) (fun _ _ _ _ _ => (pg_name (i := 3) sc__law_pairs.nd rfl (by first | exact Or.inl rfl | exact Or.inr rfl))) (fun _ _ _ _ _ => pts_nil) (fun _ _ _ _ _ => (pe_tup (pa_cons (pv 2) (pa_cons (pv 3) pa_nil))))) pa_nil)))))
    (pss_one (ps_ret (pv 1))))), ?_⟩
    refine ⟨Nat.zero_le _, fun o no => ?_⟩
    refine ⟨_, rfl, _, rfl, by omega, by omega, ?_⟩
    refine for_range (fun i σ H1 => ∃ vs y2 y3, σ = [some (.int (n : Int)), some (.ref o), y2, y3] ∧ Same H H1 ∧ H1 o = some (.lst vs) ∧ Ties H1 vs (pup n i)) ⟨[], none, none, rfl, same_new no, upd_same, trivial⟩ ?_ ?_
    · rintro i σ H1 hi ⟨vs, y2, y3, rfl, sm, eo, hT⟩
      have hi : i < n := by omega
      refine ⟨_, rfl, .inl ⟨rfl, _, SqL.of eo⟩, ?_⟩
      refine ⟨_, rfl, _, _, rfl, rfl, _, rfl, _, _, rfl, ⟨by omega, by omega, by omega, by omega⟩, fun D nD => ?_⟩
      refine lc_range (fun j H2 => ∃ us, Same H1 H2 ∧ H2 D = some (.lst us) ∧ Ties H2 us (prow i j)) ⟨[], same_new nD, upd_same, trivial⟩ ?_ ?_
      · rintro j H2 hj ⟨us, sm2, eD, hU⟩
        refine ⟨rfl, yes ?_⟩
        refine ⟨_, rfl, _, rfl, by show 2 ≤ sizeLine; decide, fun t nt => ?_⟩
        have nDt : D ≠ t := ne_of_none eD nt
        refine ⟨us, by rw [upd_ne nDt]; exact eD, sz' (by rw [hU.len, prow_len]; omega), us ++ [.ref t], ?_, upd_same, ?_⟩
        · exact Same.put (sm2.trans (same_new nt)) nD
        · rw [prow_succ]
          have a1 : Tst (upd H2 t (.tup [.int (0 + (i : Int)), .int (0 + (i : Int) + 1 + (j : Int))])) (upd (upd H2 t (.tup [.int (0 + (i : Int)), .int (0 + (i : Int) + 1 + (j : Int))])) D (.lst (us ++ [.ref t]))) := tst_put (by rw [upd_ne nDt]; exact eD)
          refine ((hU.mono (tst_new nt)).mono a1).app (Ties.one ?_)
          rw [Int.zero_add] at a1 ⊢
          exact Tie.new.mono a1
      · rintro H2 ⟨us, sm2, eD, hU⟩
        have e : ((n : Int) - (0 + (i : Int) + 1)).toNat = n - (i + 1) := by omega
        rw [e] at hU
        have eo2 := sm2 _ _ eo
        have l1 := pup_len' hn (Nat.le_of_lt hi)
        refine ⟨o, D, vs, us, rfl, rfl, eo2, eD, sz (by rw [hT.len, hU.len, prow_len]; omega), ?_⟩
        refine ⟨vs ++ us, _, y3, rfl, Same.put (sm.trans sm2) no, upd_same, ?_⟩
        rw [pup_succ]
        exact ((hT.mono (Same.tst sm2)).app hU).mono (tst_put eo2)
    · rintro σ H1 ⟨vs, y2, y3, rfl, sm, eo, hT⟩
      rw [Int.toNat_natCast] at hT
      exact ⟨_, rfl, q o vs H1 no sm eo hT⟩

/-! ### _law_row -/
abbrev s__law_row : Stmt := topS 13
abbrev N__law_row : List Str := ["_law_left_here", "_law_many", "_law_row_here", "_law_k"]
theorem sc__law_row : FnScope N__law_row ["_law_left_here", "_law_many"] (defScope s__law_row) := ⟨rfl, rfl, rfl, by decide +kernel, rfl, by decide +kernel, by decide +kernel⟩
def sp_row : Sp := fun vs H Q _ => ∃ (L : Addr) (n : Nat) (c : Int), vs = [.ref L, .int (n : Int)] ∧ Lf H L c ∧ n ≤ 100 ∧ c < 2 ^ 49 ∧
  ∀ (p : Addr) (ns : List Int) (H' : Hp), H p = none → Fr L H H' → Lf H' L (c + n) → H' p = some (.lst (ns.map V.int)) → ns.Perm (up n) → Q (.ref p) H'
theorem ok_row {f : Addr} {fd : FuncData} (B : Bts mg) (F : Fun K "_law_row" "_law_row" s__law_row f fd) (c__law_pick : Cl P w K mg base 2 "_law_pick" sp_pick) :
    FnOk P w K mg base CX0 3 f fd ["_law_left_here", "_law_many"] sp_row := by
  refine F.ok sc__law_row (fun vs H Q E h => ?_) (fun cdv A outer s H vs Q E hr h => ?_)
  · obtain ⟨L, n, c, rfl, _⟩ := h; rfl
  · obtain ⟨L, n, c, rfl, hL, hn, hc, q⟩ := h
    refine ⟨_, (pss_cons (ps_set (i := 2) sc__law_row.nd rfl (by first | exact Or.inl rfl | exact Or.inr rfl) (pe_lst pa_nil))
    (pss_cons (ps_for PassesOwn.never rfl (pi_range1 (by rfl) B.range (pa_cons (pv 1) pa_nil)) (pg_name (i := 3) sc__law_row.nd rfl (by first | exact Or.inl rfl | exact Or.inr rfl))
      (pss_one (ps_expr (pe_bm PySem.F.plainAttrs_list PySem.F.slot_list_insert PySem.F.type_list_insert mt_insert (pv 2) (pa_cons (pe_c c__law_pick hr (by decide) (by rfl) (pa_cons (pv 0) (pa_cons (pe_op op_add (pv 3) pe_int) pa_nil))) (pa_cons (pv 3) pa_nil))))))
    (pss_one (ps_ret (pv 2))))), ?_⟩
    refine ⟨Nat.zero_le _, fun o no => ?_⟩
    refine ⟨_, rfl, _, rfl, by omega, by omega, ?_⟩
    refine for_range (fun i σ H1 => ∃ (ns : List Int) (y3 : Option V), σ = [some (.ref L), some (.int (n : Int)), some (.ref o), y3] ∧ Fr L H H1 ∧ Lf H1 L (c + i) ∧ H1 o = some (.lst (ns.map V.int)) ∧ ns.Perm (up i)) ⟨[], none, rfl, Fr.new no, (hL.new no).mono (by omega), upd_same, .refl _⟩ ?_ ?_
    · rintro i σ H1 hi ⟨ns, y3, rfl, fr, lf, eo, hp⟩
      have hi : i < n := by omega
      have no' : o ≠ L := hL.ne no
      refine ⟨_, rfl, .inl ⟨rfl, _, SqL.of eo⟩, ?_⟩
      refine ⟨_, rfl, _, rfl, _, _, rfl, rfl, ?_⟩
      refine ⟨L, _, c + i, rfl, lf, by omega, by omega, by omega, fun r H2 r0 r1 fr2 lf2 => ?_⟩
      refine ⟨_, rfl, ?_⟩
      have eo2 := fr2 _ _ no' eo
      refine ⟨o, _, _, _, rfl, rfl, eo2, sz' ?_, r0, by omega, ?_⟩
      · rw [List.length_map, hp.length_eq, up_len]; omega
      · refine ⟨ns.take r.toNat ++ [(i : Int)] ++ ns.drop r.toNat, _, rfl, ?_, ?_, ?_, ?_⟩
        · exact (fr.trans fr2).put no
        · exact (lf2.mono (by omega)).put no'
        · rw [upd_same, List.map_append, List.map_append, List.map_take, List.map_drop, Int.zero_add]; rfl
        · rw [up_succ]
          exact (ins_perm _ _ _).trans (hp.append_right _)
    · rintro σ H1 ⟨ns, y3, rfl, fr, lf, eo, hp⟩
      rw [Int.toNat_natCast] at lf hp
      exact ⟨_, rfl, q o ns H1 no fr lf eo hp⟩
end
end My

set_option Elab.async false
set_option linter.all false
set_option maxRecDepth 100000
namespace My
open PySem PySem.Spec PyProof.Rows L2
section
variable {P : Program} {w : World} {K : PySem.W.Frag} {mg : Str → Option Value} {base : Heap}

def sp_gen : Sp := fun vs H Q _ => ∃ (L : Addr) (n : Nat) (c : Int), vs = [.ref L, .int (n : Int)] ∧ Lf H L c ∧ n ≤ 12 ∧ c < 2 ^ 48 ∧
  ∀ (v : V) (H' : Hp) (ts : List (Int × Int)), Fr L H H' → Lf H' L (c + 100000) → Web H' v n ts → WOk n ts → Q v H'

/-! ### _law_any_web -/
abbrev s__law_any_web : Stmt := topS 12
abbrev N__law_any_web : List Str := ["_law_left_here", "_law_many", "_law_often", "_law_tie"]
theorem sc__law_any_web : FnScope N__law_any_web ["_law_left_here", "_law_many"] (defScope s__law_any_web) := ⟨rfl, rfl, rfl, by decide +kernel, rfl, by decide +kernel, by decide +kernel⟩
theorem often4 {r : Int} (h0 : 0 ≤ r) (h1 : r < 4) : ∃ o : Int, atI [V.int 2, V.int 3, V.int 5, V.int 8] r = some (.int o) ∧ 0 < o ∧ o < 100 := by
  have : r = 0 ∨ r = 1 ∨ r = 2 ∨ r = 3 := by omega
  rcases this with rfl | rfl | rfl | rfl
  · exact ⟨2, rfl, by decide, by decide⟩
  · exact ⟨3, rfl, by decide, by decide⟩
  · exact ⟨5, rfl, by decide, by decide⟩
  · exact ⟨8, rfl, by decide, by decide⟩
theorem ok_any_web {f : Addr} {fd : FuncData} (B : Bts mg) (F : Fun K "_law_any_web" "_law_any_web" s__law_any_web f fd) (c__law_pick : Cl P w K mg base 2 "_law_pick" sp_pick) (c__law_pairs : Cl P w K mg base 1 "_law_pairs" sp_pairs) :
    FnOk P w K mg base CX0 3 f fd ["_law_left_here", "_law_many"] sp_gen := by
  refine F.ok sc__law_any_web (fun vs H Q E h => ?_) (fun cdv A outer s H vs Q E hr h => ?_)
  · obtain ⟨L, n, c, rfl, _⟩ := h; rfl
  · obtain ⟨L, n, c, rfl, hL, hn, hc, q⟩ := h
    refine ⟨_, (pss_cons (ps_set (i := 2) sc__law_any_web.nd rfl (by first | exact Or.inl rfl | exact Or.inr rfl) (pe_ix ix_list (pe_lst (pa_cons pe_int (pa_cons pe_int (pa_cons pe_int (pa_cons pe_int pa_nil))))) (pe_c c__law_pick hr (by decide) (by rfl) (pa_cons (pv 0) (pa_cons pe_int pa_nil))) (fun _ _ => rfl)))
    (pss_one (ps_ret (pe_tup (pa_cons (pv 1) (pa_cons (pe_callTy call_tuple_of (by rfl) B.tuple (by decide +kernel) (pa_cons (pe_lc (own := [("_law_tie", 3)]) (g := (gName 3)) rfl sc__law_any_web.nd (pi_list (pe_c c__law_pairs hr (by decide) (by rfl) (pa_cons (pv 1) pa_nil))) (blkOk_by (own := [("_law_tie", 3)]) (N := N__law_any_web) (sc := defScope s__law_any_web) (by decide +kernel)) (fun _ _ _ _ _ => (pg_name (i := 3) sc__law_any_web.nd rfl (by first | exact Or.inl rfl | exact Or.inr rfl))) (fun _ _ _ _ _ => (pts_one (pt_cmpR op_eq (pe_cmpR op_eq (pe_c c__law_pick hr (by decide) (by rfl) (pa_cons (pv 0) (pa_cons (pv 2) pa_nil))) pe_int (nomark _)) (pe_cmpR op_lt (pv 2) pe_int (nomark _)) (nomark _)))) (fun _ _ _ _ _ => (pv 3))) pa_nil)) pa_nil)))))), ?_⟩
    refine ⟨by show 4 ≤ sizeLine; decide, fun o no => ?_⟩
    refine ⟨_, rfl, L, _, c, rfl, hL.new no, by decide, by decide, by omega, fun r H1 r0 r1 fr1 lf1 => ?_⟩
    obtain ⟨oft, e1, o1, o2⟩ := often4 r0 r1
    have eo : H1 o = some (.lst [V.int 2, V.int 3, V.int 5, V.int 8]) := fr1 _ _ (hL.ne no) upd_same
    refine ⟨o, _, _, _, rfl, rfl, SqL.of eo, e1, ?_⟩
    have frA : Fr L H H1 := (Fr.new no).trans fr1
    refine ⟨_, rfl, ?_⟩
    refine ⟨_, rfl, n, rfl, by omega, fun p vs H2 np sm2 ep hT => ?_⟩
    refine ⟨p, rfl, ⟨_, SqL.of ep⟩, fun D nD => ?_⟩
    have lf2 := lf1.same sm2
    have npL : p ≠ L := lf1.ne np
    have nDL : D ≠ L := lf2.ne nD
    refine lc_list (K := K) (a := p) (xs := vs) (fun i H3 => ∃ us sub, Fr L H2 H3 ∧ Lf H3 L (c + 1 + i) ∧ H3 D = some (.lst us) ∧ Ties H3 us sub ∧ sub.Sublist ((pup n n).take i)) ⟨[], [], Fr.new nD, (lf2.new nD).mono (by omega), upd_same, trivial, List.nil_sublist _⟩ ?_ ?_ ?_
    · rintro i H3 hi ⟨us, sub, fr3, lf3, eD, hU, hs⟩
      exact SqL.of (fr3 _ _ npL ep)
    · rintro i x H3 hx ⟨us, sub, fr3, lf3, eD, hU, hs⟩
      obtain ⟨t, ht, hxt⟩ := hT.at hx
      have hi : i < vs.length := (List.getElem?_eq_some_iff.mp hx).1
      have l1 := pup_len' (n := n) (i := n) (by omega) (Nat.le_refl n)
      have l2 := hT.len
      have tk : (pup n n).take (i + 1) = (pup n n).take i ++ [t] := by rw [List.take_add_one, ht]; rfl
      refine ⟨rfl, ?_⟩
      refine ⟨_, rfl, _, rfl, ?_⟩
      refine ⟨L, _, c + 1 + i, rfl, lf3, by omega, by omega, by omega, fun r H4 r0 r1 fr4 lf4 => ?_⟩
      have eD4 := fr4 _ _ nDL eD
      have a4 : Tst H3 H4 := lf3.tst fr4
      refine ⟨rfl, _, rfl, _, _, rfl, rfl, rfl, _, rfl, ite2 (fun e => ?_) (fun e => ?_)⟩
      · refine ⟨x, rfl, us, eD4, sz' (by rw [hU.len]; have := hs.length_le; rw [List.length_take] at this; omega), us ++ [x], sub ++ [t], ?_, ?_, upd_same, ?_, ?_⟩
        · exact (fr3.trans fr4).put nD
        · exact (lf4.mono (by omega)).put nDL
        · refine Ties.mono (tst_put eD4) ((hU.mono a4).app (Ties.one ?_))
          exact (hxt.mono (lf2.tst fr3)).mono a4
        · rw [tk]; exact hs.append (List.Sublist.refl _)
      · refine ⟨us, sub, fr3.trans fr4, lf4.mono (by omega), eD4, hU.mono a4, ?_⟩
        rw [tk]; exact hs.trans (List.sublist_append_left _ _)
    · rintro H3 ⟨us, sub, fr3, lf3, eD, hU, hs⟩
      have l1 := pup_len' (n := n) (i := n) (by omega) (Nat.le_refl n)
      have l2 := hT.len
      refine ⟨D, us, rfl, .inl ⟨SqL.of eD, fun t nt => ?_⟩⟩
      refine ⟨by show 2 ≤ sizeLine; decide, fun u nu => ?_⟩
      refine q _ _ sub ?_ ?_ ⟨u, t, us, rfl, upd_same, ?_, ?_⟩ ?_
      · exact (frA.trans ((Fr.of sm2).trans fr3)).trans ((Fr.new nt).trans (Fr.new nu))
      · exact ((lf3.mono (by omega)).new nt).new nu
      · rw [upd_ne (ne_of_none upd_same nu)]; exact upd_same
      · exact (hU.mono (tst_new nt)).mono (tst_new nu)
      · exact wok_sub (hs.trans (List.take_sublist _ _))
end
end My

set_option Elab.async false
set_option linter.all false
set_option maxRecDepth 100000
namespace My
open PySem PySem.Spec PyProof.Rows L2
section
variable {P : Program} {w : World} {K : PySem.W.Frag} {mg : Str → Option Value} {base : Heap}

/-- rows of all places, each a list of its own, none of them at one of two places -/
def Rws (H : Hp) (n : Nat) (L D : Addr) (vs : List V) : Prop :=
  ∀ v ∈ vs, ∃ (p : Addr) (ns : List Int), v = .ref p ∧ p ≠ L ∧ p ≠ D ∧ H p = some (.lst (ns.map V.int)) ∧ ns.Perm (up n)

/-! ### _law_row_web -/
abbrev s__law_row_web : Stmt := topS 14
abbrev N__law_row_web : List Str := ["_law_left_here", "_law_many", "_law_rows", "_law_k", "_law_ties", "_law_a", "_law_b", "_law_ahead", "_law_row_here"]
theorem sc__law_row_web : FnScope N__law_row_web ["_law_left_here", "_law_many"] (defScope s__law_row_web) := ⟨rfl, rfl, rfl, by decide +kernel, rfl, by decide +kernel, by decide +kernel⟩
theorem ok_row_web {f : Addr} {fd : FuncData} (B : Bts mg) (F : Fun K "_law_row_web" "_law_row_web" s__law_row_web f fd) (c__law_pick : Cl P w K mg base 2 "_law_pick" sp_pick) (c__law_row : Cl P w K mg base 3 "_law_row" sp_row) :
    FnOk P w K mg base CX0 4 f fd ["_law_left_here", "_law_many"] sp_gen := by
  refine F.ok sc__law_row_web (fun vs H Q E h => ?_) (fun cdv A outer s H vs Q E hr h => ?_)
  · obtain ⟨L, n, c, rfl, _⟩ := h; rfl
  · obtain ⟨L, n, c, rfl, hL, hn, hc, q⟩ := h
    refine ⟨_, (pss_cons (ps_setLc (i := 2) (own := [("_law_k", 3)]) (g := (gName 3)) (tt := tYes) rfl sc__law_row_web.nd rfl rfl (sw_true rfl rfl rfl (by decide +kernel)) (pi_range1 (by rfl) B.range (pa_cons (pe_op op_add pe_int (pe_c c__law_pick hr (by decide) (by rfl) (pa_cons (pv 0) (pa_cons pe_int pa_nil)))) pa_nil)) (blkOk_by (own := [("_law_k", 3)]) (N := N__law_row_web) (sc := defScope s__law_row_web) (by decide +kernel)) (fun _ _ _ _ _ => (pg_name (i := 3) sc__law_row_web.nd rfl (by first | exact Or.inl rfl | exact Or.inr rfl))) (fun _ _ _ _ _ => pts_nil) (fun _ _ _ _ _ => (pe_c c__law_row hr (by decide) (by rfl) (pa_cons (pv 0) (pa_cons (pv 1) pa_nil)))))
    (pss_cons (ps_set (i := 4) sc__law_row_web.nd rfl (by first | exact Or.inl rfl | exact Or.inr rfl) (pe_lst pa_nil))
    (pss_cons (ps_for PassesOwn.never rfl (pi_range1 (by rfl) B.range (pa_cons (pv 1) pa_nil)) (pg_name (i := 5) sc__law_row_web.nd rfl (by first | exact Or.inl rfl | exact Or.inr rfl))
      (pss_one (ps_for PassesOwn.never rfl (pi_range2 (by rfl) B.range (pa_cons (pe_op op_add (pv 5) pe_int) (pa_cons (pv 1) pa_nil))) (pg_name (i := 6) sc__law_row_web.nd rfl (by first | exact Or.inl rfl | exact Or.inr rfl))
        (pss_cons (ps_setLc (i := 7) (own := [("_law_row_here", 8)]) (g := (gName 8)) (tt := tYes) (te := (tOp _ (tBM K "list" (rIndex K) _ _) (tBM K "list" (rIndex K) _ _))) rfl sc__law_row_web.nd rfl rfl (sw_true rfl rfl rfl (by decide +kernel)) (pi_list (pv 2)) (blkOk_by (own := [("_law_row_here", 8)]) (N := N__law_row_web) (sc := defScope s__law_row_web) (by decide +kernel)) (fun _ _ _ _ _ => (pg_name (i := 8) sc__law_row_web.nd rfl (by first | exact Or.inl rfl | exact Or.inr rfl))) (fun _ _ _ _ _ => pts_nil) (fun _ _ _ _ _ => (pe_cmpR op_lt (pe_bm PySem.F.plainAttrs_list PySem.F.slot_list_index PySem.F.type_list_index mt_index (pv 8) (pa_cons (pv 5) pa_nil)) (pe_bm PySem.F.plainAttrs_list PySem.F.slot_list_index PySem.F.type_list_index mt_index (pv 8) (pa_cons (pv 6) pa_nil)) (nomark _))))
        (pss_one (ps_if (PW.pt (pw_or (pt_val (pe_callB (cr_all rfl) (by rfl) B.all (by decide +kernel) (pa_cons (pv 7) pa_nil))) (pw_or1 (pt_not (pt_val (pe_callB (cr_any rfl) (by rfl) B.any (by decide +kernel) (pa_cons (pv 7) pa_nil))))))) (pss_one (ps_expr (pe_bm PySem.F.plainAttrs_list PySem.F.slot_list_append PySem.F.type_list_append mt_append (pv 4) (pa_cons (pe_tup (pa_cons (pv 5) (pa_cons (pv 6) pa_nil))) pa_nil)))) pss_nil))))))
    (pss_one (ps_ret (pe_tup (pa_cons (pv 1) (pa_cons (pe_callTy call_tuple_of (by rfl) B.tuple (by decide +kernel) (pa_cons (pv 4) pa_nil)) pa_nil)))))))), ?_⟩
    refine ⟨_, rfl, L, _, c, rfl, hL, by decide, by decide, by omega, fun r H1 r0 r1 fr1 lf1 => ?_⟩
    refine ⟨_, _, rfl, rfl, _, rfl, by omega, by omega, fun D nD => ?_⟩
    have nDL : D ≠ L := lf1.ne nD
    refine lc_range (fun i H2 => ∃ vs, Fr L H1 H2 ∧ Lf H2 L (c + 1 + 12 * i) ∧ H2 D = some (.lst vs) ∧ vs.length = i ∧ Rws H2 n L D vs) ⟨[], Fr.new nD, (lf1.new nD).mono (by omega), upd_same, rfl, fun v hv => by cases hv⟩ ?_ ?_
    · rintro i H2 hi ⟨vs, fr2, lf2, eD, hl, hR⟩
      refine ⟨rfl, yes ?_⟩
      refine ⟨_, rfl, _, rfl, ?_⟩
      refine ⟨L, n, _, rfl, lf2, by omega, by omega, fun p ns H3 np fr3 lf3 ep hp => ?_⟩
      have eD3 := fr3 _ _ nDL eD
      refine ⟨vs, eD3, sz' (by omega), vs ++ [.ref p], (fr2.trans fr3).put nD, (lf3.mono (by omega)).put nDL, upd_same, by rw [List.length_append, hl]; rfl, ?_⟩
      intro v hv
      rcases List.mem_append.mp hv with hv | hv
      · obtain ⟨p', ns', e, h1, h2, h3, h4⟩ := hR v hv
        exact ⟨p', ns', e, h1, h2, by rw [upd_ne h2]; exact fr3 _ _ h1 h3, h4⟩
      · rw [List.mem_singleton] at hv
        have npD : p ≠ D := fun e => by rw [e, eD] at np; cases np
        exact ⟨p, ns, hv, lf2.ne np, npD, by rw [upd_ne npD]; exact ep, hp⟩
    · rintro H2 ⟨rows, fr2, lf2, eD, hl, hR⟩
      have lf2' : Lf H2 L (c + 1000) := lf2.mono (by omega)
      have frA : Fr L H H2 := fr1.trans fr2
      refine ⟨Nat.zero_le _, fun o no => ?_⟩
      refine ⟨_, rfl, _, rfl, by omega, by omega, ?_⟩
      refine for_range (fun i σ H3 => ∃ (vs : List V) (sub : List (Int × Int)) (y3 y5 y6 y7 y8 : Option V), σ = [some (.ref L), some (.int (n : Int)), some (.ref D), y3, some (.ref o), y5, y6, y7, y8] ∧ Same H2 H3 ∧ H3 o = some (.lst vs) ∧ Ties H3 vs sub ∧ sub.Sublist (pup n i))
        ⟨[], [], none, none, none, none, none, rfl, same_new no, upd_same, trivial, List.nil_sublist _⟩ ?_ ?_
      · rintro i σ H3 hi ⟨vs, sub, y3, y5, y6, y7, y8, rfl, sm3, eo, hT, hS⟩
        have hi : i < n := by omega
        refine ⟨_, rfl, _, _, rfl, rfl, _, rfl, _, _, rfl, ⟨by omega, by omega, by omega, by omega⟩, ?_⟩
        refine for_range (fun j σ H4 => ∃ (vs : List V) (sub : List (Int × Int)) (y3 y6 y7 y8 : Option V), σ = [some (.ref L), some (.int (n : Int)), some (.ref D), y3, some (.ref o), some (.int (i : Int)), y6, y7, y8] ∧ Same H2 H4 ∧ H4 o = some (.lst vs) ∧ Ties H4 vs sub ∧ sub.Sublist (pup n i ++ prow i j))
          ⟨vs, sub, y3, y6, y7, y8, by rw [Int.zero_add]; rfl, sm3, eo, hT, by exact (List.append_nil (pup n i)).symm ▸ hS⟩ ?_ ?_
        · rintro j σ H4 hj ⟨vs, sub, y3, y6, y7, y8, rfl, sm4, eo4, hT4, hS4⟩
          have hj : j < n - (i + 1) := by omega
          refine ⟨_, rfl, D, rfl, ⟨_, SqL.of (sm4 _ _ eD)⟩, fun D2 nD2 => ?_⟩
          refine lc_list (K := K) (a := D) (xs := rows) (fun m H5 => ∃ bs : List Bool, Same H4 H5 ∧ H5 D2 = some (.lst (bs.map V.bl)) ∧ bs.length = m) ⟨[], same_new nD2, upd_same, rfl⟩ ?_ ?_ ?_
          · rintro m H5 _ ⟨bs, sm5, _⟩
            exact SqL.of (sm5 _ _ (sm4 _ _ eD))
          · rintro m x H5 hx ⟨bs, sm5, eD2, hb⟩
            have hm : m < rows.length := (List.getElem?_eq_some_iff.mp hx).1
            have hxm : x ∈ rows := List.mem_of_getElem? hx
            obtain ⟨p, ns, rfl, h1, h2, h3, h4⟩ := hR x hxm
            have ep := sm5 _ _ (sm4 _ _ h3)
            have ha : (i : Int) ∈ ns := h4.mem_iff.mpr (mem_up.mpr ⟨by omega, by omega⟩)
            have hb2 : (0 + (i : Int) + 1 + (j : Int)) ∈ ns := h4.mem_iff.mpr (mem_up.mpr ⟨by omega, by omega⟩)
            refine ⟨rfl, yes ?_⟩
            refine ⟨_, rfl, .inl ⟨rfl, _, SqL.of ep⟩, _, rfl, ?_⟩
            refine ⟨p, _, _, _, _, rfl, rfl, SqL.of ep, rfl, all_flat ns, idx_at ha, by simp [eqV], idx_first, ?_⟩
            refine ⟨_, rfl, .inl ⟨rfl, _, SqL.of ep⟩, _, rfl, ?_⟩
            refine ⟨p, _, _, _, _, rfl, rfl, SqL.of ep, rfl, all_flat ns, idx_at hb2, by simp [eqV], idx_first, ?_⟩
            refine ⟨_, _, rfl, rfl, ?_⟩
            refine ⟨_, eD2, sz' (by rw [List.length_map, hb]; omega), bs ++ [decide (((ns.idxOf (i : Int) : Nat) : Int) < ((ns.idxOf (0 + (i : Int) + 1 + (j : Int)) : Nat) : Int))], Same.put sm5 nD2, ?_, by rw [List.length_append, hb]; rfl⟩
            rw [upd_same, List.map_append]; rfl
          · rintro H5 ⟨bs, sm5, eD2, hb⟩
            have eo5 := sm5 _ _ eo4
            have sm25 : Same H2 H5 := sm4.trans sm5
            have skip : ∃ (vs : List V) (sub : List (Int × Int)) (z3 z6 z7 z8 : Option V), ((([some (V.ref L), some (.int (n : Int)), some (.ref D), y3, some (.ref o), some (.int (i : Int)), y6, y7, y8]).set 6 (some (.int (0 + (i : Int) + 1 + (j : Int))))).set 7 (some (.ref D2))) = [some (.ref L), some (.int (n : Int)), some (.ref D), z3, some (.ref o), some (.int (i : Int)), z6, z7, z8] ∧ Same H2 H5 ∧ H5 o = some (.lst vs) ∧ Ties H5 vs sub ∧ sub.Sublist (pup n i ++ prow i (j + 1)) :=
              ⟨vs, sub, y3, _, _, y8, rfl, sm25, eo5, hT4.mono (Same.tst sm5), by
                rw [prow_succ, ← List.append_assoc]; exact hS4.trans (List.sublist_append_left _ _)⟩
            have l1 := pup_len' (n := n) (i := i) (by omega) (by omega)
            have l2 := hS4.length_le
            rw [List.length_append, prow_len] at l2
            have take : tDrop (tBM K "list" rAppend (tVar 4) (tCons (tTup (tCons (tVar 5) (tCons (tVar 6) tNil))) tNil)) { nx := fun σ H5 => ∃ (vs : List V) (sub : List (Int × Int)) (y3 y6 y7 y8 : Option V), σ = [some (.ref L), some (.int (n : Int)), some (.ref D), y3, some (.ref o), some (.int (i : Int)), y6, y7, y8] ∧ Same H2 H5 ∧ H5 o = some (.lst vs) ∧ Ties H5 vs sub ∧ sub.Sublist (pup n i ++ prow i (j + 1)), rt := Q } ((([some (V.ref L), some (.int (n : Int)), some (.ref D), y3, some (.ref o), some (.int (i : Int)), y6, y7, y8]).set 6 (some (.int (0 + (i : Int) + 1 + (j : Int))))).set 7 (some (.ref D2))) H5 := by
              refine ⟨_, rfl, .inl ⟨rfl, _, SqL.of eo5⟩, ?_⟩
              refine ⟨_, rfl, _, rfl, by show 2 ≤ sizeLine; decide, fun t nt => ?_⟩
              have eo6 : (upd H5 t (.tup [.int (i : Int), .int (0 + (i : Int) + 1 + (j : Int))])) o = some (.lst vs) := by
                rw [upd_ne (ne_of_none eo5 nt)]; exact eo5
              refine ⟨o, _, _, rfl, rfl, eo6, sz' (by rw [hT4.len]; omega), ?_⟩
              refine ⟨vs ++ [.ref t], sub ++ [((i : Int), (i : Int) + 1 + (j : Int))], y3, _, _, y8, rfl, Same.put (sm25.trans (same_new nt)) no, upd_same, ?_, ?_⟩
              · have a5 := Same.tst sm5
                refine Ties.mono (tst_put eo6) (((hT4.mono a5).mono (tst_new nt)).app (Ties.one ?_))
                rw [Int.zero_add]
                exact Tie.new
              · rw [prow_succ, ← List.append_assoc]; exact hS4.append (List.Sublist.refl _)
            refine ⟨_, rfl, D2, bs, rfl, SqL.of eD2, _, rfl, ite2 (fun e => ?_) (fun e => ?_)⟩
            · exact iteT take
            · refine ⟨_, rfl, D2, bs, rfl, SqL.of eD2, _, rfl, ite2 (fun e => ?_) (fun e => ?_)⟩
              · exact take
              · exact skip
        · rintro σ H4 ⟨vs, sub, y3, y6, y7, y8, rfl, sm4, eo4, hT4, hS4⟩
          have e : ((n : Int) - (0 + (i : Int) + 1)).toNat = n - (i + 1) := by omega
          rw [e, ← pup_succ] at hS4
          exact ⟨vs, sub, y3, _, y6, y7, y8, rfl, sm4, eo4, hT4, hS4⟩
      · rintro σ H3 ⟨vs, sub, y3, y5, y6, y7, y8, rfl, sm3, eo, hT, hS⟩
        rw [Int.toNat_natCast] at hS
        refine ⟨_, rfl, _, rfl, o, vs, rfl, .inl ⟨SqL.of eo, fun t nt => ?_⟩⟩
        refine ⟨by show 2 ≤ sizeLine; decide, fun u nu => ?_⟩
        refine q _ _ sub ?_ ?_ ⟨u, t, vs, rfl, upd_same, ?_, ?_⟩ (wok_sub hS)
        · exact (frA.trans (Fr.of sm3)).trans ((Fr.new nt).trans (Fr.new nu))
        · exact ((((lf2'.same sm3)).mono (by omega)).new nt).new nu
        · rw [upd_ne (ne_of_none upd_same nu)]; exact upd_same
        · exact (hT.mono (tst_new nt)).mono (tst_new nu)
end
end My

set_option Elab.async false
set_option linter.all false
set_option maxRecDepth 100000
namespace My
open PySem PySem.Spec PyProof.Rows L2
section
variable {P : Program} {w : World} {K : PySem.W.Frag} {mg : Str → Option Value} {base : Heap}

/-! ### _law_ring_web -/
abbrev s__law_ring_web : Stmt := topS 15
abbrev N__law_ring_web : List Str := ["_law_left_here", "_law_many", "_law_row_here", "_law_ties", "_law_k", "_law_tie"]
theorem sc__law_ring_web : FnScope N__law_ring_web ["_law_left_here", "_law_many"] (defScope s__law_ring_web) := ⟨rfl, rfl, rfl, by decide +kernel, rfl, by decide +kernel, by decide +kernel⟩
theorem ok_ring_web {f : Addr} {fd : FuncData} (B : Bts mg) (F : Fun K "_law_ring_web" "_law_ring_web" s__law_ring_web f fd) (c__law_pick : Cl P w K mg base 2 "_law_pick" sp_pick) (c__law_row : Cl P w K mg base 3 "_law_row" sp_row) (c__law_pairs : Cl P w K mg base 1 "_law_pairs" sp_pairs) :
    FnOk P w K mg base CX0 4 f fd ["_law_left_here", "_law_many"] sp_gen := by
  refine F.ok sc__law_ring_web (fun vs H Q E h => ?_) (fun cdv A outer s H vs Q E hr h => ?_)
  · obtain ⟨L, n, c, rfl, _⟩ := h; rfl
  · obtain ⟨L, n, c, rfl, hL, hn, hc, q⟩ := h
    refine ⟨_, (pss_cons (ps_set (i := 2) sc__law_ring_web.nd rfl (by first | exact Or.inl rfl | exact Or.inr rfl) (pe_c c__law_row hr (by decide) (by rfl) (pa_cons (pv 0) (pa_cons (pv 1) pa_nil))))
    (pss_cons (ps_set (i := 3) sc__law_ring_web.nd rfl (by first | exact Or.inl rfl | exact Or.inr rfl) (pe_callB cr_sortedPO (by rfl) B.sorted (by decide +kernel) (pa_cons (pe_lc (own := [("_law_k", 4)]) (g := (gName 4)) (tt := tYes) (te := (tCB (rTupK K) (tCons (tCB (rSortedI K) (tCons (tLst (tCons (tOp (rIxL K) _ _) (tCons (tOp (rIxL K) _ _) tNil))) tNil)) tNil))) rfl sc__law_ring_web.nd (pi_range1 (by rfl) B.range (pa_cons (pv 1) pa_nil)) (blkOk_by (own := [("_law_k", 4)]) (N := N__law_ring_web) (sc := defScope s__law_ring_web) (by decide +kernel)) (fun _ _ _ _ _ => (pg_name (i := 4) sc__law_ring_web.nd rfl (by first | exact Or.inl rfl | exact Or.inr rfl))) (fun _ _ _ _ _ => pts_nil) (fun _ _ _ _ _ => (pe_callTy call_tuple_of (by rfl) B.tuple (by decide +kernel) (pa_cons (pe_callB cr_sortedI (by rfl) B.sorted (by decide +kernel) (pa_cons (pe_lst (pa_cons (pe_ix ix_list (pv 2) (pe_op op_sub (pv 4) pe_int) (fun _ _ => rfl)) (pa_cons (pe_ix ix_list (pv 2) (pv 4) (fun _ _ => rfl)) pa_nil))) pa_nil)) pa_nil)))) pa_nil)))
    (pss_cons (ps_if (PW.pt (pw_or (pt_cmpR op_lt (pv 1) pe_int (nomark _)) (pw_or1 (pt_cmpR op_gt (pe_c c__law_pick hr (by decide) (by rfl) (pa_cons (pv 0) (pa_cons pe_int pa_nil))) pe_int (nomark _))))) (pss_one (ps_ret (pe_tup (pa_cons (pv 1) (pa_cons (pe_callTy call_tuple_of (by rfl) B.tuple (by decide +kernel) (pa_cons (pe_callB (cr_sortedT rfl) (by rfl) B.sorted (by decide +kernel) (pa_cons (pe_callTy (cr_setOfT rfl hr.units) (by rfl) B.set (by decide +kernel) (pa_cons (pe_lc (own := [("_law_tie", 5)]) (g := (gName 5)) (tt := (tTest (tOp _ (tOp (rIxT K) _ _) (tOp (rIxT K) _ _)))) rfl sc__law_ring_web.nd (pi_list (pv 3)) (blkOk_by (own := [("_law_tie", 5)]) (N := N__law_ring_web) (sc := defScope s__law_ring_web) (by decide +kernel)) (fun _ _ _ _ _ => (pg_name (i := 5) sc__law_ring_web.nd rfl (by first | exact Or.inl rfl | exact Or.inr rfl))) (fun _ _ _ _ _ => (pts_one (pt_cmpR op_lt (pe_ix ix_tup (pv 5) pe_int (fun _ _ => rfl)) (pe_ix ix_tup (pv 5) pe_int (fun _ _ => rfl)) (nomark _)))) (fun _ _ _ _ _ => (pv 5))) pa_nil)) pa_nil)) pa_nil)) pa_nil))))) pss_nil)
    (pss_one (ps_ret (pe_tup (pa_cons (pv 1) (pa_cons (pe_callTy call_tuple_of (by rfl) B.tuple (by decide +kernel) (pa_cons (pe_lc (own := [("_law_tie", 5)]) (g := (gName 5)) (tt := (tTest (tOp (rNotInD K) _ _))) rfl sc__law_ring_web.nd (pi_list (pe_c c__law_pairs hr (by decide) (by rfl) (pa_cons (pv 1) pa_nil))) (blkOk_by (own := [("_law_tie", 5)]) (N := N__law_ring_web) (sc := defScope s__law_ring_web) (by decide +kernel)) (fun _ _ _ _ _ => (pg_name (i := 5) sc__law_ring_web.nd rfl (by first | exact Or.inl rfl | exact Or.inr rfl))) (fun _ _ _ _ _ => (pts_one (pt_cmpR (op_notInD (u65 hr)) (pv 5) (pv 3) (by rfl)))) (fun _ _ _ _ _ => (pv 5))) pa_nil)) pa_nil)))))))), ?_⟩
    refine ⟨_, rfl, _, rfl, L, n, c, rfl, hL, by omega, by omega, fun rw ns H1 nrw fr1 lf1 erw hp => ?_⟩
    have hnl : ns.length = n := by rw [hp.length_eq, up_len]
    refine ⟨_, rfl, _, rfl, by omega, by omega, fun D nD => ?_⟩
    refine lc_range (fun i H2 => ∃ us ts, Same H1 H2 ∧ H2 D = some (.lst us) ∧ Ties H2 us ts ∧ ts.length = i ∧ ∀ t ∈ ts, 0 ≤ t.1 ∧ t.1 ≤ t.2 ∧ t.2 < (n : Int)) ⟨[], [], same_new nD, upd_same, trivial, rfl, fun _ h => by cases h⟩ ?_ ?_
    · rintro i H2 hi ⟨us, ts, sm2, eD, hT, hl, hb⟩
      have hi : i < n := by omega
      have er2 := sm2 _ _ erw
      obtain ⟨x, ex, mx⟩ := at_mem (ns := ns) (j := 0 + (i : Int) - 1) (by omega) (by omega)
      obtain ⟨y, ey, my⟩ := at_mem (ns := ns) (j := 0 + (i : Int)) (by omega) (by omega)
      have bx := mem_up.mp (hp.mem_iff.mp mx)
      have bY := mem_up.mp (hp.mem_iff.mp my)
      refine ⟨rfl, yes ?_⟩
      refine ⟨_, rfl, _, rfl, _, _, rfl, rfl, rw, _, _, _, rfl, rfl, SqL.of er2, ex, ?_⟩
      refine ⟨_, rfl, _, rfl, rw, _, _, _, rfl, rfl, SqL.of er2, ey, ?_⟩
      refine ⟨by show 2 ≤ sizeLine; decide, fun l nl => ?_⟩
      refine ⟨l, [x, y], rfl, SqL.of upd_same, fun ns' p2 pm srt np2 => ?_⟩
      have e2 := perm2 pm srt
      subst e2
      refine ⟨p2, _, rfl, .inl ⟨SqL.of upd_same, fun t nt => ?_⟩⟩
      have s1 : Same H2 (upd H2 l (.lst [.int x, .int y])) := same_new nl
      have s2 := s1.trans (same_new (o := .lst (([if x ≤ y then x else y, if x ≤ y then y else x]).map V.int)) np2)
      have s3 := s2.trans (same_new (o := .tup (([if x ≤ y then x else y, if x ≤ y then y else x]).map V.int)) nt)
      refine ⟨us, s3 _ _ eD, sz' (by rw [hT.len]; omega), us ++ [.ref t], ts ++ [(if x ≤ y then x else y, if x ≤ y then y else x)], ?_, upd_same, ?_, by rw [List.length_append, hl]; rfl, ?_⟩
      · exact Same.put (sm2.trans s3) nD
      · refine Ties.mono (tst_put (s3 _ _ eD)) ((hT.mono (Same.tst s3)).app (Ties.one ?_))
        exact Tie.new
      · intro t' ht'
        rcases List.mem_append.mp ht' with h | h
        · exact hb t' h
        · rw [List.mem_singleton.mp h]
          dsimp only
          split <;> omega
    · rintro H2 ⟨us, ts, sm2, eD, hT, hl, hb⟩
      rw [Int.toNat_natCast] at hl
      refine ⟨D, us, My.key H2, rfl, SqL.of eD, hT.all, fun ys p hs hst np => ?_⟩
      obtain ⟨ts', hT', pm', _⟩ := srt_ties hs hst.perm hT
      have s3 : Same H2 (upd H2 p (.lst ys)) := same_new np
      have hT3 := hT'.mono (Same.tst s3)
      have ep : (upd H2 p (.lst ys)) p = some (.lst ys) := upd_same
      have hb' : ∀ t ∈ ts', 0 ≤ t.1 ∧ t.1 ≤ t.2 ∧ t.2 < (n : Int) := fun t ht => hb t (pm'.mem_iff.mp ht)
      have hl' : ts'.length = n := by rw [pm'.length_eq, hl]
      have fr3 : Fr L H (upd H2 p (.lst ys)) := fr1.trans ((Fr.of sm2).trans (Fr.of s3))
      have lf3 : Lf (upd H2 p (.lst ys)) L (c + 100) := ((lf1.same sm2).same s3).mono (by omega)
      have npL : p ≠ L := (lf1.same sm2).ne np
      generalize upd H2 p (.lst ys) = H3 at *
      apply two (fun H4 => Fr L H3 H4 ∧ Lf H4 L (c + 200))
      · intro ret
        refine ⟨_, rfl, _, _, rfl, rfl, _, rfl, ite2 (fun e => iteT (ret H3 ⟨Fr.refl _ _, lf3.mono (by omega)⟩)) (fun e => ?_)⟩
        refine ⟨_, rfl, L, _, c + 100, rfl, lf3, by decide, by decide, by omega, fun r H4 r0 r1 fr4 lf4 => ?_⟩
        refine ⟨_, _, rfl, rfl, _, rfl, ite2 (fun e => ret H4 ⟨fr4, lf4.mono (by omega)⟩) (fun e => ?_)⟩
        -- all pairs but those
        have ep4 := fr4 _ _ npL ep
        have hT4 := hT3.mono (lf3.tst fr4)
        refine ⟨_, rfl, ?_⟩
        refine ⟨_, rfl, n, rfl, by omega, fun p5 vs H5 np5 sm5 ep5 hV => ?_⟩
        refine ⟨p5, rfl, ⟨_, SqL.of ep5⟩, fun D5 nD5 => ?_⟩
        refine lc_list (K := K) (a := p5) (xs := vs) (fun i H6 => ∃ us sub, Same H5 H6 ∧ H6 D5 = some (.lst us) ∧ Ties H6 us sub ∧ sub.Sublist ((pup n n).take i)) ⟨[], [], same_new nD5, upd_same, trivial, List.nil_sublist _⟩ ?_ ?_ ?_
        · rintro i H6 hi ⟨us, sub, sm6, _⟩
          exact SqL.of (sm6 _ _ ep5)
        · rintro i x H6 hx ⟨us, sub, sm6, eD6, hU, hsub⟩
          obtain ⟨t, ht, hxt⟩ := hV.at hx
          have l1 := pup_len' (n := n) (i := n) (by omega) (Nat.le_refl n)
          have tk : (pup n n).take (i + 1) = (pup n n).take i ++ [t] := by rw [List.take_add_one, ht]; rfl
          have x6 := hxt.mono (Same.tst sm6)
          have hT6 := hT4.mono (Same.tst (sm5.trans sm6))
          have ep6 := sm6 _ _ (sm5 _ _ ep4)
          refine ⟨rfl, ?_⟩
          refine ⟨_, rfl, _, rfl, dT t, ts'.map dT, x6.dp, .lst (SqL.of ep6) hT6.dp, shaped_dT t, shaped_ties ts', _, rfl, ite2 (fun e => ?_) (fun e => ?_)⟩
          · refine ⟨x, rfl, us, eD6, sz' (by rw [hU.len]; have := hsub.length_le; rw [List.length_take] at this; omega), us ++ [x], sub ++ [t], Same.put sm6 nD5, upd_same, ?_, ?_⟩
            · exact Ties.mono (tst_put eD6) (hU.app (Ties.one x6))
            · rw [tk]; exact hsub.append (List.Sublist.refl _)
          · refine ⟨us, sub, sm6, eD6, hU, ?_⟩
            rw [tk]; exact hsub.trans (List.sublist_append_left _ _)
        · rintro H6 ⟨us, sub, sm6, eD6, hU, hsub⟩
          refine ⟨D5, us, rfl, .inl ⟨SqL.of eD6, fun t nt => ?_⟩⟩
          refine ⟨by show 2 ≤ sizeLine; decide, fun u nu => ?_⟩
          refine q _ _ sub ?_ ?_ ⟨u, t, us, rfl, upd_same, ?_, ?_⟩ ?_
          · exact ((fr3.trans fr4).trans (Fr.of (sm5.trans sm6))).trans ((Fr.new nt).trans (Fr.new nu))
          · exact ((((lf4.same (sm5.trans sm6))).mono (by omega)).new nt).new nu
          · rw [upd_ne (ne_of_none upd_same nu)]; exact upd_same
          · exact (hU.mono (tst_new nt)).mono (tst_new nu)
          · exact wok_sub (hsub.trans (List.take_sublist _ _))
      · rintro H4 ⟨fr4, lf4⟩
        have ep4 := fr4 _ _ npL ep
        have hT4 := hT3.mono (lf3.tst fr4)
        refine ⟨_, rfl, ?_⟩
        refine ⟨_, rfl, p, rfl, ⟨_, SqL.of ep4⟩, fun D5 nD5 => ?_⟩
        refine lc_list (K := K) (a := p) (xs := ys) (fun i H6 => ∃ us sub, Same H4 H6 ∧ H6 D5 = some (.lst us) ∧ Ties H6 us sub ∧ sub.length ≤ i ∧ ∀ t ∈ sub, 0 ≤ t.1 ∧ t.1 < t.2 ∧ t.2 < (n : Int)) ⟨[], [], same_new nD5, upd_same, trivial, Nat.le_refl _, fun _ h => by cases h⟩ ?_ ?_ ?_
        · rintro i H6 hi ⟨us, sub, sm6, _⟩
          exact SqL.of (sm6 _ _ ep4)
        · rintro i x H6 hx ⟨us, sub, sm6, eD6, hU, hsl, hsub⟩
          obtain ⟨t, ht, hxt⟩ := hT4.at hx
          have bt := hb' t (List.mem_of_getElem? ht)
          have hi : i < ys.length := (List.getElem?_eq_some_iff.mp hx).1
          have hyl := hT4.len
          have x6 := hxt.mono (Same.tst sm6)
          obtain ⟨px, rfl, epx⟩ := x6
          refine ⟨rfl, ?_⟩
          refine ⟨_, rfl, px, _, _, _, rfl, rfl, SqT.of epx, rfl, ?_⟩
          refine ⟨_, rfl, px, _, _, _, rfl, rfl, SqT.of epx, rfl, ?_⟩
          refine ⟨_, _, rfl, rfl, _, rfl, ite2 (fun e => ?_) (fun e => ?_)⟩
          · have e := of_decide_eq_true e
            refine ⟨_, rfl, us, eD6, sz' (by rw [hU.len]; omega), us ++ [.ref px], sub ++ [t], Same.put sm6 nD5, upd_same, ?_, ?_, ?_⟩
            · exact Ties.mono (tst_put eD6) (hU.app (Ties.one ⟨px, rfl, epx⟩))
            · rw [List.length_append]; exact Nat.succ_le_succ hsl
            · intro t' h'
              rcases List.mem_append.mp h' with h' | h'
              · exact hsub t' h'
              · rw [List.mem_singleton.mp h']; omega
          · exact ⟨us, sub, sm6, eD6, hU, by omega, hsub⟩
        · rintro H6 ⟨us, sub, sm6, eD6, hU, hsl, hsub⟩
          have hyl := hT4.len
          obtain ⟨ks, e1, e2, e3⟩ := hU.addr
          subst e1
          have kl : ks.length < 64 := by
            have := congrArg List.length e3
            rw [List.length_map] at this
            omega
          refine ⟨D5, ks, rfl, SqL.of eD6, fun p hp => SqT.of (e2 p hp).1, kl, fun a S na hS1 hS2 => ?_⟩
          have s7 : Same H6 (upd H6 a (SetTO P w a S)) := same_new na
          refine ⟨a, S, 2, 64, rfl, upd_same, fun p hp => SqT.of (s7 _ _ (e2 p (hS1 p hp)).1), by decide, fun p hp => ?_, fun L' p8 pm nd lt64 cd np8 => ?_⟩
          · obtain ⟨_, t, ht, et⟩ := e2 p (hS1 p hp)
            have := hsub t ht
            rw [et]
            refine ⟨rfl, fun m hm => ?_⟩
            simp only [List.mem_cons, List.not_mem_nil, or_false] at hm
            omega
          · have s8 := s7.trans (same_new (o := .lst (L'.map fun (q : Addr × List Int) => V.ref q.1)) np8)
            have hk : ∀ p ∈ L', p ∈ ks := fun p hp => hS1 p (pm.mem_iff.mp hp)
            refine ⟨p8, _, rfl, .inl ⟨SqL.of upd_same, fun t nt => ?_⟩⟩
            refine ⟨by show 2 ≤ sizeLine; decide, fun u nu => ?_⟩
            have s9 := (s8.trans (same_new (o := .tup (L'.map fun (q : Addr × List Int) => V.ref q.1)) nt)).trans (same_new (o := .tup [.int (n : Int), .ref t]) nu)
            refine q _ _ (L'.map prT) ?_ ?_ ⟨u, t, L'.map fun (q : Addr × List Int) => V.ref q.1, rfl, upd_same, ?_, ?_⟩ ⟨?_, ?_⟩
            · exact (fr3.trans fr4).trans (Fr.of (sm6.trans s9))
            · exact (lf4.mono (by omega)).same (sm6.trans s9)
            · rw [upd_ne (ne_of_none upd_same nu)]; exact upd_same
            · refine ties_addr fun p hp => ?_
              obtain ⟨g1, t', _, g3⟩ := e2 p (hk p hp)
              exact ⟨s9 _ _ g1, t', g3⟩
            · rw [List.pairwise_map]
              rw [List.nodup_iff_pairwise_ne, List.pairwise_map] at nd
              refine (cd.and nd).imp_of_mem fun {x y} hx hy h => ?_
              obtain ⟨_, t1, m1, g1⟩ := e2 x (hk x hx)
              obtain ⟨_, t2, m2, g2⟩ := e2 y (hk y hy)
              have b1 := hsub t1 m1
              have b2 := hsub t2 m2
              unfold prT
              rw [g1, g2] at h ⊢
              show ltT (t1.1, t1.2) (t2.1, t2.2)
              exact pair_lt h.1 h.2 (by omega) (by omega) (by omega) (by omega)
            · intro t' h'
              obtain ⟨x, hx, rfl⟩ := List.mem_map.mp h'
              obtain ⟨_, t1, m1, g1⟩ := e2 x (hk x hx)
              have b1 := hsub t1 m1
              unfold prT
              rw [g1]
              exact b1
end
end My

set_option Elab.async false
set_option linter.all false
set_option maxRecDepth 100000
namespace My
open PySem PySem.Spec PyProof.Rows L2

/-! ### heaps: all stays but what stands at some places -/
def FrM (M : List Addr) (H H' : Hp) : Prop := ∀ b o, b ∉ M → H b = some o → H' b = some o
theorem FrM.refl (M : List Addr) (H : Hp) : FrM M H H := fun _ _ _ h => h
theorem FrM.trans {M : List Addr} {H H1 H2 : Hp} (a : FrM M H H1) (b : FrM M H1 H2) : FrM M H H2 := fun c o n h => b c o n (a c o n h)
theorem FrM.same {M : List Addr} {H H' : Hp} (a : Same H H') : FrM M H H' := fun b o _ h => a b o h
theorem FrM.wk {M N : List Addr} {H H' : Hp} (a : FrM M H H') (h : ∀ x ∈ M, x ∈ N) : FrM N H H' := fun b o n e => a b o (fun m => n (h b m)) e
theorem FrM.put {M : List Addr} {H H' : Hp} {p : Addr} {o : HO} (a : FrM M H H') (h : p ∈ M) : FrM M H (upd H' p o) := fun b x n e => by
  rw [upd_ne (fun z => n (by rw [z]; exact h))]; exact a b x n e
theorem FrM.putN {M : List Addr} {H H' : Hp} {p : Addr} {o : HO} (a : FrM M H H') (h : H p = none) : FrM M H (upd H' p o) := fun b x n e => by
  rw [upd_ne (ne_of_none e h)]; exact a b x n e
theorem FrM.tst {M : List Addr} {H H' : Hp} (a : FrM M H H') (h : ∀ x ∈ M, ∃ xs, H x = some (.lst xs)) : Tst H H' := fun b xs e => by
  refine a b _ (fun m => ?_) e
  obtain ⟨ys, z⟩ := h b m
  rw [z] at e; cases e
theorem Fr.m {L : Addr} {M : List Addr} {H H' : Hp} (a : Fr L H H') (h : L ∈ M) : FrM M H H' := fun b o n e => a b o (fun z => n (by rw [z]; exact h)) e

/-- a list of numbers that stands at none of some places -/
def Gp (M : List Addr) (H : Hp) (v : V) (g : List Int) : Prop := ∃ p, v = .ref p ∧ p ∉ M ∧ H p = some (.lst (g.map V.int))
theorem Gp.mono {M N : List Addr} {H H' : Hp} {v : V} {g : List Int} (h : Gp M H v g) (a : FrM M H H') (s : ∀ x ∈ N, x ∈ M) : Gp N H' v g := by
  obtain ⟨p, e, n, h⟩ := h
  exact ⟨p, e, fun m => n (s p m), a p _ n h⟩
theorem Gp.new {M : List Addr} {H : Hp} {v : V} {g : List Int} {D : Addr} {o : HO} (h : Gp M H v g) (nD : H D = none) : Gp (D :: M) (upd H D o) v g := by
  obtain ⟨p, e, n, h⟩ := h
  have ne := ne_of_none h nD
  refine ⟨p, e, fun m => ?_, by rw [upd_ne ne]; exact h⟩
  rcases List.mem_cons.mp m with m | m
  · exact ne m
  · exact n m
theorem ixN_in {n : Nat} {i : Int} (h0 : 0 ≤ i) (h1 : i < n) : ixN n i = some i.toNat := by unfold ixN; rw [if_pos h0, if_pos h1]

section
variable {P : Program} {w : World} {K : PySem.W.Frag} {mg : Str → Option Value} {base : Heap}

/-! ### _law_put_together -/
abbrev s__law_put_together : Stmt := topS 16
abbrev N__law_put_together : List Str := ["_law_left_here", "_law_many", "_law_groups", "_law_p", "_law_ties", "_law_some", "_law_k", "_law_way", "_law_one", "_law_j", "_law_a", "_law_b", "_law_whole"]
theorem sc__law_put_together : FnScope N__law_put_together ["_law_left_here", "_law_many"] (defScope s__law_put_together) := ⟨rfl, rfl, rfl, by decide +kernel, rfl, by decide +kernel, by decide +kernel⟩
def cdb (way : Int) (k j : Nat) : Bool := decide (way < 2) || (decide (way = 2) && decide ((k : Int) - j = 1))
theorem cd_read {σ : L2.St} {H : Hp} {Q : VK} {way : Int} {k j : Nat} (h7 : σ[7]? = some (some (.int way))) (h6 : σ[6]? = some (some (.int (k : Int)))) (h9 : σ[9]? = some (some (.int (0 + (j : Int)))))
    (q : Q (.bl (cdb way k j)) H) : tOrV (tOp (rI0 fun i j => .bl (decide (i < j))) (tVar 7) (tC (.int 2))) (tAndV (tOp rEq (tVar 7) (tC (.int 2))) (tOp rEq (tOp (rI0 fun i j => .int (i - j)) (tVar 6) (tVar 9)) (tC (.int 1)))) σ H Q := by
  unfold cdb at q
  refine ⟨_, h7, _, _, rfl, rfl, _, rfl, ite2 (fun e => ?_) (fun e => ?_)⟩
  · have e := of_decide_eq_true e
    rw [decide_eq_true e, Bool.true_or] at q
    exact q
  · have e' : ¬ way < 2 := fun z => e (decide_eq_true z)
    rw [decide_eq_false e', Bool.false_or] at q
    refine ⟨_, h7, rfl, _, rfl, ite2 (fun e => ?_) (fun e => ?_)⟩
    · have e := V.int.inj (of_decide_eq_true e)
      rw [decide_eq_true e, Bool.true_and] at q
      refine ⟨_, h6, _, h9, _, _, rfl, rfl, rfl, ?_⟩
      have z : decide (V.int ((k : Int) - (0 + (j : Int))) = V.int 1) = decide ((k : Int) - (j : Int) = 1) := by
        rw [Int.zero_add]
        exact decide_eq_decide.mpr ⟨fun h => V.int.inj h, fun h => congrArg V.int h⟩
      rw [z]
      exact q
    · have e' : ¬ way = 2 := fun z => e (decide_eq_true (congrArg V.int z))
      rw [decide_eq_false e', Bool.false_and] at q
      exact q
theorem rep_b (b : Bool) (g : List Int) : (List.replicate (if b = true then (1 : Int) else 0).toNat (g.map V.int)).flatten = (if b = true then g else []).map V.int := by
  cases b
  · rfl
  · show (List.replicate 1 (g.map V.int)).flatten = _
    simp

theorem ok_put_together {f : Addr} {fd : FuncData} (B : Bts mg) (F : Fun K "_law_put_together" "_law_put_together" s__law_put_together f fd) (c__law_pick : Cl P w K mg base 2 "_law_pick" sp_pick) (c__law_row : Cl P w K mg base 3 "_law_row" sp_row) :
    FnOk P w K mg base CX0 4 f fd ["_law_left_here", "_law_many"] sp_gen := by
  refine F.ok sc__law_put_together (fun vs H Q E h => ?_) (fun cdv A outer s H vs Q E hr h => ?_)
  · obtain ⟨L, n, c, rfl, _⟩ := h; rfl
  · obtain ⟨L, n, c, rfl, hL, hn, hc, q⟩ := h
    refine ⟨_, (pss_cons (ps_set (i := 2) sc__law_put_together.nd rfl (by first | exact Or.inl rfl | exact Or.inr rfl) (pe_lc (own := [("_law_p", 3)]) (g := (gName 3)) (tt := tYes) rfl sc__law_put_together.nd (pi_list (pe_c c__law_row hr (by decide) (by rfl) (pa_cons (pv 0) (pa_cons (pv 1) pa_nil)))) (blkOk_by (own := [("_law_p", 3)]) (N := N__law_put_together) (sc := defScope s__law_put_together) (by decide +kernel)) (fun _ _ _ _ _ => (pg_name (i := 3) sc__law_put_together.nd rfl (by first | exact Or.inl rfl | exact Or.inr rfl))) (fun _ _ _ _ _ => pts_nil) (fun _ _ _ _ _ => (pe_lst (pa_cons (pv 3) pa_nil)))))
    (pss_cons (ps_set (i := 4) sc__law_put_together.nd rfl (by first | exact Or.inl rfl | exact Or.inr rfl) (pe_lst pa_nil))
    (pss_cons (ps_while PassesOwn.never (pt_cmpR op_gt (pe_callB call_len_seq (by rfl) B.len (by decide +kernel) (pa_cons (pv 2) pa_nil)) pe_int (nomark _))
      (pss_cons (ps_setLc (i := 5) (own := [("_law_k", 6)]) (g := (gName 6)) (tt := tYes) (te := (tBM K "list" rPopAt _ (tCons (tCall _ _ _ (tCons _ (tCons (tCB (rLenK K) _) tNil))) tNil))) rfl sc__law_put_together.nd rfl rfl (sw_true rfl rfl rfl (by decide +kernel)) (pi_range1 (by rfl) B.range (pa_cons (pe_callB (call_min2 rfl) (by rfl) B.min (by decide +kernel) (pa_cons (pe_callB call_len_seq (by rfl) B.len (by decide +kernel) (pa_cons (pv 2) pa_nil)) (pa_cons (pe_op op_add pe_int (pe_c c__law_pick hr (by decide) (by rfl) (pa_cons (pv 0) (pa_cons pe_int pa_nil)))) pa_nil))) pa_nil)) (blkOk_by (own := [("_law_k", 6)]) (N := N__law_put_together) (sc := defScope s__law_put_together) (by decide +kernel)) (fun _ _ _ _ _ => (pg_name (i := 6) sc__law_put_together.nd rfl (by first | exact Or.inl rfl | exact Or.inr rfl))) (fun _ _ _ _ _ => pts_nil) (fun _ _ _ _ _ => (pe_bm PySem.F.plainAttrs_list PySem.F.slot_list_pop PySem.F.type_list_pop mt_popAt (pv 2) (pa_cons (pe_c c__law_pick hr (by decide) (by rfl) (pa_cons (pv 0) (pa_cons (pe_callB call_len_seq (by rfl) B.len (by decide +kernel) (pa_cons (pv 2) pa_nil)) pa_nil))) pa_nil))))
      (pss_cons (ps_set (i := 7) sc__law_put_together.nd rfl (by first | exact Or.inl rfl | exact Or.inr rfl) (pe_c c__law_pick hr (by decide) (by rfl) (pa_cons (pv 0) (pa_cons pe_int pa_nil))))
      (pss_cons (ps_for PassesOwn.never rfl (pi_enum (by rfl) B.enumerate (pa_cons (pv 5) pa_nil)) (pg_tup rfl (pgs_cons (pg_name (i := 6) sc__law_put_together.nd rfl (by first | exact Or.inl rfl | exact Or.inr rfl)) (pgs_cons (pg_name (i := 8) sc__law_put_together.nd rfl (by first | exact Or.inl rfl | exact Or.inr rfl)) pgs_nil)))
        (pss_one (ps_for PassesOwn.never rfl (pi_range1 (by rfl) B.range (pa_cons (pv 6) pa_nil)) (pg_name (i := 9) sc__law_put_together.nd rfl (by first | exact Or.inl rfl | exact Or.inr rfl))
          (pss_one (ps_for PassesOwn.never rfl (pi_list (pe_op op_rep (pv 8) (pe_callTy call_int1 (by rfl) B.int (by decide +kernel) (pa_cons (pe_or (pe_cmpR op_lt (pv 7) pe_int (nomark _)) (pe_one (pe_and (pe_cmpR op_eq (pv 7) pe_int (nomark _)) (pe_one (pe_cmpR op_eq (pe_op op_sub (pv 6) (pv 9)) pe_int (nomark _)))))) pa_nil)))) (pg_name (i := 10) sc__law_put_together.nd rfl (by first | exact Or.inl rfl | exact Or.inr rfl))
            (pss_one (ps_expr (pe_bm PySem.F.plainAttrs_list PySem.F.slot_list_extend PySem.F.type_list_extend mt_extend (pv 4) (pa_cons (pe_lc (own := [("_law_b", 11)]) (g := (gName 11)) (tt := tYes) (te := (tCB (rTupK K) (tCons (tCB (rSortedI K) _) tNil))) rfl sc__law_put_together.nd (pi_list (pe_ix ix_list (pv 5) (pv 9) (fun _ _ => rfl))) (blkOk_by (own := [("_law_b", 11)]) (N := N__law_put_together) (sc := defScope s__law_put_together) (by decide +kernel)) (fun _ _ _ _ _ => (pg_name (i := 11) sc__law_put_together.nd rfl (by first | exact Or.inl rfl | exact Or.inr rfl))) (fun _ _ _ _ _ => pts_nil) (fun _ _ _ _ _ => (pe_callTy call_tuple_of (by rfl) B.tuple (by decide +kernel) (pa_cons (pe_callB cr_sortedI (by rfl) B.sorted (by decide +kernel) (pa_cons (pe_lst (pa_cons (pv 10) (pa_cons (pv 11) pa_nil))) pa_nil)) pa_nil)))) pa_nil)))))))))
      (pss_cons (ps_set (i := 12) sc__law_put_together.nd rfl (by first | exact Or.inl rfl | exact Or.inr rfl) (pe_lst pa_nil))
      (pss_cons (ps_for PassesOwn.never rfl (pi_list (pv 5)) (pg_name (i := 8) sc__law_put_together.nd rfl (by first | exact Or.inl rfl | exact Or.inr rfl))
        (pss_one (ps_expr (pe_bm PySem.F.plainAttrs_list PySem.F.slot_list_extend PySem.F.type_list_extend mt_extend (pv 12) (pa_cons (pv 8) pa_nil)))))
      (pss_one (ps_expr (pe_bm PySem.F.plainAttrs_list PySem.F.slot_list_append PySem.F.type_list_append mt_append (pv 2) (pa_cons (pv 12) pa_nil))))))))))
    (pss_one (ps_ret (pe_tup (pa_cons (pv 1) (pa_cons (pe_callTy call_tuple_of (by rfl) B.tuple (by decide +kernel) (pa_cons (pe_callB cr_sortedPO (by rfl) B.sorted (by decide +kernel) (pa_cons (pv 4) pa_nil)) pa_nil)) pa_nil)))))))), ?_⟩
    -- groups = [[p] for p in row]
    refine ⟨_, rfl, _, rfl, L, n, c, rfl, hL, by omega, by omega, fun rw ns H1 nrw fr1 lf1 erw hp => ?_⟩
    have hnl : ns.length = n := by rw [hp.length_eq, up_len]
    have nrwL : rw ≠ L := hL.ne nrw
    refine ⟨rw, rfl, ⟨_, SqL.of erw⟩, fun G nG => ?_⟩
    have nGL : G ≠ L := lf1.ne nG
    refine lc_list (K := K) (a := rw) (xs := ns.map V.int) (fun i H2 => ∃ vs, Same H1 H2 ∧ H2 G = some (.lst vs) ∧ All2 (Gp [L, G] H2) vs ((ns.take i).map fun x => [x])) ⟨[], same_new nG, upd_same, by exact trivial⟩ ?_ ?_ ?_
    · rintro i H2 _ ⟨vs, sm, _⟩
      exact SqL.of (sm _ _ erw)
    · rintro i x H2 hx ⟨vs, sm, eG, hV⟩
      have hil : i < ns.length := by
        have := (List.getElem?_eq_some_iff.mp hx).1
        rw [List.length_map] at this; exact this
      have ex : x = .int ns[i] := by
        rw [List.getElem?_map, List.getElem?_eq_getElem hil] at hx
        cases hx; rfl
      subst ex
      refine ⟨rfl, yes ?_⟩
      refine ⟨_, rfl, by show 1 ≤ sizeLine; decide, fun t nt => ?_⟩
      have nGt : G ≠ t := ne_of_none eG nt
      have tL : t ≠ L := (lf1.same sm).ne nt
      have eG2 : (upd H2 t (.lst [.int ns[i]])) G = some (.lst vs) := by rw [upd_ne nGt]; exact eG
      refine ⟨vs, eG2, sz' (by rw [hV.len, List.length_map, List.length_take]; omega), vs ++ [.ref t], Same.put (sm.trans (same_new nt)) nG, upd_same, ?_⟩
      rw [List.take_add_one, List.getElem?_eq_getElem hil]
      show All2 _ _ (((ns.take i) ++ [ns[i]]).map fun x => [x])
      rw [List.map_append]
      refine All2.app (hV.imp fun v g h => (h.mono (FrM.same (same_new nt)) (fun x hx => hx)).mono (FrM.put (FrM.refl _ _) (by simp)) (fun x hx => hx)) ⟨⟨t, rfl, by simp [tL, nGt.symm], ?_⟩, trivial⟩
      rw [upd_ne nGt.symm, upd_same]; rfl
    · rintro H2 ⟨vs0, sm2, eG, hV0⟩
      rw [List.length_map, List.take_length] at hV0
      have lf2 := lf1.same sm2
      -- ties = []
      refine ⟨Nat.zero_le _, fun O nO => ?_⟩
      have nGO : G ≠ O := ne_of_none eG nO
      have nOL : O ≠ L := lf2.ne nO
      have frH2 : Fr L H H2 := fr1.trans (Fr.of sm2)
      have HG : H G = none := Lf.free fr1 lf1 nG
      have HO' : H O = none := Lf.free frH2 lf2 nO
      have memL : L ∈ [L, G, O] := by simp
      have memG : G ∈ [L, G, O] := by simp
      have memO : O ∈ [L, G, O] := by simp
      -- the while
      refine while_by (fun σ H3 => ∃ (vs : List V) (gs : List (List Int)) (us : List V) (ts : List (Int × Int)) (y3 y5 y6 y7 y8 y9 y10 y11 y12 : Option V), σ = [some (.ref L), some (.int (n : Int)), some (.ref G), y3, some (.ref O), y5, y6, y7, y8, y9, y10, y11, y12] ∧
          Fr L H H3 ∧ Lf H3 L (c + 200 - 6 * gs.length) ∧ H3 G = some (.lst vs) ∧ All2 (Gp [L, G, O] H3) vs gs ∧ H3 O = some (.lst us) ∧ Ties H3 us ts ∧ PInv n gs ts ∧ gs.length ≤ 12)
        (fun _ H3 => match H3 G with | some (.lst vs) => vs.length | _ => 0) ?_ ?_ ?_
      · refine ⟨vs0, ns.map fun x => [x], [], [], none, none, none, none, none, none, none, none, none, rfl, frH2.trans (Fr.new nO), ?_, ?_, ?_, upd_same, trivial, ⟨?_, List.nodup_nil, (fun _ h => by cases h), (fun _ h => by cases h)⟩, ?_⟩
        · rw [List.length_map, hnl]; exact (lf2.new nO).mono (by omega)
        · rw [upd_ne nGO]; exact eG
        · refine hV0.imp fun v g h => (h.new nO).mono (FrM.refl _ _) (fun x hx => ?_)
          simp only [List.mem_cons, List.not_mem_nil, or_false] at hx ⊢
          rcases hx with h | h | h
          · exact .inr (.inl h)
          · exact .inr (.inr h)
          · exact .inl h
        · rw [flat_one]; exact hp
        · rw [List.length_map, hnl]; exact hn
      · rintro σ H3 ⟨vs, gs, us, ts, y3, y5, y6, y7, y8, y9, y10, y11, y12, rfl, fr3, lf3, eG3, hV, eO3, hT, hI, hg12⟩
        have hvl := hV.len
        have lts := hI.len (by omega)
        refine ⟨_, rfl, G, vs, rfl, .inl (SqL.of eG3), _, _, rfl, rfl, _, rfl, ite2 (fun e => ?_) (fun e => ?_)⟩
        · have hlen : 1 < vs.length := by have := of_decide_eq_true e; omega
          -- how many
          refine ⟨_, rfl, G, vs, rfl, .inl (SqL.of eG3), ?_⟩
          refine ⟨_, rfl, L, _, _, rfl, lf3, by decide, by decide, by omega, fun r0 Ha ra rb fra lfa => ?_⟩
          refine ⟨_, _, rfl, rfl, _, _, rfl, ?_⟩
          have hm : ∃ m : Nat, (if 2 + r0 < (vs.length : Int) then 2 + r0 else (vs.length : Int)) = (m : Int) ∧ 2 ≤ m ∧ m ≤ 4 ∧ m ≤ vs.length := by
            by_cases z : 2 + r0 < (vs.length : Int)
            · rw [if_pos z]; exact ⟨(2 + r0).toNat, by omega, by omega, by omega, by omega⟩
            · rw [if_neg z]; exact ⟨vs.length, rfl, by omega, by omega, Nat.le_refl _⟩
          obtain ⟨m, em, m2, m4, mv⟩ := hm
          rw [em]
          refine ⟨_, rfl, by omega, by omega, fun D nD => ?_⟩
          have eGa := fra _ _ nGL eG3
          have eOa := fra _ _ nOL eO3
          have nGD : G ≠ D := ne_of_none eGa nD
          have nOD : O ≠ D := ne_of_none eOa nD
          have nDL : D ≠ L := lfa.ne nD
          have hVa : All2 (Gp [L, G, O] Ha) vs gs := hV.imp fun v g h => h.mono (fra.m memL) fun x hx => hx
          have hTa : Ties Ha us ts := hT.mono (lf3.tst fra)
          refine lc_range (fun i Hb => ∃ (vs' : List V) (gs' : List (List Int)) (ss : List V) (sg : List (List Int)), FrM [L, G, D] Ha Hb ∧ Lf Hb L (c + 200 - 6 * gs.length + 1 + i) ∧ Hb G = some (.lst vs') ∧ Hb D = some (.lst ss) ∧ All2 (Gp [D, L, G, O] Hb) vs' gs' ∧ All2 (Gp [D, L, G, O] Hb) ss sg ∧ gs.Perm (sg ++ gs') ∧ sg.length = i)
            ⟨vs, gs, [], [], (FrM.refl _ _).putN nD, (lfa.new nD).mono (by omega), by rw [upd_ne nGD]; exact eGa, upd_same, hVa.imp fun v g h => h.new nD, trivial, .refl _, rfl⟩ ?_ ?_
          · rintro i Hb hi ⟨vs', gs', ss, sg, frb, lfb, eGb, eDb, hVb, hSb, pm, hsl⟩
            have hi : i < m := by omega
            have l1 := hVb.len
            have l2 := hSb.len
            have l3 := pm.length_eq
            rw [List.length_append] at l3
            refine ⟨rfl, yes ?_⟩
            refine ⟨_, rfl, .inl ⟨rfl, _, SqL.of eGb⟩, ?_⟩
            refine ⟨_, rfl, _, rfl, G, vs', rfl, .inl (SqL.of eGb), ?_⟩
            refine ⟨L, _, _, rfl, lfb, by omega, by omega, by omega, fun r Hc rc0 rc1 frc lfc => ?_⟩
            have eGc := frc _ _ nGL eGb
            have eDc := frc _ _ nDL eDb
            have hk : r.toNat < vs'.length := by omega
            have hk2 : r.toNat < gs'.length := by omega
            obtain ⟨g, eg, hg⟩ := hVb.at (List.getElem?_eq_getElem hk)
            have eg' : gs'[r.toNat] = g := by rw [List.getElem?_eq_getElem hk2] at eg; cases eg; rfl
            refine ⟨G, vs', r, r.toNat, vs'[r.toNat], rfl, rfl, eGc, by omega, by omega, (ixN_seq (ixN_in rc0 rc1)).1, List.getElem?_eq_getElem hk, ?_⟩
            have eDd : (upd Hc G (.lst (vs'.eraseIdx r.toNat))) D = some (.lst ss) := by rw [upd_ne nGD.symm]; exact eDc
            have frd : FrM [D, L, G, O] Hb (upd (upd Hc G (.lst (vs'.eraseIdx r.toNat))) D (.lst (ss ++ [vs'[r.toNat]]))) := ((frc.m (by simp)).put (by simp)).put (by simp)
            refine ⟨ss, eDd, sz' (by omega), vs'.eraseIdx r.toNat, gs'.eraseIdx r.toNat, ss ++ [vs'[r.toNat]], sg ++ [g], ?_, ?_, ?_, upd_same, ?_, ?_, ?_, ?_⟩
            · exact ((frb.trans (frc.m (by simp))).put (by simp)).put (by simp)
            · exact ((lfc.mono (by omega)).put nGL).put nDL
            · rw [upd_ne nGD, upd_same]
            · exact (hVb.imp fun v g h => h.mono frd fun x hx => hx).erase _
            · exact (hSb.imp fun v g h => h.mono frd fun x hx => hx).app ⟨hg.mono frd fun x hx => hx, trivial⟩
            · refine pm.trans ?_
              rw [List.append_assoc]
              refine List.Perm.append_left _ ?_
              have := erase_perm hk2
              rw [eg'] at this
              exact this.symm
            · rw [List.length_append, hsl]; rfl
          · rintro Hb ⟨vs', gs', ss, sg, frb, lfb, eGb, eDb, hVb, hSb, pm, hsl⟩
            rw [Int.toNat_natCast] at hsl lfb
            have l1 := hVb.len
            have l2 := hSb.len
            have l3 := pm.length_eq
            rw [List.length_append] at l3
            have eOb : Hb O = some (.lst us) := frb _ _ (by simp [nOL, nGO.symm, nOD]) eOa
            obtain ⟨xa, ya, za, eLa, _⟩ := id lfa
            have tab : Tst Ha Hb := fun b xs e => by
              refine frb b _ (fun mm => ?_) e
              simp only [List.mem_cons, List.not_mem_nil, or_false] at mm
              rcases mm with z | z | z
              · rw [z, eLa] at e; cases e
              · rw [z, eGa] at e; cases e
              · rw [z, nD] at e; cases e
            have hTb : Ties Hb us ts := hTa.mono tab
            have frHb : Fr L H Hb := fun b o nb e => by
              have e3 := fra b o nb (fr3 b o nb e)
              refine frb b o (fun mm => ?_) e3
              simp only [List.mem_cons, List.not_mem_nil, or_false] at mm
              rcases mm with z | z | z
              · exact nb z
              · rw [z, HG] at e; cases e
              · rw [z, nD] at e3; cases e3
            have HD : H D = none := by
              cases z : H D with
              | none => rfl
              | some o => rw [fra D o nDL (fr3 D o nDL z)] at nD; cases nD
            -- way
            refine ⟨_, rfl, L, _, _, rfl, lfb, by decide, by decide, by omega, fun way Hc wa wb frc lfc => ?_⟩
            have eGc := frc _ _ nGL eGb
            have eDc := frc _ _ nDL eDb
            have eOc := frc _ _ nOL eOb
            have hVc : All2 (Gp [D, L, G, O] Hc) vs' gs' := hVb.imp fun v g h => h.mono (frc.m (by simp)) fun x hx => hx
            have hSc : All2 (Gp [D, L, G, O] Hc) ss sg := hSb.imp fun v g h => h.mono (frc.m (by simp)) fun x hx => hx
            have hTc : Ties Hc us ts := hTb.mono (lfb.tst frc)
            have frHc : Fr L H Hc := frHb.trans frc
            have pf : (sg ++ gs').flatten.Perm (up n) := pm.flatten.symm.trans hI.fl
            have gl : ∀ i, (sg.getD i []).length ≤ 12 := fun i => Nat.le_trans (grp_len pf i) hn
            -- for k, one in enumerate(some)
            refine ⟨_, rfl, D, ss, rfl, SqL.of eDc, ?_⟩
            refine for_it (walk_enum (K := K) (a := D) (xs := ss)) (fun k σ H4 => ∃ (us4 : List V) (y6 y8 y9 y10 y11 y12 : Option V), σ = [some (.ref L), some (.int (n : Int)), some (.ref G), y3, some (.ref O), some (.ref D), y6, some (.int way), y8, y9, y10, y11, y12] ∧ FrM [O] Hc H4 ∧ H4 O = some (.lst us4) ∧ Ties H4 us4 (ts ++ news sg (cdb way) k))
              ⟨us, y6, y8, y9, y10, y11, y12, rfl, FrM.refl _ _, eOc, by exact (List.append_nil ts).symm ▸ hTc⟩ ?_ ?_ ?_
            · rintro k σ H4 _ ⟨us4, _, _, _, _, _, _, _, fr4, _⟩
              exact SqL.of (fr4 _ _ (by simp [nOD.symm]) eDc)
            · rintro k x σ H4 H4' hk ⟨us4, y6, y8, y9, y10, y11, y12, rfl, fr4, eO4, hT4⟩ ⟨T, x1, x2, rfl, nT, rfl, ex1, ex2⟩
              cases ex1
              obtain ⟨gk, egk, hgk⟩ := hSc.at ex2
              have hk5 : k < 4 := by omega
              have gdk : sg.getD k [] = gk := by rw [List.getD_eq_getElem?_getD, egk]; rfl
              have ln1 := news_len (cd := cdb way) gl k (by omega)
              refine ⟨T, _, rfl, SqT.of upd_same, rfl, _, _, rfl, _, _, rfl, rfl, ?_⟩
              -- for j in range(k)
              refine ⟨_, rfl, _, rfl, by omega, by omega, ?_⟩
              refine for_range (fun j σ H5 => ∃ (us5 : List V) (y9 y10 y11 y12 : Option V), σ = [some (.ref L), some (.int (n : Int)), some (.ref G), y3, some (.ref O), some (.ref D), some (.int (k : Int)), some (.int way), some x2, y9, y10, y11, y12] ∧ FrM [O] Hc H5 ∧ H5 O = some (.lst us5) ∧ Ties H5 us5 (ts ++ news sg (cdb way) k ++ newK sg (cdb way) k j))
                ⟨us4, y9, y10, y11, y12, rfl, fr4.trans (FrM.same (same_new nT)), by rw [upd_ne (ne_of_none eO4 nT)]; exact eO4, by exact (List.append_nil (ts ++ news sg (cdb way) k)).symm ▸ (hT4.mono (tst_new nT))⟩ ?_ ?_
              · rintro j σ H5 hj ⟨us5, y9, y10, y11, y12, rfl, fr5, eO5, hT5⟩
                have hj : j < k := by omega
                have ln2 := newK_len (cd := cdb way) (k := k) gl j
                obtain ⟨pk, rfl, npk, epk⟩ := hgk
                have epk5 := fr5 _ _ (fun z => npk (by simp at z; simp [z])) epk
                have hjs : j < ss.length := by omega
                obtain ⟨gj, egj, hgj⟩ := hSc.at (List.getElem?_eq_getElem hjs)
                have gdj : sg.getD j [] = gj := by rw [List.getD_eq_getElem?_getD, egj]; rfl
                -- for a in one * int(..)
                refine ⟨_, rfl, cd_read rfl rfl rfl (.inr ⟨_, rfl, ?_⟩)⟩
                have gkl : gk.length ≤ 12 := by rw [← gdk]; exact gl k
                have gjl : gj.length ≤ 12 := by rw [← gdj]; exact gl j
                refine ⟨pk, _, _, rfl, rfl, epk5, by have := (bi (cdb way k j)).2.2; omega, by have := (bi (cdb way k j)).2.1; omega, ?_, fun pr npr => ?_⟩
                · rw [List.length_map]
                  have : (if cdb way k j = true then (1 : Int) else 0).toNat ≤ 1 := by cases cdb way k j <;> decide
                  exact sz (Nat.le_trans (Nat.mul_le_mul gkl this) (by decide))
                rw [rep_b]
                generalize hg' : (if cdb way k j = true then gk else []) = g'
                have g'l : g'.length ≤ 12 := by rw [← hg']; split; exact gkl; exact Nat.zero_le _
                have nprO : pr ≠ O := fun z => by rw [z, eO5] at npr; cases npr
                refine ⟨pr, rfl, ⟨_, SqL.of upd_same⟩, ?_⟩
                refine for_list (K := K) (a := pr) (xs := g'.map V.int) (fun i σ H6 => ∃ (us6 : List V) (y10 y11 y12 : Option V), σ = [some (.ref L), some (.int (n : Int)), some (.ref G), y3, some (.ref O), some (.ref D), some (.int (k : Int)), some (.int way), some (.ref pk), some (.int (0 + (j : Int))), y10, y11, y12] ∧ FrM [O] Hc H6 ∧ H6 pr = some (.lst (g'.map V.int)) ∧ H6 O = some (.lst us6) ∧ Ties H6 us6 (ts ++ news sg (cdb way) k ++ newK sg (cdb way) k j ++ newA (g'.take i) gj))
                  ⟨us5, y10, y11, y12, rfl, fr5.trans (FrM.same (same_new npr)), upd_same, by rw [upd_ne nprO.symm]; exact eO5, ?_⟩ ?_ ?_ ?_
                · have : newA (g'.take 0) gj = [] := rfl
                  rw [this, List.append_nil]
                  exact hT5.mono (tst_new npr)
                · rintro i σ H6 _ ⟨_, _, _, _, _, _, epr, _⟩
                  exact SqL.of epr
                · rintro i x σ H6 hx ⟨us6, y10, y11, y12, rfl, fr6, epr, eO6, hT6⟩
                  have hil : i < g'.length := by
                    have := (List.getElem?_eq_some_iff.mp hx).1
                    rw [List.length_map] at this; exact this
                  have ex : x = .int g'[i] := by
                    rw [List.getElem?_map, List.getElem?_eq_getElem hil] at hx
                    cases hx; rfl
                  subst ex
                  have eD6 := fr6 _ _ (by simp [nOD.symm]) eDc
                  obtain ⟨pj, ej, npj, epj⟩ := id hgj
                  have epj6 := fr6 _ _ (fun z => npj (by simp at z; simp [z])) epj
                  have ln3 := newA_len (g := g'.take i) (h := gj) (x := 12) (y := 12) (by rw [List.length_take]; omega) gjl
                  refine ⟨_, rfl, .inl ⟨rfl, _, SqL.of eO6⟩, ?_⟩
                  refine ⟨_, rfl, _, rfl, D, ss, _, ss[j], rfl, rfl, SqL.of eD6, by rw [Int.zero_add]; exact atI_nat (List.getElem?_eq_getElem hjs), ?_⟩
                  rw [ej]
                  refine ⟨pj, rfl, ⟨_, SqL.of epj6⟩, fun E2 nE2 => ?_⟩
                  refine lc_list (K := K) (a := pj) (xs := gj.map V.int) (fun b H7 => ∃ us7 : List V, Same H6 H7 ∧ H7 E2 = some (.lst us7) ∧ Ties H7 us7 ((gj.take b).map fun y => norm g'[i] y)) ⟨[], same_new nE2, upd_same, by exact trivial⟩ ?_ ?_ ?_
                  · rintro b H7 _ ⟨_, sm7, _⟩
                    exact SqL.of (sm7 _ _ epj6)
                  · rintro b y H7 hy ⟨us7, sm7, eE7, hT7⟩
                    have hbl : b < gj.length := by
                      have := (List.getElem?_eq_some_iff.mp hy).1
                      rw [List.length_map] at this; exact this
                    have ey : y = .int gj[b] := by
                      rw [List.getElem?_map, List.getElem?_eq_getElem hbl] at hy
                      cases hy; rfl
                    subst ey
                    refine ⟨rfl, yes ?_⟩
                    refine ⟨_, rfl, _, rfl, by show 2 ≤ sizeLine; decide, fun l nl => ?_⟩
                    refine ⟨l, [g'[i], gj[b]], rfl, SqL.of upd_same, fun ns' p2 pm2 srt np2 => ?_⟩
                    have e2 := perm2 pm2 srt
                    subst e2
                    refine ⟨p2, _, rfl, .inl ⟨SqL.of upd_same, fun t nt => ?_⟩⟩
                    have s1 : Same H7 (upd H7 l (.lst [.int g'[i], .int gj[b]])) := same_new nl
                    have s2 := s1.trans (same_new (o := .lst (([(norm g'[i] gj[b]).1, (norm g'[i] gj[b]).2]).map V.int)) np2)
                    have s3 := s2.trans (same_new (o := .tup (([(norm g'[i] gj[b]).1, (norm g'[i] gj[b]).2]).map V.int)) nt)
                    refine ⟨us7, s3 _ _ eE7, sz' (by rw [hT7.len, List.length_map, List.length_take]; omega), us7 ++ [.ref t], ?_, upd_same, ?_⟩
                    · exact Same.put (sm7.trans s3) nE2
                    · rw [List.take_add_one, List.getElem?_eq_getElem hbl]
                      show Ties _ _ (((gj.take b) ++ [gj[b]]).map fun y => norm g'[i] y)
                      rw [List.map_append]
                      refine Ties.mono (tst_put (s3 _ _ eE7)) ((hT7.mono (Same.tst s3)).app (Ties.one ?_))
                      exact Tie.new
                  · rintro H7 ⟨us7, sm7, eE7, hT7⟩
                    rw [List.length_map, List.take_length] at hT7
                    have eO7 := sm7 _ _ eO6
                    refine ⟨O, E2, us6, us7, rfl, rfl, eO7, eE7, ?_, ?_⟩
                    · refine sz ?_
                      rw [hT6.len, hT7.len, List.length_map]
                      simp only [List.length_append]
                      omega
                    · refine ⟨us6 ++ us7, _, y11, y12, rfl, (fr6.trans (FrM.same sm7)).put (by simp), by rw [upd_ne nprO]; exact sm7 _ _ epr, upd_same, ?_⟩
                      rw [List.take_add_one, List.getElem?_eq_getElem hil]
                      show Ties _ _ (_ ++ newA (g'.take i ++ [g'[i]]) gj)
                      rw [newA_app, newA_one, ← List.append_assoc]
                      exact Ties.mono (tst_put eO7) ((hT6.mono (Same.tst sm7)).app hT7)
                · rintro σ H6 ⟨us6, y10, y11, y12, rfl, fr6, epr, eO6, hT6⟩
                  refine ⟨us6, _, y10, y11, y12, rfl, fr6, eO6, ?_⟩
                  rw [List.length_map, List.take_length] at hT6
                  rw [newK_succ, gdk, gdj, hg', ← List.append_assoc]
                  exact hT6
              · rintro σ H5 ⟨us5, y9, y10, y11, y12, rfl, fr5, eO5, hT5⟩
                refine ⟨us5, _, _, y9, y10, y11, y12, rfl, fr5, eO5, ?_⟩
                rw [Int.toNat_natCast] at hT5
                rw [news_succ, ← List.append_assoc]
                exact hT5
            · rintro σ H4 ⟨us4, y6, y8, y9, y10, y11, y12, rfl, fr4, eO4, hT4⟩
              rw [l2] at hT4
              -- whole
              refine ⟨Nat.zero_le _, fun W nW => ?_⟩
              have eD4 := fr4 _ _ (by simp [nOD.symm]) eDc
              have eG4 := fr4 _ _ (by simp [nGO]) eGc
              have lf4 : Lf H4 L (c + 200 - 6 * gs.length + 1 + m + 1) := by
                obtain ⟨x, y, z, h1, h2⟩ := lfc
                exact ⟨x, y, z, fr4 _ _ (by simp [nOL.symm]) h1, h2⟩
              have nWL : W ≠ L := lf4.ne nW
              have nWG : W ≠ G := fun z => by rw [z, eG4] at nW; cases nW
              have nWO : W ≠ O := fun z => by rw [z, eO4] at nW; cases nW
              have nWD : W ≠ D := fun z => by rw [z, eD4] at nW; cases nW
              refine ⟨_, rfl, D, rfl, ⟨_, SqL.of (by rw [upd_ne nWD.symm]; exact eD4)⟩, ?_⟩
              refine for_list (K := K) (a := D) (xs := ss) (fun i σ H5 => ∃ (y8 : Option V), σ = [some (.ref L), some (.int (n : Int)), some (.ref G), y3, some (.ref O), some (.ref D), y6, some (.int way), y8, y9, y10, y11, some (.ref W)] ∧ Same H4 H5 ∧ H5 W = some (.lst ((sg.take i).flatten.map V.int)))
                ⟨y8, rfl, same_new nW, upd_same⟩ ?_ ?_ ?_
              · rintro i σ H5 _ ⟨_, _, sm5, _⟩
                exact SqL.of (sm5 _ _ eD4)
              · rintro i x σ H5 hx ⟨y8, rfl, sm5, eW⟩
                obtain ⟨gi, egi, hgi⟩ := hSc.at hx
                obtain ⟨pi, rfl, npi, epi⟩ := hgi
                have epi5 := sm5 _ _ (fr4 _ _ (fun z => npi (by simp at z; simp [z])) epi)
                have fl : ((sg.take i).flatten).length ≤ n := by
                  have e1 := pf.length_eq
                  rw [up_len, List.flatten_append, List.length_append] at e1
                  have e2 : (sg.flatten).length = ((sg.take i).flatten).length + ((sg.drop i).flatten).length := by
                    rw [← List.length_append, ← List.flatten_append, List.take_append_drop]
                  omega
                have gil : gi.length ≤ 12 := by
                  have := gl i
                  rw [List.getD_eq_getElem?_getD, egi] at this
                  exact this
                refine ⟨_, rfl, .inl ⟨rfl, _, SqL.of eW⟩, _, rfl, ?_⟩
                refine ⟨W, pi, _, _, rfl, rfl, eW, epi5, sz (by rw [List.length_map, List.length_map]; omega), ?_⟩
                refine ⟨_, rfl, Same.put sm5 nW, ?_⟩
                rw [upd_same, List.take_add_one, egi]
                show some (HO.lst _) = some (.lst ((sg.take i ++ [gi]).flatten.map V.int))
                rw [List.flatten_append, List.map_append]
                simp
              · rintro σ H5 ⟨y8, rfl, sm5, eW⟩
                rw [l2, List.take_length] at eW
                have eG5 := sm5 _ _ eG4
                refine ⟨_, rfl, .inl ⟨rfl, _, SqL.of eG5⟩, _, rfl, ?_⟩
                refine ⟨G, vs', _, rfl, rfl, eG5, sz' (by omega), ?_⟩
                have nI := hI.next pm (cdb way)
                have all : ∀ v g, Gp [D, L, G, O] Hc v g → Gp [L, G, O] (upd H5 G (.lst (vs' ++ [.ref W]))) v g := fun v g h => by
                  obtain ⟨p, e, np, hh⟩ := h
                  refine ⟨p, e, fun z => np (List.mem_cons_of_mem _ z), ?_⟩
                  have : p ≠ G := fun z => np (by simp [z])
                  rw [upd_ne this]
                  exact sm5 _ _ (fr4 _ _ (fun z => np (by simp at z; simp [z])) hh)
                refine ⟨⟨vs' ++ [.ref W], gs' ++ [sg.flatten], us4, ts ++ news sg (cdb way) sg.length, y3, _, y6, _, y8, y9, y10, y11, _, rfl, ?_, ?_, upd_same, ?_, ?_, ?_, nI, ?_⟩, ?_⟩
                · refine Fr.put (fun b o nb e => sm5 _ _ (fr4 b o (fun z => ?_) (frHc b o nb e))) HG
                  simp only [List.mem_cons, List.not_mem_nil, or_false] at z
                  rw [z, HO'] at e; cases e
                · refine Lf.put ((lf4.same sm5).mono ?_) nGL
                  rw [List.length_append]
                  show _ ≤ c + 200 - 6 * ((gs'.length + 1 : Nat) : Int)
                  omega
                · refine (hVc.imp all).app ⟨⟨W, rfl, by simp [nWL, nWG, nWO], ?_⟩, trivial⟩
                  rw [upd_ne nWG]; exact eW
                · rw [upd_ne nGO.symm]; exact sm5 _ _ eO4
                · exact (hT4.mono (Same.tst sm5)).mono (tst_put eG5)
                · rw [List.length_append]
                  show gs'.length + 1 ≤ 12
                  omega
                · rw [upd_same, eG3]
                  show (vs' ++ [V.ref W]).length < vs.length
                  rw [List.length_append]
                  show vs'.length + 1 < vs.length
                  omega
        · -- the end: sorted
          refine ⟨_, rfl, _, rfl, O, us, My.key H3, rfl, SqL.of eO3, hT.all, fun ys p hs hst np => ?_⟩
          obtain ⟨ts', hT', pm', pw⟩ := srt_ties hs hst.perm hT
          refine ⟨p, ys, rfl, .inl ⟨SqL.of upd_same, fun t nt => ?_⟩⟩
          refine ⟨by show 2 ≤ sizeLine; decide, fun u nu => ?_⟩
          have s9 := ((same_new (H := H3) (o := .lst ys) np).trans (same_new (o := .tup ys) nt)).trans (same_new (o := .tup [.int (n : Int), .ref t]) nu)
          refine q _ _ ts' ?_ ?_ ⟨u, t, ys, rfl, upd_same, ?_, ?_⟩ ⟨?_, ?_⟩
          · exact fr3.trans (Fr.of s9)
          · exact (lf3.mono (by omega)).same s9
          · rw [upd_ne (ne_of_none upd_same nu)]; exact upd_same
          · exact hT'.mono (Same.tst s9)
          · exact pw_lt pw (pm'.nodup_iff.mpr hI.nd)
          · exact fun t' h' => hI.bd t' (pm'.mem_iff.mp h')
      · rintro σ H3 Q1 Q2 hQ ⟨v, hv, p, ys, e, hs, i, j, e1, e2, b, e3, qq⟩
        exact ⟨v, hv, p, ys, e, hs, i, j, e1, e2, b, e3, hQ _ _ qq⟩
end
end My

set_option Elab.async false
set_option linter.all false
set_option maxRecDepth 100000
namespace My
open PySem PySem.Spec PyProof.Rows L2
section
variable {P : Program} {w : World} {K : PySem.W.Frag} {mg : Str → Option Value} {base : Heap}

/-! ### _law_web -/
abbrev s__law_web : Stmt := topS 17
abbrev N__law_web : List Str := ["_law_left_here", "_law_most", "_law_many", "_law_way"]
theorem sc__law_web : FnScope N__law_web ["_law_left_here", "_law_most"] (defScope s__law_web) := ⟨rfl, rfl, rfl, by decide +kernel, rfl, by decide +kernel, by decide +kernel⟩
def sp_web : Sp := fun vs H Q _ => ∃ (L : Addr) (most : Nat) (c : Int), vs = [.ref L, .int (most : Int)] ∧ Lf H L c ∧ most ≤ 12 ∧ c < 2 ^ 47 ∧
  ∀ (v : V) (H' : Hp) (n : Nat) (ts : List (Int × Int)), n ≤ most → Fr L H H' → Lf H' L (c + 200000) → Web H' v n ts → WOk n ts → Q v H'
theorem ok_web {f : Addr} {fd : FuncData} (B : Bts mg) (F : Fun K "_law_web" "_law_web" s__law_web f fd) (c__law_pick : Cl P w K mg base 2 "_law_pick" sp_pick) (c__law_any_web : Cl P w K mg base 3 "_law_any_web" sp_gen)
    (c__law_row_web : Cl P w K mg base 4 "_law_row_web" sp_gen) (c__law_put_together : Cl P w K mg base 4 "_law_put_together" sp_gen) (c__law_ring_web : Cl P w K mg base 4 "_law_ring_web" sp_gen) :
    FnOk P w K mg base CX0 5 f fd ["_law_left_here", "_law_most"] sp_web := by
  refine F.ok sc__law_web (fun vs H Q E h => ?_) (fun cdv A outer s H vs Q E hr h => ?_)
  · obtain ⟨L, n, c, rfl, _⟩ := h; rfl
  · obtain ⟨L, most, c, rfl, hL, hm, hc, q⟩ := h
    refine ⟨_, (pss_cons (ps_set (i := 2) sc__law_web.nd rfl (by first | exact Or.inl rfl | exact Or.inr rfl) (pe_callB (call_min2 rfl) (by rfl) B.min (by decide +kernel) (pa_cons (pv 1) (pa_cons (pe_ix ix_list (pe_lst (pa_cons pe_int (pa_cons pe_int (pa_cons pe_int (pa_cons pe_int (pa_cons pe_int (pa_cons pe_int (pa_cons pe_int (pa_cons pe_int (pa_cons pe_int (pa_cons pe_int (pa_cons pe_int (pa_cons (pe_op op_add pe_int (pe_c c__law_pick hr (by decide) (by rfl) (pa_cons (pv 0) (pa_cons pe_int pa_nil)))) pa_nil))))))))))))) (pe_c c__law_pick hr (by decide) (by rfl) (pa_cons (pv 0) (pa_cons pe_int pa_nil))) (fun _ _ => rfl)) pa_nil))))
    (pss_cons (ps_set (i := 3) sc__law_web.nd rfl (by first | exact Or.inl rfl | exact Or.inr rfl) (pe_c c__law_pick hr (by decide) (by rfl) (pa_cons (pv 0) (pa_cons pe_int pa_nil))))
    (pss_cons (ps_if (pt_cmpR op_lt (pv 3) pe_int (nomark _)) (pss_one (ps_ret (pe_c c__law_any_web hr (by decide) (by rfl) (pa_cons (pv 0) (pa_cons (pv 2) pa_nil))))) pss_nil)
    (pss_cons (ps_if (pt_cmpR op_lt (pv 3) pe_int (nomark _)) (pss_one (ps_ret (pe_c c__law_row_web hr (by decide) (by rfl) (pa_cons (pv 0) (pa_cons (pv 2) pa_nil))))) pss_nil)
    (pss_cons (ps_if (pt_cmpR op_lt (pv 3) pe_int (nomark _)) (pss_one (ps_ret (pe_c c__law_put_together hr (by decide) (by rfl) (pa_cons (pv 0) (pa_cons (pv 2) pa_nil))))) pss_nil)
    (pss_one (ps_ret (pe_c c__law_ring_web hr (by decide) (by rfl) (pa_cons (pv 0) (pa_cons (pv 2) pa_nil)))))))))), ?_⟩
    refine ⟨_, rfl, ?_⟩
    refine ⟨_, rfl, L, _, c, rfl, hL, by decide, by decide, by omega, fun r0 H1 r00 r01 fr1 lf1 => ?_⟩
    refine ⟨_, _, rfl, rfl, by show 12 ≤ sizeLine; decide, fun p np => ?_⟩
    refine ⟨_, rfl, L, _, c + 1, rfl, lf1.new np, by decide, by decide, by omega, fun r1 H2 r10 r11 fr2 lf2 => ?_⟩
    have ep : H2 p = some (.lst (([0, 1, 2, 3, 4, 5, 6, 4, 5, 6, 5, 7 + r0] : List Int).map V.int)) := fr2 _ _ (lf1.ne np) upd_same
    obtain ⟨x, ex, mx⟩ := at_mem (ns := [0, 1, 2, 3, 4, 5, 6, 4, 5, 6, 5, 7 + r0]) (j := r1) (by show -(12 : Int) ≤ r1; omega) (by show r1 < (12 : Int); omega)
    have bx : 0 ≤ x ∧ x ≤ 12 := by
      simp only [List.mem_cons, List.not_mem_nil, or_false] at mx
      omega
    refine ⟨p, _, r1, _, rfl, rfl, SqL.of ep, ex, _, _, rfl, ?_⟩
    have hn : ∃ n : Nat, (if x < (most : Int) then x else (most : Int)) = (n : Int) ∧ n ≤ most := by
      by_cases z : x < (most : Int)
      · rw [if_pos z]; exact ⟨x.toNat, by omega, by omega⟩
      · rw [if_neg z]; exact ⟨most, rfl, Nat.le_refl _⟩
    obtain ⟨n, en, hn⟩ := hn
    rw [en]
    refine ⟨_, rfl, L, _, c + 1 + 1, rfl, lf2, by decide, by decide, by omega, fun way H3 wa wb fr3 lf3 => ?_⟩
    have frA : Fr L H H3 := ((fr1.trans (Fr.new np)).trans fr2).trans fr3
    have fin : ∀ (v : V) (H' : Hp) (ts : List (Int × Int)), Fr L H3 H' → Lf H' L (c + 1 + 1 + 1 + 100000) → Web H' v n ts → WOk n ts → Q v H' :=
      fun v H' ts a b c d => q v H' n ts hn (frA.trans a) (b.mono (by omega)) c d
    refine ⟨_, rfl, _, _, rfl, rfl, _, rfl, ite2 (fun e => ?_) (fun e => ?_)⟩
    · exact ⟨_, rfl, _, rfl, L, n, _, rfl, lf3, by omega, by omega, fin⟩
    refine ⟨_, rfl, _, _, rfl, rfl, _, rfl, ite2 (fun e => ?_) (fun e => ?_)⟩
    · exact ⟨_, rfl, _, rfl, L, n, _, rfl, lf3, by omega, by omega, fin⟩
    refine ⟨_, rfl, _, _, rfl, rfl, _, rfl, ite2 (fun e => ?_) (fun e => ?_)⟩
    · exact ⟨_, rfl, _, rfl, L, n, _, rfl, lf3, by omega, by omega, fin⟩
    · exact ⟨_, rfl, _, rfl, L, n, _, rfl, lf3, by omega, by omega, fin⟩
end
end My

set_option Elab.async false
set_option linter.all false
set_option maxRecDepth 100000
namespace My
open PySem PySem.Spec PyProof.Rows L2 GxR

/-! ### things alike -/
def Atom (x : V) : Prop := x = .non ∨ (∃ b, x = .bl b) ∨ (∃ i, x = .int i) ∨ ∃ z, x = .str z
def Eqd : Nat → Hp → V → V → Prop
  | 0, _, x, y => x = y ∧ Atom x
  | m + 1, H, x, y => (x = y ∧ Atom x) ∨ ∃ a b xs ys, x = .ref a ∧ y = .ref b ∧ ((H a = some (.tup xs) ∧ H b = some (.tup ys)) ∨ (H a = some (.lst xs) ∧ H b = some (.lst ys))) ∧
      xs.length = ys.length ∧ xs.length ≤ 10000 ∧ ∀ (i : Nat) (v u : V), xs[i]? = some v → ys[i]? = some u → Eqd m H v u
theorem Eqd.mono : ∀ {m : Nat} {H H' : Hp} {x y : V}, Same H H' → Eqd m H x y → Eqd m H' x y
  | 0, _, _, _, _, _, h => h
  | m + 1, H, H', _, _, s, .inl h => .inl h
  | m + 1, H, H', _, _, s, .inr ⟨a, b, xs, ys, e1, e2, h, l, l2, k⟩ => .inr ⟨a, b, xs, ys, e1, e2, h.imp (fun z => ⟨s _ _ z.1, s _ _ z.2⟩) (fun z => ⟨s _ _ z.1, s _ _ z.2⟩), l, l2, fun i v u e f => Eqd.mono s (k i v u e f)⟩
theorem Eqd.int {m : Nat} {H : Hp} {i : Int} : Eqd m H (.int i) (.int i) := by
  cases m with
  | zero => exact ⟨rfl, .inr (.inr (.inl ⟨i, rfl⟩))⟩
  | succ m => exact .inl ⟨rfl, .inr (.inr (.inl ⟨i, rfl⟩))⟩
theorem Eqd.up : ∀ {m : Nat} {H : Hp} {x y : V}, Eqd m H x y → Eqd (m + 1) H x y
  | 0, _, _, _, h => .inl h
  | m + 1, _, _, _, .inl h => .inl h
  | m + 1, _, _, _, .inr ⟨a, b, xs, ys, e1, e2, h, l, l2, k⟩ => .inr ⟨a, b, xs, ys, e1, e2, h, l, l2, fun i v u e f => (k i v u e f).up⟩
theorem tie_eqd {H : Hp} {v u : V} {t : Int × Int} (h : Tie H v t) (k : Tie H u t) : Eqd 1 H v u := by
  obtain ⟨p, rfl, h⟩ := h
  obtain ⟨q, rfl, k⟩ := k
  refine .inr ⟨p, q, _, _, rfl, rfl, .inl ⟨h, k⟩, rfl, by show 2 ≤ 10000; decide, fun i v u e f => ?_⟩
  match i, e, f with
  | 0, e, f => cases e; cases f; exact Eqd.int
  | 1, e, f => cases e; cases f; exact Eqd.int
theorem tup_eqd {H : Hp} {p q : Addr} {vs us : List V} {ts : List (Int × Int)} (hp : H p = some (.tup vs)) (hq : H q = some (.tup us)) (h : Ties H vs ts) (k : Ties H us ts) (l : ts.length ≤ 10000) : Eqd 2 H (.ref p) (.ref q) := by
  refine .inr ⟨p, q, vs, us, rfl, rfl, .inl ⟨hp, hq⟩, by rw [h.len, k.len], by rw [h.len]; exact l, fun i v u e f => ?_⟩
  obtain ⟨t1, e1, h1⟩ := h.at e
  obtain ⟨t2, e2, h2⟩ := k.at f
  rw [e1] at e2; cases e2
  exact tie_eqd h1 h2
theorem web_eqd {H : Hp} {v u : V} {n : Nat} {ts : List (Int × Int)} (h : Web H v n ts) (k : Web H u n ts) (l : ts.length ≤ 10000) : Eqd 3 H v u := by
  obtain ⟨p, q, vs, rfl, h1, h2, h3⟩ := h
  obtain ⟨p', q', us, rfl, k1, k2, k3⟩ := k
  refine .inr ⟨p, p', _, _, rfl, rfl, .inl ⟨h1, k1⟩, rfl, by show 2 ≤ 10000; decide, fun i v u e f => ?_⟩
  match i, e, f with
  | 0, e, f => cases e; cases f; exact Eqd.int
  | 1, e, f => cases e; cases f; exact tup_eqd h2 k2 h3 k3 l

section
variable {P : Program} {w : World} {K : PySem.W.Frag} {mg : Str → Option Value} {base : Heap}
/-! ### _law_same -/
abbrev s__law_same : Stmt := topS 18
abbrev N__law_same : List Str := ["_law_found", "_law_due", "_law_one", "_law_other"]
theorem sc__law_same : FnScope N__law_same ["_law_found", "_law_due"] (defScope s__law_same) := ⟨rfl, rfl, rfl, by decide +kernel, rfl, by decide +kernel, by decide +kernel⟩
def sp_same : Nat → Sp
  | 0 => fun _ _ _ _ => False
  | m + 1 => fun vs H Q _ => ∃ x y, vs = [x, y] ∧ Eqd m H x y ∧ ∀ H', Same H H' → Q (.bl true) H'
theorem kany {t : Value} {a b : Bool} (h1 : PySem.W.kitOne K t (.type "list") = some a) (h2 : PySem.W.kitOne K t (.type "tuple") = some b) : PySem.W.kitAny K t [.type "list", .type "tuple"] = some (a || b) := by
  refine kitAny_cons h1 (fun z => ?_) (fun z => by rw [z]; rfl)
  subst z
  exact kitAny_cons h2 (fun z => by rw [z]; rfl) (fun z => by rw [z]; rfl)
theorem all_rep (n : Nat) : (List.replicate n true).all id = true := by
  rw [List.all_eq_true]
  intro x hx
  rw [(List.mem_replicate.mp hx).2]; rfl
theorem ok_same1 {f : Addr} {fd : FuncData} {m : Nat} (B : Bts mg) (F : Fun K "_law_same" "_law_same" s__law_same f fd) (c__law_same : Cl P w K mg base m "_law_same" (sp_same m)) :
    FnOk P w K mg base CX0 (m + 1) f fd ["_law_found", "_law_due"] (sp_same (m + 1)) := by
  refine F.ok sc__law_same (fun vs H Q E h => ?_) (fun cdv A outer s H vs Q E hr h => ?_)
  · obtain ⟨x, y, rfl, _⟩ := h; rfl
  · obtain ⟨x, y, rfl, hE, q⟩ := h
    refine ⟨_, (pss_cons (ps_if (pt_val (pe_callB call_isiT (by rfl) B.isinstance (by decide +kernel) (pa_cons (pv 1) (pa_cons (pe_tup (pa_cons (pe_bltn (v := .ty "list") (by rfl) B.list (by decide +kernel) rfl) (pa_cons (pe_bltn (v := .ty "tuple") (by rfl) B.tuple (by decide +kernel) rfl) pa_nil))) pa_nil)))) (pss_cons (ps_if (PW.pt (pw_or (pt_cmpR op_ne (pe_callB call_isi (by rfl) B.isinstance (by decide +kernel) (pa_cons (pv 0) (pa_cons (pe_bltn (v := .ty "list") (by rfl) B.list (by decide +kernel) rfl) pa_nil))) (pe_callB call_isi (by rfl) B.isinstance (by decide +kernel) (pa_cons (pv 1) (pa_cons (pe_bltn (v := .ty "list") (by rfl) B.list (by decide +kernel) rfl) pa_nil))) (nomark _)) (pw_or1 (pt_cmpR op_ne (pe_callB call_isi (by rfl) B.isinstance (by decide +kernel) (pa_cons (pv 0) (pa_cons (pe_bltn (v := .ty "tuple") (by rfl) B.tuple (by decide +kernel) rfl) pa_nil))) (pe_callB call_isi (by rfl) B.isinstance (by decide +kernel) (pa_cons (pv 1) (pa_cons (pe_bltn (v := .ty "tuple") (by rfl) B.tuple (by decide +kernel) rfl) pa_nil))) (nomark _))))) (pss_one (ps_ret pe_bl)) pss_nil)
      (pss_one (ps_ret (pe_and (pe_cmpR op_eq (pe_callB call_len_seq (by rfl) B.len (by decide +kernel) (pa_cons (pv 0) pa_nil)) (pe_callB call_len_seq (by rfl) B.len (by decide +kernel) (pa_cons (pv 1) pa_nil)) (nomark _)) (pe_one (pe_callB (cr_all rfl) (by rfl) B.all (by decide +kernel) (pa_cons (pe_lc (own := [("_law_one", 2), ("_law_other", 3)]) (g := (gTup K 2 (gCons (gName 2) (gCons (gName 3) gNil)))) (tt := tYes) rfl sc__law_same.nd (RZ.pi_zipA (by rfl) B.zip (pa_cons (pv 0) (pa_cons (pv 1) pa_nil))) (blkOk_by (own := [("_law_one", 2), ("_law_other", 3)]) (N := N__law_same) (sc := defScope s__law_same) (by decide +kernel)) (fun _ _ _ _ _ => (pg_tup rfl (pgs_cons (pg_name (i := 2) sc__law_same.nd rfl (by first | exact Or.inl rfl | exact Or.inr rfl)) (pgs_cons (pg_name (i := 3) sc__law_same.nd rfl (by first | exact Or.inl rfl | exact Or.inr rfl)) pgs_nil)))) (fun _ _ _ _ _ => pts_nil) (fun _ _ _ _ _ => (pe_c c__law_same hr (Nat.le_refl _) (by rfl) (pa_cons (pv 2) (pa_cons (pv 3) pa_nil))))) pa_nil))))))) pss_nil)
    (pss_cons (ps_if (PW.pt (pw_or (pt_cmpR op_isN (pv 1) pe_non (nomark _)) (pw_or1 (pt_val (pe_callB call_isi (by rfl) B.isinstance (by decide +kernel) (pa_cons (pv 1) (pa_cons (pe_bltn (v := .ty "str") (by rfl) B.str (by decide +kernel) rfl) pa_nil))))))) (pss_one (ps_ret (pe_and (pe_cmpR op_eq (pv 0) (pv 1) (nomark _)) (pe_one (pe_cmpR op_eq (pe_callB call_isi (by rfl) B.isinstance (by decide +kernel) (pa_cons (pv 0) (pa_cons (pe_bltn (v := .ty "str") (by rfl) B.str (by decide +kernel) rfl) pa_nil))) (pe_callB call_isi (by rfl) B.isinstance (by decide +kernel) (pa_cons (pv 1) (pa_cons (pe_bltn (v := .ty "str") (by rfl) B.str (by decide +kernel) rfl) pa_nil))) (nomark _)))))) pss_nil)
    (pss_cons (ps_if (pt_val (pe_callB call_isi (by rfl) B.isinstance (by decide +kernel) (pa_cons (pv 1) (pa_cons (pe_bltn (v := .ty "bool") (by rfl) B.bool (by decide +kernel) rfl) pa_nil)))) (pss_one (ps_ret (pe_and (pe_callB call_isi (by rfl) B.isinstance (by decide +kernel) (pa_cons (pv 0) (pa_cons (pe_bltn (v := .ty "bool") (by rfl) B.bool (by decide +kernel) rfl) pa_nil))) (pe_one (pe_cmpR op_eq (pv 0) (pv 1) (nomark _)))))) pss_nil)
    (pss_one (ps_ret (pe_and (pe_callB call_isi (by rfl) B.isinstance (by decide +kernel) (pa_cons (pv 0) (pa_cons (pe_bltn (v := .ty "int") (by rfl) B.int (by decide +kernel) rfl) pa_nil))) (pe_and (pe_not (pe_callB call_isi (by rfl) B.isinstance (by decide +kernel) (pa_cons (pv 0) (pa_cons (pe_bltn (v := .ty "bool") (by rfl) B.bool (by decide +kernel) rfl) pa_nil)))) (pe_one (pe_cmpR op_eq (pv 0) (pv 1) (nomark _)))))))))), ?_⟩
    have nw : ∀ {tp : Addr} {o : HO}, H tp = none → Same H (upd H tp o) := fun h => same_new h
    have hE' : (x = y ∧ Atom x) ∨ ∃ m', m = m' + 1 ∧ ∃ a b xs ys, x = .ref a ∧ y = .ref b ∧ ((H a = some (.tup xs) ∧ H b = some (.tup ys)) ∨ (H a = some (.lst xs) ∧ H b = some (.lst ys))) ∧
        xs.length = ys.length ∧ xs.length ≤ 10000 ∧ ∀ (i : Nat) (v u : V), xs[i]? = some v → ys[i]? = some u → Eqd m' H v u := by
      cases m with
      | zero => exact .inl hE
      | succ m =>
        rcases hE with h | h
        · exact .inl h
        · exact .inr ⟨m, rfl, h⟩
    rcases hE' with ⟨e, ha⟩ | ⟨m, rfl, a, b, xs, ys, rfl, rfl, hab, hl, hl2, hk⟩
    · subst e
      rcases ha with rfl | ⟨b, rfl⟩ | ⟨i, rfl⟩ | ⟨z, rfl⟩
      · refine ⟨_, rfl, by show 2 ≤ sizeLine; decide, fun tp ntp => ⟨_, tp, _, _, _, _, rfl, upd_same, .cons (.ty _) (.cons (.ty _) .nil), .base .non, kany (a := false) (b := false) (kit_ty (by decide +kernel)) (kit_ty (by decide +kernel)), false, rfl, iteF ?_⟩⟩
        refine ⟨_, rfl, rfl, _, rfl, iteT (iteT ?_)⟩
        refine ⟨_, rfl, _, rfl, rfl, true, rfl, iteT ?_⟩
        refine ⟨_, rfl, _, _, _, _, false, rfl, .ty _, .base .non, kit_ty (by decide +kernel), ?_⟩
        refine ⟨_, rfl, _, _, _, _, false, rfl, .ty _, .base .non, kit_ty (by decide +kernel), rfl, ?_⟩
        exact q _ (nw ntp)
      · refine ⟨_, rfl, by show 2 ≤ sizeLine; decide, fun tp ntp => ⟨_, tp, _, _, _, _, rfl, upd_same, .cons (.ty _) (.cons (.ty _) .nil), .base (.bl b), kany (a := false) (b := false) (kit_ty (by decide +kernel)) (kit_ty (by decide +kernel)), false, rfl, iteF ?_⟩⟩
        refine ⟨_, rfl, rfl, _, rfl, iteF ?_⟩
        refine ⟨_, rfl, _, _, _, _, false, rfl, .ty _, .base (.bl b), kit_ty (by decide +kernel), false, rfl, iteF ?_⟩
        refine ⟨_, rfl, _, _, _, _, true, rfl, .ty _, .base (.bl b), kit_ty (by decide +kernel), true, rfl, iteT ?_⟩
        refine ⟨_, rfl, _, _, _, _, true, rfl, .ty _, .base (.bl b), kit_ty (by decide +kernel), true, rfl, iteT ?_⟩
        refine ⟨_, rfl, _, rfl, rfl, ?_⟩
        rw [decide_eq_true rfl]
        exact q _ (nw ntp)
      · refine ⟨_, rfl, by show 2 ≤ sizeLine; decide, fun tp ntp => ⟨_, tp, _, _, _, _, rfl, upd_same, .cons (.ty _) (.cons (.ty _) .nil), .base (.int i), kany (a := false) (b := false) (kit_ty (by decide +kernel)) (kit_ty (by decide +kernel)), false, rfl, iteF ?_⟩⟩
        refine ⟨_, rfl, rfl, _, rfl, iteF ?_⟩
        refine ⟨_, rfl, _, _, _, _, false, rfl, .ty _, .base (.int i), kit_ty (by decide +kernel), false, rfl, iteF ?_⟩
        refine ⟨_, rfl, _, _, _, _, false, rfl, .ty _, .base (.int i), kit_ty (by decide +kernel), false, rfl, iteF ?_⟩
        refine ⟨_, rfl, _, _, _, _, true, rfl, .ty _, .base (.int i), kit_ty (by decide +kernel), true, rfl, iteT ?_⟩
        refine ⟨_, rfl, _, _, _, _, false, rfl, .ty _, .base (.int i), kit_ty (by decide +kernel), false, rfl, true, rfl, iteT ?_⟩
        refine ⟨_, rfl, _, rfl, rfl, ?_⟩
        rw [decide_eq_true rfl]
        exact q _ (nw ntp)
      · refine ⟨_, rfl, by show 2 ≤ sizeLine; decide, fun tp ntp => ⟨_, tp, _, _, _, _, rfl, upd_same, .cons (.ty _) (.cons (.ty _) .nil), .base (.str z), kany (a := false) (b := false) (kit_ty (by decide +kernel)) (kit_ty (by decide +kernel)), false, rfl, iteF ?_⟩⟩
        refine ⟨_, rfl, rfl, _, rfl, iteF ?_⟩
        refine ⟨_, rfl, _, _, _, _, true, rfl, .ty _, .base (.str z), kit_ty (by decide +kernel), true, rfl, iteT ?_⟩
        refine ⟨_, rfl, _, rfl, rfl, _, rfl, ?_⟩
        rw [decide_eq_true rfl]
        refine iteT ⟨_, rfl, _, _, _, _, true, rfl, .ty _, .base (.str z), kit_ty (by decide +kernel), ?_⟩
        refine ⟨_, rfl, _, _, _, _, true, rfl, .ty _, .base (.str z), kit_ty (by decide +kernel), rfl, ?_⟩
        exact q _ (nw ntp)
    · rcases hab with ⟨ea, eb⟩ | ⟨ea, eb⟩
      · refine ⟨_, rfl, by show 2 ≤ sizeLine; decide, fun tp ntp => ?_⟩
        have s1 := nw (o := .tup [.ty "list", .ty "tuple"]) ntp
        have ea1 := s1 _ _ ea
        have eb1 := s1 _ _ eb
        refine ⟨_, tp, _, _, _, _, rfl, upd_same, .cons (.ty _) (.cons (.ty _) .nil), .base (.tup eb1), kany (a := false) (b := true) (kit_ty (by decide +kernel)) (kit_ty (by decide +kernel)), true, rfl, iteT ?_⟩
        refine ⟨_, rfl, _, _, _, _, false, rfl, .ty _, .base (.tup ea1), kit_ty (by decide +kernel), ?_⟩
        refine ⟨_, rfl, _, _, _, _, false, rfl, .ty _, .base (.tup eb1), kit_ty (by decide +kernel), rfl, false, rfl, iteF ?_⟩
        refine ⟨_, rfl, _, _, _, _, true, rfl, .ty _, .base (.tup ea1), kit_ty (by decide +kernel), ?_⟩
        refine ⟨_, rfl, _, _, _, _, true, rfl, .ty _, .base (.tup eb1), kit_ty (by decide +kernel), rfl, false, rfl, iteF ?_⟩
        refine ⟨_, rfl, a, xs, rfl, .inr (SqT.of ea1), _, rfl, b, ys, rfl, .inr (SqT.of eb1), rfl, _, rfl, ?_⟩
        rw [decide_eq_true (by rw [hl])]
        refine iteT ⟨_, rfl, _, rfl, a, b, xs, ys, rfl, .inr ⟨SqT.of ea1, SqT.of eb1, fun D nD => ?_⟩⟩
        refine lc_it (walk_zipT (K := K) (a := a) (b := b) (xs := xs) (ys := ys) rfl) (fun i H2 => Same (upd H tp (.tup [.ty "list", .ty "tuple"])) H2 ∧ H2 D = some (.lst ((List.replicate i true).map V.bl))) ⟨same_new nD, upd_same⟩ ?_ ?_ ?_
        · rintro i H2 _ ⟨s2, _⟩
          exact ⟨SqT.of (s2 _ _ ea1), SqT.of (s2 _ _ eb1)⟩
        · rintro i v H2 H3 hi ⟨s2, eD⟩ ⟨T, x1, x2, rfl, nT, rfl, ex1, ex2⟩
          refine ⟨T, _, rfl, SqT.of upd_same, rfl, _, _, rfl, _, _, rfl, rfl, rfl, yes ?_⟩
          have s3 := s2.trans (same_new (o := .tup [x1, x2]) nT)
          refine ⟨_, rfl, _, rfl, x1, x2, rfl, (hk i x1 x2 ex1 ex2).mono (s1.trans s3), fun H4 s4 => ?_⟩
          have eD4 := s4 _ _ ((same_new (o := .tup [x1, x2]) nT) _ _ eD)
          refine ⟨_, eD4, sz' (by rw [List.length_map, List.length_replicate]; omega), Same.put (s3.trans s4) nD, ?_⟩
          rw [upd_same, List.replicate_succ', List.map_append]; rfl
        · rintro H2 ⟨s2, eD⟩
          refine ⟨D, _, rfl, SqL.of eD, ?_⟩
          rw [all_rep]
          exact q _ (s1.trans s2)
      · refine ⟨_, rfl, by show 2 ≤ sizeLine; decide, fun tp ntp => ?_⟩
        have s1 := nw (o := .tup [.ty "list", .ty "tuple"]) ntp
        have ea1 := s1 _ _ ea
        have eb1 := s1 _ _ eb
        refine ⟨_, tp, _, _, _, _, rfl, upd_same, .cons (.ty _) (.cons (.ty _) .nil), .base (.lst eb1), kany (a := true) (b := false) (kit_ty (by decide +kernel)) (kit_ty (by decide +kernel)), true, rfl, iteT ?_⟩
        refine ⟨_, rfl, _, _, _, _, true, rfl, .ty _, .base (.lst ea1), kit_ty (by decide +kernel), ?_⟩
        refine ⟨_, rfl, _, _, _, _, true, rfl, .ty _, .base (.lst eb1), kit_ty (by decide +kernel), rfl, false, rfl, iteF ?_⟩
        refine ⟨_, rfl, _, _, _, _, false, rfl, .ty _, .base (.lst ea1), kit_ty (by decide +kernel), ?_⟩
        refine ⟨_, rfl, _, _, _, _, false, rfl, .ty _, .base (.lst eb1), kit_ty (by decide +kernel), rfl, false, rfl, iteF ?_⟩
        refine ⟨_, rfl, a, xs, rfl, .inl (SqL.of ea1), _, rfl, b, ys, rfl, .inl (SqL.of eb1), rfl, _, rfl, ?_⟩
        rw [decide_eq_true (by rw [hl])]
        refine iteT ⟨_, rfl, _, rfl, a, b, xs, ys, rfl, .inl ⟨SqL.of ea1, SqL.of eb1, fun D nD => ?_⟩⟩
        refine lc_it (walk_zip (K := K) (a := a) (b := b) (xs := xs) (ys := ys) rfl) (fun i H2 => Same (upd H tp (.tup [.ty "list", .ty "tuple"])) H2 ∧ H2 D = some (.lst ((List.replicate i true).map V.bl))) ⟨same_new nD, upd_same⟩ ?_ ?_ ?_
        · rintro i H2 _ ⟨s2, _⟩
          exact ⟨SqL.of (s2 _ _ ea1), SqL.of (s2 _ _ eb1)⟩
        · rintro i v H2 H3 hi ⟨s2, eD⟩ ⟨T, x1, x2, rfl, nT, rfl, ex1, ex2⟩
          refine ⟨T, _, rfl, SqT.of upd_same, rfl, _, _, rfl, _, _, rfl, rfl, rfl, yes ?_⟩
          have s3 := s2.trans (same_new (o := .tup [x1, x2]) nT)
          refine ⟨_, rfl, _, rfl, x1, x2, rfl, (hk i x1 x2 ex1 ex2).mono (s1.trans s3), fun H4 s4 => ?_⟩
          have eD4 := s4 _ _ ((same_new (o := .tup [x1, x2]) nT) _ _ eD)
          refine ⟨_, eD4, sz' (by rw [List.length_map, List.length_replicate]; omega), Same.put (s3.trans s4) nD, ?_⟩
          rw [upd_same, List.replicate_succ', List.map_append]; rfl
        · rintro H2 ⟨s2, eD⟩
          refine ⟨D, _, rfl, SqL.of eD, ?_⟩
          rw [all_rep]
          exact q _ (s1.trans s2)
theorem ok_same {f : Addr} {fd : FuncData} (B : Bts mg) (F : Fun K "_law_same" "_law_same" s__law_same f fd) (hm : mg "_law_same" = some (.ref f)) (hb : Binds K fd ["_law_found", "_law_due"] []) :
    ∀ m, FnOk P w K mg base CX0 m f fd ["_law_found", "_law_due"] (sp_same m)
  | 0 => ⟨fun _ _ _ _ h => h.elim, fun _ _ _ _ _ _ _ _ _ _ _ _ _ h => h.elim⟩
  | m + 1 => ok_same1 B F (Cl.mk' F hm hb (ok_same B F hm hb m))
end
end My

set_option Elab.async false
set_option linter.all false
set_option maxRecDepth 100000
namespace My
open PySem PySem.Spec PyProof.Rows L2 GxR

/-! ### dict comprehensions over what is walked -/
theorem dc_it {J : It} {n : Nat} {G : Hp → Prop} {Y : Nat → Hp → V → Hp → Prop} (w : Walk J n G Y) {g : TG} {tt : TT} {tk tv : TE} {vs : List Nat} {σ : L2.St} {H1 : Hp} {D : Addr} {Qd : Hp → Prop} (Pv : Nat → Hp → Prop)
    (h0 : Pv 0 (upd H1 D (.dK []))) (hG : ∀ i H, i ≤ n → Pv i H → G H)
    (hs : ∀ i x H H', i < n → Pv i H → Y i H x H' → g x (wipe σ vs) H' fun σ2 H2 => wipe σ2 vs = wipe σ vs ∧ tt σ2 H2 fun b H3 =>
      if b = true then tk σ2 H3 fun y H4 => tv σ2 H4 fun z H5 => ∃ kvs k, y = kV k ∧ H5 D = some (.dK kvs) ∧ kvs.length < sizeLine ∧ Pv (i + 1) (upd H5 D (.dK (putK kvs k z))) else Pv (i + 1) H3)
    (hd : ∀ H, Pv n H → Qd H) :
    ∃ W : Nat → Nat → Hp → Prop, (∃ m, W 0 m (upd H1 D (.dK []))) ∧ ∀ i m H, W i m H → (J.stop i H ∧ Qd H) ∨
      (J.go i H ∧ ∃ Nx : Hp → Prop, (∀ H', Nx H' → ∃ m', m' < m ∧ W (i + 1) m' H') ∧ ∀ x H', J.yld i H x H' → g x (wipe σ vs) H' fun σ2 H2 => wipe σ2 vs = wipe σ vs ∧ tt σ2 H2 fun b H3 =>
        if b = true then tk σ2 H3 fun y H4 => tv σ2 H4 fun z H5 => ∃ kvs k, y = kV k ∧ H5 D = some (.dK kvs) ∧ kvs.length < sizeLine ∧ Nx (upd H5 D (.dK (putK kvs k z))) else Nx H3) := by
  refine ⟨fun i m H => m = n - i ∧ i ≤ n ∧ Pv i H, ⟨n, rfl, Nat.zero_le _, h0⟩, ?_⟩
  rintro i m H ⟨rfl, hi, p⟩
  have q := hG i H hi p
  by_cases hlt : i < n
  · exact .inr ⟨w.goes i H hlt q, Pv (i + 1), fun H' p' => ⟨n - (i + 1), by omega, rfl, hlt, p'⟩, fun x H' y => hs i x H H' hlt p (w.yields i H x H' hlt q y)⟩
  · have e : i = n := by omega
    subst e
    exact .inl ⟨w.stops H q, hd H p⟩

/-! ### what a dict tells behind a store -/
theorem valV_put {κ : Type} [DecidableEq κ] (kvs : List (κ × V)) (k : κ) (v : V) (j : κ) : valV (putK kvs k v) j = if j = k then some v else valV kvs j := by
  unfold putK
  by_cases h : (kvs.any fun kv => decide (kv.1 = k)) = true
  · rw [if_pos h]
    induction kvs with
    | nil => cases h
    | cons p r ih =>
      rw [List.map_cons]
      by_cases hp : p.1 = k
      · rw [if_pos hp]
        by_cases hj : j = k
        · rw [if_pos hj, valV_pos (by rw [hj]; exact hp)]
        · rw [if_neg hj, valV_neg (fun z => hj (by rw [← z]; exact hp)), valV_neg (fun z => hj (by rw [← z]; exact hp))]
          by_cases hr : (r.any fun kv => decide (kv.1 = k)) = true
          · have := ih hr
            rw [if_neg hj] at this
            exact this
          · have : (r.map fun kv => if kv.1 = k then (kv.1, v) else kv) = r := by
              clear ih h
              induction r with
              | nil => rfl
              | cons q s ih2 =>
                rw [List.any_cons, Bool.or_eq_true] at hr
                have h1 : ¬ q.1 = k := fun z => hr (.inl (decide_eq_true z))
                have h2 : ¬ (s.any fun kv => decide (kv.1 = k)) = true := fun z => hr (.inr z)
                rw [List.map_cons, if_neg h1, ih2 h2]
            rw [this]
      · rw [if_neg hp]
        rw [List.any_cons, decide_eq_false hp, Bool.false_or] at h
        have := ih h
        by_cases hj : p.1 = j
        · rw [valV_pos hj, valV_pos hj, if_neg (fun z => hp (by rw [hj]; exact z))]
        · rw [valV_neg hj, valV_neg hj]; exact this
  · rw [if_neg h]
    induction kvs with
    | nil =>
      rw [List.nil_append]
      by_cases hj : j = k
      · rw [if_pos hj, valV_pos hj.symm]
      · rw [if_neg hj, valV_neg (fun z => hj z.symm)]
    | cons p r ih =>
      rw [List.any_cons, Bool.or_eq_true] at h
      have h1 : ¬ p.1 = k := fun z => h (.inl (decide_eq_true z))
      have h2 : ¬ (r.any fun kv => decide (kv.1 = k)) = true := fun z => h (.inr z)
      rw [List.cons_append]
      by_cases hj : p.1 = j
      · rw [valV_pos hj, valV_pos hj, if_neg (fun z => h1 (by rw [hj]; exact z))]
      · rw [valV_neg hj, valV_neg hj]; exact ih h2
theorem len_put {κ : Type} [DecidableEq κ] (kvs : List (κ × V)) (k : κ) (v : V) : (putK kvs k v).length ≤ kvs.length + 1 := by
  unfold putK
  split
  · rw [List.length_map]; exact Nat.le_succ _
  · rw [List.length_append]; exact Nat.le_refl _

/-! ### rising lists of places, parts of webs -/
def Ris (n : Nat) (pl : List Int) : Prop := pl.Pairwise (· < ·) ∧ ∀ p ∈ pl, 0 ≤ p ∧ p < (n : Int)
theorem Ris.nodup {n : Nat} {pl : List Int} (h : Ris n pl) : pl.Nodup := List.nodup_iff_pairwise_ne.mpr (h.1.imp fun {a b} z e => by omega)
theorem Ris.len {n : Nat} {pl : List Int} (h : Ris n pl) : pl.length ≤ n := by
  have := nd_len (m := up n) h.nodup fun x hx => mem_up.mpr (h.2 x hx)
  rwa [up_len] at this
theorem idx_get {pl : List Int} {a : Int} (h : a ∈ pl) : pl[pl.idxOf a]? = some a := by
  have hl := List.idxOf_lt_length_of_mem h
  rw [List.getElem?_eq_getElem hl, List.getElem_idxOf hl]
theorem idx_of {pl : List Int} (nd : pl.Nodup) {i : Nat} {a : Int} (h : pl[i]? = some a) : pl.idxOf a = i := by
  obtain ⟨hi, e⟩ := List.getElem?_eq_some_iff.mp h
  have hm : a ∈ pl := List.mem_of_getElem? h
  have hl := List.idxOf_lt_length_of_mem hm
  have e2 := List.getElem_idxOf hl
  have pw := List.pairwise_iff_getElem.mp (List.nodup_iff_pairwise_ne.mp nd)
  rcases Nat.lt_trichotomy (pl.idxOf a) i with z | z | z
  · exact absurd (e2.trans e.symm) (pw _ _ hl hi z)
  · exact z
  · exact absurd (e.trans e2.symm) (pw _ _ hi hl z)
theorem ris_lt {n : Nat} {pl : List Int} (h : Ris n pl) {i j : Nat} {a b : Int} (hi : pl[i]? = some a) (hj : pl[j]? = some b) : i < j ↔ a < b := by
  obtain ⟨li, ei⟩ := List.getElem?_eq_some_iff.mp hi
  obtain ⟨lj, ej⟩ := List.getElem?_eq_some_iff.mp hj
  have pw := List.pairwise_iff_getElem.mp h.1
  constructor
  · intro z
    have := pw i j li lj z
    omega
  · intro z
    rcases Nat.lt_trichotomy i j with c | c | c
    · exact c
    · subst c; omega
    · have := pw j i lj li c
      omega
def partL (ts : List (Int × Int)) (pl : List Int) : List (Int × Int) :=
  (ts.filter fun t => decide (t.1 ∈ pl) && decide (t.2 ∈ pl)).map fun t => ((pl.idxOf t.1 : Int), (pl.idxOf t.2 : Int))
theorem mem_part {ts : List (Int × Int)} {pl : List Int} (nd : pl.Nodup) {t : Int × Int} : t ∈ partL ts pl ↔
    ∃ (i j : Nat) (a b : Int), t = ((i : Int), (j : Int)) ∧ pl[i]? = some a ∧ pl[j]? = some b ∧ (a, b) ∈ ts := by
  unfold partL
  rw [List.mem_map]
  constructor
  · rintro ⟨s, hs, rfl⟩
    obtain ⟨h1, h2⟩ := List.mem_filter.mp hs
    rw [Bool.and_eq_true, decide_eq_true_eq, decide_eq_true_eq] at h2
    exact ⟨_, _, s.1, s.2, rfl, idx_get h2.1, idx_get h2.2, h1⟩
  · rintro ⟨i, j, a, b, rfl, hi, hj, h⟩
    refine ⟨(a, b), List.mem_filter.mpr ⟨h, ?_⟩, ?_⟩
    · rw [Bool.and_eq_true, decide_eq_true_eq, decide_eq_true_eq]
      exact ⟨List.mem_of_getElem? hi, List.mem_of_getElem? hj⟩
    · dsimp only
      rw [idx_of nd hi, idx_of nd hj]
theorem part_pw {n : Nat} {ts : List (Int × Int)} {pl : List Int} (hp : Ris n pl) (hw : ts.Pairwise ltT) : (partL ts pl).Pairwise ltT := by
  unfold partL
  rw [List.pairwise_map]
  refine (hw.sublist List.filter_sublist).imp_of_mem fun {s t} hs ht h => ?_
  have h1 := (List.mem_filter.mp hs).2
  have h2 := (List.mem_filter.mp ht).2
  rw [Bool.and_eq_true, decide_eq_true_eq, decide_eq_true_eq] at h1 h2
  have l1 := ris_lt hp (idx_get h1.1) (idx_get h2.1)
  have l2 := ris_lt hp (idx_get h1.2) (idx_get h2.2)
  rcases h with h | ⟨h, k⟩
  · exact .inl (by have := l1.mpr h; dsimp only; omega)
  · refine .inr ⟨by dsimp only; rw [h], ?_⟩
    have := l2.mpr k
    dsimp only; omega
theorem part_wok {n : Nat} {ts : List (Int × Int)} {pl : List Int} (hp : Ris n pl) (hw : WOk n ts) : WOk pl.length (partL ts pl) := by
  refine ⟨part_pw hp hw.1, fun t ht => ?_⟩
  obtain ⟨i, j, a, b, rfl, hi, hj, h⟩ := (mem_part hp.nodup).mp ht
  have hb := hw.2 _ h
  have l := ris_lt hp hi hj
  have := l.mpr hb.2.1
  have := (List.getElem?_eq_some_iff.mp hj).1
  dsimp only
  omega
theorem part_len {ts : List (Int × Int)} {pl : List Int} : (partL ts pl).length ≤ ts.length := by
  unfold partL; rw [List.length_map]; exact List.length_filter_le _ _
theorem ris_up (n : Nat) : Ris n (up n) := by
  refine ⟨?_, fun p hp => mem_up.mp hp⟩
  unfold up
  rw [List.pairwise_map]
  exact List.pairwise_lt_range.imp fun h => by omega
theorem up_get {n i : Nat} (h : i < n) : (up n)[i]? = some (i : Int) := by
  unfold up
  rw [List.getElem?_map, List.getElem?_range h]; rfl
theorem part_up {n : Nat} {ts : List (Int × Int)} (hw : WOk n ts) : partL ts (up n) = ts := by
  refine pw_eq (part_pw (ris_up n) hw.1) hw.1 fun t => ?_
  rw [mem_part (ris_up n).nodup]
  constructor
  · rintro ⟨i, j, a, b, rfl, hi, hj, h⟩
    have li : i < n := by have := (List.getElem?_eq_some_iff.mp hi).1; rwa [up_len] at this
    have lj : j < n := by have := (List.getElem?_eq_some_iff.mp hj).1; rwa [up_len] at this
    rw [up_get li] at hi
    rw [up_get lj] at hj
    cases hi; cases hj
    exact h
  · intro h
    have b := hw.2 t h
    refine ⟨t.1.toNat, t.2.toNat, t.1, t.2, ?_, ?_, ?_, h⟩
    · cases t with | mk x y => dsimp only at b ⊢; congr 1 <;> omega
    · rw [up_get (by omega)]; congr 1; omega
    · rw [up_get (by omega)]; congr 1; omega
theorem part_nil (ts : List (Int × Int)) : partL ts [] = [] := by
  unfold partL
  have : (ts.filter fun t => decide (t.1 ∈ ([] : List Int)) && decide (t.2 ∈ ([] : List Int))) = [] := by
    rw [List.filter_eq_nil_iff]; intro a _; simp
  rw [this]; rfl
/-- some of the places -/
def pick (pl inn : List Int) : List Int := inn.map fun p => pl.getD p.toNat 0
theorem pick_get {pl inn : List Int} {n : Nat} (hi : Ris pl.length inn) {i : Nat} {p : Int} (h : inn[i]? = some p) : ∃ a, pl[p.toNat]? = some a ∧ (pick pl inn)[i]? = some a := by
  have b := hi.2 p (List.mem_of_getElem? h)
  have hl : p.toNat < pl.length := by omega
  refine ⟨pl[p.toNat], List.getElem?_eq_getElem hl, ?_⟩
  unfold pick
  rw [List.getElem?_map, h]
  show some (pl.getD p.toNat 0) = _
  rw [List.getD_eq_getElem?_getD, List.getElem?_eq_getElem hl]; rfl
theorem pick_ris {n : Nat} {pl inn : List Int} (hp : Ris n pl) (hi : Ris pl.length inn) : Ris n (pick pl inn) := by
  refine ⟨?_, fun x hx => ?_⟩
  · rw [List.pairwise_iff_getElem]
    intro i j li lj hij
    have li' : i < inn.length := by unfold pick at li; rwa [List.length_map] at li
    have lj' : j < inn.length := by unfold pick at lj; rwa [List.length_map] at lj
    obtain ⟨a, ha, ga⟩ := pick_get (n := n) hi (List.getElem?_eq_getElem li')
    obtain ⟨b, hb, gb⟩ := pick_get (n := n) hi (List.getElem?_eq_getElem lj')
    rw [List.getElem?_eq_getElem li] at ga
    rw [List.getElem?_eq_getElem lj] at gb
    have e1 := Option.some.inj ga
    have e2 := Option.some.inj gb
    rw [e1, e2]
    have := (List.pairwise_iff_getElem.mp hi.1) i j li' lj' hij
    have b1 := hi.2 _ (List.getElem_mem li')
    have b2 := hi.2 _ (List.getElem_mem lj')
    exact (ris_lt hp ha hb).mp (by omega)
  · unfold pick at hx
    obtain ⟨p, hp', rfl⟩ := List.mem_map.mp hx
    have b := hi.2 p hp'
    have hl : p.toNat < pl.length := by omega
    rw [List.getD_eq_getElem?_getD, List.getElem?_eq_getElem hl]
    exact hp.2 _ (List.getElem_mem hl)
theorem part_part {n : Nat} {ts : List (Int × Int)} {pl inn : List Int} (hw : ts.Pairwise ltT) (hp : Ris n pl) (hi : Ris pl.length inn) :
    partL (partL ts pl) inn = partL ts (pick pl inn) := by
  have hq := pick_ris hp hi
  refine pw_eq (part_pw hi (part_pw hp hw)) (part_pw hq hw) fun t => ?_
  rw [mem_part hi.nodup, mem_part hq.nodup]
  constructor
  · rintro ⟨i, j, a, b, rfl, h1, h2, h3⟩
    obtain ⟨i', j', a', b', e, k1, k2, k3⟩ := (mem_part hp.nodup).mp h3
    cases e
    obtain ⟨x, hx, gx⟩ := pick_get (n := n) hi h1
    obtain ⟨y, hy, gy⟩ := pick_get (n := n) hi h2
    rw [Int.toNat_natCast, k1] at hx
    rw [Int.toNat_natCast, k2] at hy
    cases hx; cases hy
    exact ⟨i, j, _, _, rfl, gx, gy, k3⟩
  · rintro ⟨i, j, a, b, rfl, h1, h2, h3⟩
    have li : i < inn.length := by have := (List.getElem?_eq_some_iff.mp h1).1; unfold pick at this; rwa [List.length_map] at this
    have lj : j < inn.length := by have := (List.getElem?_eq_some_iff.mp h2).1; unfold pick at this; rwa [List.length_map] at this
    obtain ⟨x, hx, gx⟩ := pick_get (n := n) hi (List.getElem?_eq_getElem li)
    obtain ⟨y, hy, gy⟩ := pick_get (n := n) hi (List.getElem?_eq_getElem lj)
    rw [h1] at gx
    rw [h2] at gy
    cases gx; cases gy
    have b1 := hi.2 _ (List.getElem_mem li)
    have b2 := hi.2 _ (List.getElem_mem lj)
    refine ⟨i, j, inn[i], inn[j], rfl, List.getElem?_eq_getElem li, List.getElem?_eq_getElem lj, (mem_part hp.nodup).mpr ⟨inn[i].toNat, inn[j].toNat, a, b, ?_, hx, hy, h3⟩⟩
    congr 1 <;> omega
end My

set_option Elab.async false
set_option linter.all false
set_option maxRecDepth 100000
namespace My
open PySem PySem.Spec PyProof.Rows L2 GxR

/-! ### dict comprehensions with keys of any kind (DPut) -/
section
variable {X : Cx}
theorem d_dictPut {pins : List (Addr × Obj)} {σ : L2.St} {H H' : Hp} {s : Shared} {E : Value → Shared → Prop} {D : Addr} {y v : V} {u r : Value} {Q : Unit → Shared → Prop} (hu : X.A.units + 1 < cLine) (I : Inv X pins σ H s) (g : DPut H D y v H')
    (ry : RelV y u) (rv : RelV v r) (h : ∀ s', Inv X pins σ H' s' → Q () s') : wpAny (model X.prog X.w) X.A (dictSet D u r) Q E s := by
  rcases g with ⟨kvs, k, e, rfl, l, rfl⟩ | ⟨kvs, k, b, e, rfl, eb, l, rfl⟩
  · exact d_dictSet I e l ry rv h
  · cases (show u = Value.ref b from ry)
    obtain ⟨z, hd, xs, rel, dd⟩ := dt_of I.hok e
    have hz : xs.length ≤ sizeLine := by
      rw [← Paired.length rel]; exact z
    have hp := length_putK kvs k v
    refine wpAny_dictSet_heap (hsz := hz) (show X.A.units < cLine from Nat.lt_of_succ_lt hu) (L2.key_of I.hok eb) dd fun h' dd' hs => h _ ?_
    obtain ⟨q, es, ep, hq, h2, h3, h4, _, h5⟩ := dd'
    refine d_write I (by rw [e]; exact True.intro) hs ⟨q, hq⟩ ⟨by omega, hd, _, (rel.put k eb rv).keeps fun c ys ec => ?_, q, es, ep, hq, h2, h3, h4, h5⟩
    rw [upd_ne (ne_of ec e (fun z => nomatch z))]; exact ec
/-- the turn behind what is yielded -/
def dcStep (g : TG) (tt : TT) (tk tv : TE) (vs : List Nat) (σ : L2.St) (D : Addr) (Nx : Hp → Prop) (x : V) (H' : Hp) : Prop :=
  g x (wipe σ vs) H' fun σ2 H2 => wipe σ2 vs = wipe σ vs ∧ tt σ2 H2 fun b H3 => if b = true then tk σ2 H3 fun y H4 => tv σ2 H4 fun z H5 => ∃ H6, DPut H5 D y z H6 ∧ Nx H6 else Nx H3
def tDcP (o0 : HO) (wi : TI) (g : TG) (tt : TT) (tk tv : TE) (vs : List Nat) : TE := fun σ H Q => wi σ H fun J H1 => ∀ D, H1 D = none → ∃ W : Nat → Nat → Hp → Prop, (∃ m, W 0 m (upd H1 D o0)) ∧ ∀ i m H, W i m H →
  (J.stop i H ∧ Q (.ref D) H) ∨ (J.go i H ∧ ∃ Nx : Hp → Prop, (∀ H', Nx H' → ∃ m', m' < m ∧ W (i + 1) m' H') ∧ ∀ x H', J.yld i H x H' → dcStep g tt tk tv vs σ D Nx x H')
/-- a new empty dict may be read so -/
def Empt (o0 : HO) : Prop := ∀ (P : Program) (w : World) (H : Hp) (h : Heap), sysModules < h.objs.size → ObjOk P w H (h.push { cls := .type "dict", data := .dict #[] }) h.objs.size o0
theorem empt_dK : Empt (.dK []) := fun _ _ _ h hb => dk_empty h hb
theorem empt_dT : Empt (.dT []) := fun _ _ _ h hb => dt_empty h hb
abbrev inCell (X : Cx) (s : Shared) (scope : Scope) : Env := compEnvC scope (cellsFrom (s.heap.objs.size + 1) scope.names (cloFrom X.env.cells scope.names [])) s.heap.objs.size X.env
theorem pe_dcP {o0 : HO} {kx vx tg iter : Expr} {ifs : List Expr} {scope : Scope} {own : List (Str × Nat)} {pos : Pos} {wi : TI} {g : TG} {tt : TT} {tk tv : TE} (em : Empt o0) (hu : X.A.units + 1 < cLine) (hc : X.calm = true) (hN : X.N.Nodup) (hi : PI X tg iter wi) (ok : BlkOk X.N X.env.scope scope own)
    (hg : ∀ (s : Shared) (H : Hp) (C : Addr) (cl : List (Str × Addr)) (fp : List Addr), PG (X.blk s H scope (compEnvC scope cl C X.env) fp) tg g)
    (ht : ∀ (s : Shared) (H : Hp) (C : Addr) (cl : List (Str × Addr)) (fp : List Addr), PTs (X.blk s H scope (compEnvC scope cl C X.env) fp) ifs tt)
    (hk : ∀ (s : Shared) (H : Hp) (C : Addr) (cl : List (Str × Addr)) (fp : List Addr), PE (X.blk s H scope (compEnvC scope cl C X.env) fp) kx tk)
    (he : ∀ (s : Shared) (H : Hp) (C : Addr) (cl : List (Str × Addr)) (fp : List Addr), PE (X.blk s H scope (compEnvC scope cl C X.env) fp) vx tv) (hs : ∀ x, foldedSetIterable iter X.env x = pure x := by intro _; rfl) :
    PE X (.DictComp kx vx [⟨tg, iter, ifs, 0⟩] scope pos) (tDcP o0 wi g tt tk tv (own.map (·.2))) := by
  refine ⟨fun pins s σ H Q I h => ?_⟩
  rw [arm_eval_DictComp]
  have fr : ∀ y ∈ scope.names, y.2 = .free → ∃ c, X.env.cells.lookup y.1 = some c := fun y hy e => (ok.free y hy e).elim (fun k => I.ok.has _ (.inl k)) fun k => I.ok.has _ (.inr k)
  refine wpAny_comprehension_free rfl hs (closure_ok fr) ok.kind (fun y hy e => by rw [ok.uniq y hy, e]) ?_
  refine thn (hi.run pins s σ H _ I h) fun _ _ hx => thn hx fun _ s2 h2 => ?_
  obtain ⟨it, fp, tn, J, H2, rfl, I2, T, st2, f2, q⟩ := h2
  refine wpAny_newObj_type (newEnv_comp ?_)
  generalize hD : s2.heap.objs.size = D
  obtain ⟨W, ⟨m0, w0⟩, turn⟩ := q D (I2.hok.fresh (Nat.le_of_eq hD))
  generalize hs3 : (⟨s2.heap.push { cls := .type "dict", data := .dict #[] }, s2.gens, s2.drawn, s2.toks, s2.os⟩ : Shared) = s3
  have I3 : Inv X pins σ (upd H2 D o0) s3 := by
    rw [← hs3]
    refine I2.laid (t' := s2.toks) (fun b o e => Heap.get?_push_of_some _ e) (Nat.le_of_eq hD) ?_
    rw [← hD]; exact em _ _ _ _ I2.big
  have h3 : s3.heap = s2.heap.push { cls := .type "dict", data := .dict #[] } := by rw [← hs3]
  have f3 : ∀ b ∈ fp, FpOk X pins (upd H2 D o0) b ∧ b < s3.heap.objs.size := fun b hb => by
    obtain ⟨o, e, _⟩ := T.obj _ _ st2 b hb
    have hlt := Heap.lt_size e
    refine ⟨⟨?_, (f2 b hb).2⟩, by rw [h3, Heap.size_push]; exact Nat.lt_succ_of_lt hlt⟩
    rw [upd_ne (by rw [← hD]; exact Nat.ne_of_lt hlt)]; exact (f2 b hb).1
  have st3 : tn 0 s3.heap := T.keep _ _ _ st2 fun b _ o e => by rw [h3]; exact Heap.get?_push_of_some _ e
  have I4 := block_start I3 ok hN f3
  have pg := hg s3 (upd H2 D o0) s3.heap.objs.size (cellsFrom (s3.heap.objs.size + 1) scope.names (cloFrom X.env.cells scope.names [])) fp
  have pt := ht s3 (upd H2 D o0) s3.heap.objs.size (cellsFrom (s3.heap.objs.size + 1) scope.names (cloFrom X.env.cells scope.names [])) fp
  have pk := hk s3 (upd H2 D o0) s3.heap.objs.size (cellsFrom (s3.heap.objs.size + 1) scope.names (cloFrom X.env.cells scope.names [])) fp
  have pe := he s3 (upd H2 D o0) s3.heap.objs.size (cellsFrom (s3.heap.objs.size + 1) scope.names (cloFrom X.env.cells scope.names [])) fp
  refine (?_ : codeAny _ _ (.compStart (.DictComp kx vx [⟨tg, iter, ifs, 0⟩] scope pos) 0 (.ref it) (.ref D) (inCell X s3 scope)) (compPost (model X.prog X.w) X.A X.xe none (fun v s' => ∃ x H', Inv X pins σ H' s' ∧ RelV x v ∧ Q x H') (.ref D) s3.heap.objs.size) { s3 with heap := pushCells (s3.heap.push { cls := .type "dict", data := .dict #[] }) scope.names })
  have nfp : ∀ b ∈ fp, (upd H2 D o0) b = none := fun b hb => (f3 b hb).1.1
  obtain ⟨ce, hce⟩ : ∃ ce, inCell X s3 scope = ce := ⟨_, rfl⟩
  have cL : ce.locals = s3.heap.objs.size := by rw [← hce]; rfl
  rw [show compEnvC scope (cellsFrom (s3.heap.objs.size + 1) scope.names (cloFrom X.env.cells scope.names [])) s3.heap.objs.size X.env = ce from hce] at I4 pg pt pk pe
  rw [hce]
  generalize upd H2 D o0 = H3 at I3 I4 pg pt pk pe w0 nfp f3
  obtain ⟨s4, hs4⟩ : ∃ s4 : Shared, { s3 with heap := pushCells (s3.heap.push { cls := .type "dict", data := .dict #[] }) scope.names } = s4 := ⟨_, rfl⟩
  rw [hs4] at I4 ⊢
  have st4 : tn 0 s4.heap := T.keep _ _ _ st3 fun b _ o e => by
    rw [← hs4]; exact pushCells_keeps _ _ _ _ (Heap.get?_push_of_some _ e)
  let Y := X.blk s3 H3 scope ce fp
  have stat : ∀ {σ' : L2.St} {H' : Hp} {s' : Shared}, Inv Y [] σ' H' s' → (∀ b ∈ fp, H' b = none) → ∀ b ∈ fp, FpOk Y [] H' b := fun {σ' H' s'} I' hn b hb =>
    ⟨hn b hb, (I'.ok.exf b hb).1, I'.ok.exfs b hb, .inl hb, fun x c e => (I'.ok.exf b hb).2 x c e, fun p hp => absurd (show p ∈ ([] : List (Addr × Obj)) ++ [] from hp) (by simp)⟩
  let Z : Nat → Shared → Prop := fun n s' => ∃ i H', Inv Y [] (wipe σ (own.map (·.2))) H' s' ∧ tn i s'.heap ∧ (∀ b ∈ fp, H' b = none) ∧ W i n H'
  have loop : codeAny (model X.prog X.w) X.A (.compLoop (.DictComp kx vx [⟨tg, iter, ifs, 0⟩] scope pos) 0 (.ref it) (.ref D) ce) (compPost (model X.prog X.w) X.A X.xe none (fun v s' => ∃ x H', Inv X pins σ H' s' ∧ RelV x v ∧ Q x H') (.ref D) s3.heap.objs.size) s4 := by
    refine compLoop_anyD Z ?_ m0 ⟨0, H3, I4, st4, nfp, w0⟩
    rintro n s5 ⟨i, H5, I5, st5, n5, w5⟩
    rcases turn i n H5 w5 with ⟨stop, qq⟩ | ⟨go, Nx, hNx, step⟩
    · refine thnF (T.done Y rfl rfl rfl hc i [] s5 _ H5 (fun _ _ => False) I5 (stat I5 n5) st5 stop) fun r s6 ⟨hr, I6⟩ => ?_
      subst hr
      have I7 : Inv X pins σ H5 s6 := I3.call' (ch := fp) I6.os I6.base I6.hok I6.bare fun b hb => (fun (z : FpOk X pins H3 b) => ⟨z.2.2.2.1, z.2.1, z.2.2.2.2.1, z.2.2.2.2.2⟩) (f3 b hb).1
      have nC : H5 s3.heap.objs.size = none := by
        rw [← cL]; exact I6.free
      obtain ⟨m, hn, _⟩ := I6.loc
      have hn' : s6.heap.Ns s3.heap.objs.size m := by
        rw [← cL]; exact hn
      obtain ⟨e0, e1, e2, e3, e4, e5⟩ : FpOk X pins H5 s3.heap.objs.size := I3.fpOk (Nat.le_refl _) nC
      exact ⟨m, hn', fun h'' sb => ⟨.ref D, H5, I7.turned (t' := s6.toks) (fun b o hb e => (sb.2 b hb).trans e) e0 e1 e3 e4 e5, rfl, qq⟩⟩
    · refine thnF (T.item Y rfl rfl rfl hc i [] s5 _ H5 (fun _ _ => False) I5 (stat I5 n5) st5 go) fun r s6 ⟨u, hr, h6⟩ => ?_
      subst hr
      refine thnF h6 fun _ s7 ⟨x, H7, I7, r7, y7, st7, n7⟩ => ?_
      refine thnF (pg.run _ s7 _ H7 x u _ (I7.pinned (stat I7 n7) (T.obj _ _ st7)) r7 (step x H7 y7)) fun _ s8 ⟨σ8, H8, I8, hw8, q8⟩ => ?_
      refine thnF (pt.run _ s8 σ8 H8 _ I8 q8) fun b s9 ⟨H9, I9, q9⟩ => ?_
      have fin : ∀ {s' : Shared} {H' : Hp}, Inv Y ([] ++ pinsAt fp s7.heap) σ8 H' s' → Nx H' → ∃ m, m < n ∧ Z m s' := fun {s' H'} I' nx => by
        obtain ⟨m', hm, w'⟩ := hNx H' nx
        have pin' : ∀ b ∈ fp, ∀ o, s7.heap.get? b = some o → s'.heap.get? b = some o ∧ H' b = none := fun b hb o e =>
          (fun z => ⟨z.1, z.2.1⟩) (I'.pin (b, o) (List.mem_append_right _ (List.mem_append_right _ (mem_pinsAt hb e))))
        have hl : (wipe σ (own.map (·.2))).length = σ8.length := by rw [← hw8, wipe_length]
        refine ⟨m', hm, i + 1, H', (I'.unpinned (pins := [])).weak hl (fun j v e => by rw [← hw8] at e; exact (wipe_some e).1), T.keep _ _ _ st7 fun b hb o e => (pin' b hb o e).1, fun b hb => ?_, w'⟩
        obtain ⟨o, e, _⟩ := T.obj _ _ st7 b hb
        exact (pin' b hb o e).2
      cases b with
      | false => exact fin I9 q9
      | true =>
        refine thnF (pk.run _ s9 σ8 H9 _ I9 q9) fun z s10 ⟨yk, H10, I10, r10, q10⟩ => ?_
        refine thnF (pe.run _ s10 σ8 H10 _ I10 q10) fun z2 s11 ⟨yv, H11, I11, r11, H12, pu, nx⟩ => ?_
        exact d_dictPut (X := Y) hu I11 pu r10 r11 fun s12 I12 => fin I12 nx
  exact codeAny_compStart_dict loop (T.self X.A 0 _ _ _ st4 loop)
end
theorem dcP_it {o0 : HO} {J : It} {n : Nat} {G : Hp → Prop} {Y : Nat → Hp → V → Hp → Prop} (w : Walk J n G Y) {g : TG} {tt : TT} {tk tv : TE} {vs : List Nat} {σ : L2.St} {H1 : Hp} {D : Addr} {Qd : Hp → Prop} (Pv : Nat → Hp → Prop)
    (h0 : Pv 0 (upd H1 D o0)) (hG : ∀ i H, i ≤ n → Pv i H → G H) (hs : ∀ i x H H', i < n → Pv i H → Y i H x H' → dcStep g tt tk tv vs σ D (Pv (i + 1)) x H') (hd : ∀ H, Pv n H → Qd H) :
    ∃ W : Nat → Nat → Hp → Prop, (∃ m, W 0 m (upd H1 D o0)) ∧ ∀ i m H, W i m H → (J.stop i H ∧ Qd H) ∨
      (J.go i H ∧ ∃ Nx : Hp → Prop, (∀ H', Nx H' → ∃ m', m' < m ∧ W (i + 1) m' H') ∧ ∀ x H', J.yld i H x H' → dcStep g tt tk tv vs σ D Nx x H') := by
  refine ⟨fun i m H => m = n - i ∧ i ≤ n ∧ Pv i H, ⟨n, rfl, Nat.zero_le _, h0⟩, ?_⟩
  rintro i m H ⟨rfl, hi, p⟩
  have q := hG i H hi p
  by_cases hlt : i < n
  · exact .inr ⟨w.goes i H hlt q, Pv (i + 1), fun H' p' => ⟨n - (i + 1), by omega, rfl, hlt, p'⟩, fun x H' y => hs i x H H' hlt p (w.yields i H x H' hlt q y)⟩
  · have e : i = n := by omega
    subst e
    exact .inl ⟨w.stops H q, hd H p⟩
/-! ### one walker for all -/
theorem wk {J : It} {n : Nat} {G : Hp → Prop} {Y : Nat → Hp → V → Hp → Prop} (w : Walk J n G Y) {S : (Hp → Prop) → V → Hp → Prop} {H1 : Hp} {Qd : Hp → Prop} (Pv : Nat → Hp → Prop)
    (h0 : Pv 0 H1) (hG : ∀ i H, i ≤ n → Pv i H → G H) (hs : ∀ i x H H', i < n → Pv i H → Y i H x H' → S (Pv (i + 1)) x H') (hd : ∀ H, Pv n H → Qd H) :
    ∃ W : Nat → Nat → Hp → Prop, (∃ m, W 0 m H1) ∧ ∀ i m H, W i m H → (J.stop i H ∧ Qd H) ∨
      (J.go i H ∧ ∃ Nx : Hp → Prop, (∀ H', Nx H' → ∃ m', m' < m ∧ W (i + 1) m' H') ∧ ∀ x H', J.yld i H x H' → S Nx x H') := by
  refine ⟨fun i m H => m = n - i ∧ i ≤ n ∧ Pv i H, ⟨n, rfl, Nat.zero_le _, h0⟩, ?_⟩
  rintro i m H ⟨rfl, hi, p⟩
  have q := hG i H hi p
  by_cases hlt : i < n
  · exact .inr ⟨w.goes i H hlt q, Pv (i + 1), fun H' p' => ⟨n - (i + 1), by omega, rfl, hlt, p'⟩, fun x H' y => hs i x H H' hlt p (w.yields i H x H' hlt q y)⟩
  · have e : i = n := by omega
    subst e
    exact .inl ⟨w.stops H q, hd H p⟩

end My

set_option Elab.async false
set_option linter.all false
set_option maxRecDepth 100000
namespace My
open PySem PySem.Spec PyProof.Rows L2

/-! ### str of data, where no text is being made of anything yet -/
def rStrD (K : PySem.W.Frag) : List V → Hp → VK → Prop := fun xs H Q => ∃ a d, xs = [.ref a] ∧ Dp K H (.ref a) d ∧ d.showable = true ∧ d.hasDict = false ∧ d.depth ≤ 50 ∧ d.shown.length ≤ sizeLine ∧ Q (.str d.shown) H
theorem call_strD {X : Cx} (hg : X.A.guards = some []) (hu : X.A.units + 65 < cLine) : CallR X (.type "str") (rStrD X.K) := by
  rintro pins s σ H xs us Q I r ⟨a, d, rfl, hd, h1, h2, h3, h4, q⟩
  obtain ⟨u, rfl, r1⟩ := vals1 r
  obtain rfl : u = Value.ref a := r1
  obtain ⟨as, rr⟩ := Dp.reads I d _ _ hd rfl
  exact str_of_reads rr h1 (fun z => by rw [h2] at z; cases z) hg (by omega) (fun _ _ e => e) (fun h' t tk k => ⟨.str _, H, I.kept k, ⟨_, rfl⟩, q⟩) h4

/-! ### cuts: what holds behind a piece is named, and the rest is shown from that alone -/
section
variable {X : Cx} {st : Stmt} {rest : List Stmt} {t u : TS} {e : Expr} {te : TE} {tt : TT}
def tCut (t u : TS) : TS := fun D σ H => ∃ M : L2.St → Hp → Prop, t { D with nx := M } σ H ∧ ∀ σ' H', M σ' H' → u D σ' H'
theorem pss_cut (h1 : PS X st t) (h2 : PSs X rest u) : PSs X (st :: rest) (tCut t u) := by
  constructor
  rintro pins s σ H D I ⟨M, h, hM⟩
  refine wpAny_execs_cons (wpAny_mono (h1.run pins s σ H { D with nx := M } I h) (fun f s1 z => ?_) fun _ _ z => z)
  match f, z with
  | .next, ⟨σ', H', I', m⟩ => exact h2.run pins s1 σ' H' D I' (hM _ _ m)
  | .ret _, z => exact z
  | .brk, z => exact z
  | .cont, z => exact z
def tCutE (t : TE) : TE := fun σ H Q => ∃ M : VK, t σ H M ∧ ∀ v H', M v H' → Q v H'
theorem pe_cut (h : PE X e te) : PE X e (tCutE te) := by
  constructor
  rintro pins s σ H Q I ⟨M, m, hM⟩
  refine wpAny_mono (h.run pins s σ H M I m) (fun v s1 z => ?_) fun _ _ z => z
  obtain ⟨x, H', I', r, z⟩ := z
  exact ⟨x, H', I', r, hM _ _ z⟩
def tCutT (t : TT) : TT := fun σ H Q => ∃ M : Bool → Hp → Prop, t σ H M ∧ ∀ v H', M v H' → Q v H'
theorem pt_cut (h : PT X e tt) : PT X e (tCutT tt) := by
  constructor
  rintro pins s σ H Q I ⟨M, m, hM⟩
  refine wpAny_mono (h.run pins s σ H M I m) (fun v s1 z => ?_) fun _ _ z => z
  obtain ⟨H', I', z⟩ := z
  exact ⟨H', I', hM _ _ z⟩
end
/-! ### a def run at the top -/
section
variable {P : Program} {w : World} {K : PySem.W.Frag} {mg : Str → Option Value} {base : Heap}
/-- a call of a def with one argument from the law's own caller -/
def TopRun (P : Program) (w : World) (K : PySem.W.Frag) (mg : Str → Option Value) (base : Heap) (f : Addr) (fd : FuncData) (y : Str) (sp : Sp) : Prop :=
  ∀ (s : Shared) (H : Hp) (u : Value) (v : V) (Q : VK) (E : XK), Env0 P w K mg base callerA [] s H → BindsTo s fd ⟨[u], []⟩ [(y, u)] → RelV v u → sp [v] H Q E →
    codeAny (model P w) callerA (.call (.ref f) ⟨[u], []⟩) (CR CX0 [] P w H s Q E) s
theorem top_run {x y : Str} {st : Stmt} {f : Addr} {fd : FuncData} {N : List Str} {k : Nat} {sp : Sp} (F : Fun K x x st f fd) (S : FnScope N [y] (defScope st)) (room : Room (k + 1) callerA)
    (body : ∀ (cdv : Value) (s : Shared) (H : Hp) (v : V) (Q : VK) (E : XK), Room k (callerA.deeper (envOfC x (defScope st) s.heap.objs.size f cdv)) → sp [v] H Q E →
      ∃ t, PSs (cxOf CX0 P w K mg base N x (defScope st) f cdv callerA [] s H E).nox (defBody st) t ∧ t { nx := fun _ H' => Q .non H', rt := Q } (start N [v]) H) :
    TopRun P w K mg base f fd y sp := by
  intro s H u v Q E e0 hb rv hsp
  obtain ⟨oc, od, kV, doc, pm, an, cdv, ct, osl, rfl, lk, hcd⟩ := F.ex
  have here : K.In s.heap := e0.mod.kin.keeps fun b o z => (e0.bs b o z).1
  have free := e0.mod.nolimit.keeps fun b o z => (e0.bs b o z).1
  refine codeAny_call_function room.depth (here _ _ lk) rfl S.co S.gen rfl (PySem.W.codeRec_of here hcd) (hb _ _ _ _ ?_)
  refine wpAny_newFunctionEnv_cells S.kind ?_ fun env he s1 inn => ?_
  · rintro ⟨n, z⟩ hz
    rcases S.par n (List.of_mem_zip (l₁ := [y]) (l₂ := [u]) hz).1 with loc | cel
    · exact Or.inl loc
    · exact Or.inr ⟨cel, PySem.W.cellsFrom_some _ _ _ (Or.inl cel)⟩
  subst he
  refine ⟨free.keeps inn.toInCall.keep, codeAny_func ?_⟩
  obtain ⟨t, ht, hq⟩ := body cdv s H v Q E (room.deeper _) hsp
  have I0 := inv_start (CX := CX0) (E := E) (vs := [v]) (us := [u]) S room.hd e0 rfl (.cons rv .nil) inn
  refine wpAny_mono (ht.nox.run [] s1 (start N [v]) H _ I0 hq) (fun fl s' out => ?_) fun _ _ z => z
  cases fl with
  | ret z =>
    obtain ⟨v', σ', H', J, r', q'⟩ := out
    exact ⟨v', H', J.os, J.bare, J.base, J.hok, r', q'⟩
  | next =>
    obtain ⟨σ', H', J, q'⟩ := out
    exact ⟨V.non, H', J.os, J.bare, J.base, J.hok, rfl, q'⟩
  | brk => obtain ⟨_, _, _, no⟩ := out; exact no.elim
  | cont => obtain ⟨_, _, _, no⟩ := out; exact no.elim
end
end My

set_option Elab.async false
set_option linter.all false
set_option maxRecDepth 100000
namespace My
open PySem PySem.Spec PyProof.Rows L2

/-! ### the law's call, from what its def does when it is called from the top -/
/-- what the heap tracks when the law is called: the tables, empty, and the script where it is none of the fixed part -/
structure Trk (K : PySem.W.Frag) (s : Shared) (cs : List (Addr × Addr)) (a : Addr) (xs : Array Value) (ys : List V) (H : Hp) : Prop where
  tab : ∀ p ∈ cs, H p.2 = some (.tbl #[])
  scr : SqL K H a ys
  any : ∀ b u, H b = some u → (∃ p ∈ cs, p.2 = b) ∨ (b = a ∧ K.lookup a = none ∧ u = .frz { cls := .type "list", data := .seq xs } (.lst ys))
section
variable {P : Program} {w : World} {K : PySem.W.Frag} {mg mb : Str → Option Value} {fa a : Addr} {cs : List (Addr × Addr)} {fd : FuncData} {y : Str} {sp : Sp} {s : Shared} {vs : List Value} {ns : List Int} {H : Hp}
theorem trk_out (hT : ∀ p ∈ cs, s.heap.get? p.2 = some ⟨.none, none, .fields #[], #[]⟩) (ha : s.heap.get? a = some { cls := .type "list", data := .seq vs.toArray }) {ys : List V} (t : Trk K s cs a vs.toArray ys H) {b : Addr} {o : Obj} (e : s.heap.get? b = some o) (h1 : ∀ us n, o.data = .seq us n → False) (h2 : o.data = .fields #[] → False) : H b = none := by
  cases z : H b with
  | none => rfl
  | some u =>
    exfalso
    rcases t.any b u z with ⟨p, hp, rfl⟩ | ⟨rfl, _, _⟩
    · rw [hT p hp] at e; cases e; exact h2 rfl
    · rw [ha] at e; cases e; exact h1 _ _ rfl
theorem trk_call (KX : K.In s.heap) (g1 : s.heap.Ns mainGlobals mg) (g2 : s.heap.Ns builtinsNs mb) (g3 : ∀ x : Str, x ≠ "__name__" → mb x = bootBuiltins x) (g4 : s.heap.NoLimit) (g5 : s.gens = #[])
    (hT : ∀ p ∈ cs, s.heap.get? p.2 = some ⟨.none, none, .fields #[], #[]⟩) (nT : ∀ p ∈ cs, K.lookup p.2 = none) (hC : ∀ p ∈ cs, PySem.W.CodeHd s.heap p.1 p.2)
    (g6 : ∃ (bm : Addr) (ob : Obj), mg "__builtins__" = some (.ref bm) ∧ bm ≠ builtinsNs ∧ s.heap.get? bm = some ob ∧ ob.cls = .type "module" ∧ ob.dict = some builtinsNs ∧ ob.data = .plain)
    (ha : s.heap.get? a = some { cls := .type "list", data := .seq vs.toArray })
    (R : ∀ base : Heap, K.In base → base.Ns mainGlobals mg → (∀ p ∈ cs, LamX.TabB base mg p.1 p.2) → TopRun P w K mg base fa fd y sp) (hbind : ∀ (s : Shared) (u : Value), BindsTo s fd ⟨[u], []⟩ [(y, u)])
    (t : Trk K s cs a vs.toArray (ns.map V.int) H) (ok : HOk P w H s.heap) (hsp : sp [.ref a] H (fun v _ => v = .bl true) fun _ _ _ => False) :
    codeAny (model P w) callerA (.call (.ref fa) ⟨[.ref a], []⟩) (fun r s' => r = .ok (.ret (.bool true)) ∧ OldK s.heap s'.heap ∧ s'.os = s.os ∧ AllBare s'.gens) s := by
  have up : ∀ {b : Addr} {o : Obj}, s.heap.get? b = some o → (∀ us n, o.data = .seq us n → False) → (o.data = .fields #[] → False) → (hidT s.heap H).get? b = some o := fun e h1 h2 => hidT_get e (trk_out hT ha t e h1 h2)
  have upN : ∀ {b : Addr} {m : Str → Option Value}, s.heap.Ns b m → (hidT s.heap H).Ns b m := by
    rintro b m ⟨o, es, ep, e, d, r⟩
    exact ⟨o, es, ep, up e (fun us n z => by rw [d] at z; cases z) (fun z => by rw [d] at z; cases z), d, r⟩
  have upK : K.In (hidT s.heap H) := by
    intro b o e
    refine hidT_get (KX b o e) ?_
    cases z : H b with
    | none => rfl
    | some u =>
      exfalso
      rcases t.any b u z with ⟨p, hp, rfl⟩ | ⟨rfl, nk, _⟩
      · rw [nT p hp] at e; cases e
      · rw [nk] at e; cases e
  have upM : L2.Mod K mg (hidT s.heap H) := by
    obtain ⟨mc, k1, k2⟩ := g4
    exact ⟨upK, upN g1, ⟨mb, upN g2, g3⟩, ⟨mc, upN k1, k2⟩⟩
  have upT : ∀ p ∈ cs, LamX.TabB (hidT s.heap H) mg p.1 p.2 := by
    intro p hp
    have hp2 := hT p hp
    constructor
    · obtain ⟨o, us, file, tf, flags, tg, inF, text, tt, e1, r1, r2, r3, more⟩ := hC p hp
      refine ⟨o, us, file, tf, flags, tg, inF, text, tt, up e1 (fun z n k => by rw [r2] at k; cases k) (fun k => ?_), r1, r2, r3, more⟩
      rw [r2] at k; cases k; simp at r3
    · obtain ⟨bm, ob, b1, b2, b3, b4, b5, b6⟩ := g6
      refine ⟨bm, ob, b1, b2, fun z => ?_, fun z => ?_, up b3 (fun us n k => by rw [b6] at k; cases k) (fun k => by rw [b6] at k; cases k), b4, b5, b6⟩
      · obtain ⟨o, es, ep, e, hd, _⟩ := g1
        rw [z, e] at b3; cases b3; rw [hd] at b6; cases b6
      · rw [z, hp2] at b3; cases b3; cases b6
    · intro z
      obtain ⟨o, es, ep, e, hd, _⟩ := g1
      rw [z, hp2] at e; cases e; cases hd
  have e0 : Env0 P w K mg (hidT s.heap H) callerA [] s H := by
    refine ⟨rfl, upM, fun b o e => of_hidT e, Nat.le_of_eq (hidT_size _ _), trivial, fun b hb => ?_, ok, .of_eq g5⟩
    exact absurd (show b ∈ ([] : List Addr) from hb) List.not_mem_nil
  refine codeAny_mono (R _ upK (upN g1) upT s H (.ref a) (.ref a) _ _ e0 (hbind s _) rfl hsp) fun r s' h => ?_
  match r, h with
  | .error e, h => exact h.elim
  | .ok .next, h => exact h.elim
  | .ok .brk, h => exact h.elim
  | .ok .cont, h => exact h.elim
  | .ok (.ret u), ⟨v, H', os, bare, un, ok', rv, hv⟩ =>
    obtain rfl : v = .bl true := hv
    obtain rfl : u = Value.bool true := rv
    have key : ∀ b o, s.heap.get? b = some o → (¬ ∃ p ∈ cs, p.2 = b) → s'.heap.get? b = some o := by
      intro b o e nb
      cases z : H b with
      | none => exact un.keep b o e z (fun k => absurd (show b ∈ ([] : List Addr) from k) List.not_mem_nil) List.not_mem_nil
      | some u =>
        rcases t.any b u z with k | ⟨rfl, _, rfl⟩
        · exact absurd k nb
        · have z2 := ok' _ _ (un.frzs _ _ _ z)
          rw [ha] at e; cases e
          exact z2.1
    have tabs : ∀ p ∈ cs, ∃ more : Array Value, s'.heap.get? p.2 = some ⟨.none, none, .fields more, #[]⟩ := by
      intro p hp
      obtain ⟨more, z⟩ := un.tbls p.2 #[] (t.tab p hp)
      exact ⟨_, ok' _ _ z⟩
    refine ⟨rfl, ⟨fun b o e => ?_, fun b o e => ?_⟩, os, bare⟩
    · by_cases hb : ∃ p ∈ cs, p.2 = b
      · obtain ⟨p, hp, rfl⟩ := hb
        obtain ⟨more, hm⟩ := tabs p hp
        rw [hT p hp] at e; cases e
        refine Or.inr (Or.inl ⟨((hC p hp).tab (hT p hp)).isCodeTable, rfl, #[], more, rfl, ?_⟩)
        rw [Array.empty_append]; exact hm
      · exact Or.inl (key b o e hb)
    · by_cases hb : ∃ p ∈ cs, p.2 = b
      · obtain ⟨p, hp, rfl⟩ := hb
        obtain ⟨more, hm⟩ := tabs p hp
        exact ⟨_, hm⟩
      · exact ⟨o, key b o e hb⟩
end
section
open Classical
variable {K : PySem.W.Frag} {a : Addr} {cs : List (Addr × Addr)} {s : Shared} {vs : List Value} {ns : List Int}
noncomputable def trkH (K : PySem.W.Frag) (cs : List (Addr × Addr)) (a : Addr) (xs : Array Value) (ys : List V) : Hp := fun b =>
  if ∃ p ∈ cs, p.2 = b then some (.tbl #[]) else if b = a ∧ K.lookup a = none then some (.frz { cls := .type "list", data := .seq xs } (.lst ys)) else none
theorem trkH_ok {P : Program} {w : World} (KX : K.In s.heap) (hT : ∀ p ∈ cs, s.heap.get? p.2 = some ⟨.none, none, .fields #[], #[]⟩) (ha : s.heap.get? a = some { cls := .type "list", data := .seq vs.toArray }) (hi : IntsAre vs ns) (hl : ns.length ≤ sizeLine) :
    Trk K s cs a vs.toArray (ns.map V.int) (trkH K cs a vs.toArray (ns.map V.int)) ∧ HOk P w (trkH K cs a vs.toArray (ns.map V.int)) s.heap := by
  have na : ¬ ∃ p ∈ cs, p.2 = a := by
    rintro ⟨p, hp, rfl⟩
    rw [hT p hp] at ha; cases ha
  have rv := vals_ints hi
  refine ⟨⟨fun p hp => if_pos ⟨p, hp, rfl⟩, ?_, fun b u e => ?_⟩, fun b u e => ?_⟩
  · cases hk : K.lookup a with
    | some o =>
      have e := KX a o hk
      rw [ha] at e; cases e
      exact Or.inr ⟨_, vs.toArray, _, hk, rfl, rfl, rfl, by rw [List.size_toArray, hi.length]; exact hl, by simpa using rv⟩
    | none => exact Or.inl (Or.inr ⟨_, (if_neg na).trans (if_pos ⟨rfl, hk⟩)⟩)
  · by_cases hb : ∃ p ∈ cs, p.2 = b
    · exact Or.inl hb
    · have e1 := (if_neg hb).symm.trans e
      by_cases hb2 : b = a ∧ K.lookup a = none
      · have e2 := (if_pos hb2).symm.trans e1
        cases e2
        exact Or.inr ⟨hb2.1, hb2.2, rfl⟩
      · have e2 := (if_neg hb2).symm.trans e1
        cases e2
  · by_cases hb : ∃ p ∈ cs, p.2 = b
    · have e1 := (if_pos hb).symm.trans e
      cases e1
      obtain ⟨p, hp, rfl⟩ := hb
      exact hT p hp
    · have e1 := (if_neg hb).symm.trans e
      by_cases hb2 : b = a ∧ K.lookup a = none
      · have e2 := (if_pos hb2).symm.trans e1
        cases e2
        obtain ⟨rfl, _⟩ := hb2
        exact ⟨ha, by rw [List.length_map]; exact hl, vs, _, rv, ha⟩
      · have e2 := (if_neg hb2).symm.trans e1
        cases e2
end
/-- what is known of a law's def at the head's heap -/
def TopAt (l : PySem.W.OpenLaw) (w : World) (K : PySem.W.Frag) (n : Nat) (y : Str) (mg : Str → Option Value) (fa : Addr) (h : Heap) : Prop :=
  ∃ (fd : FuncData) (cs : List (Addr × Addr)) (sp : Sp), (∀ p ∈ cs, h.get? p.2 = some ⟨.none, none, .fields #[], #[]⟩) ∧ (∀ p ∈ cs, K.lookup p.2 = none) ∧ (∀ p ∈ cs, PySem.W.CodeHd h p.1 p.2) ∧ (∀ (s : Shared) (u : Value), BindsTo s fd ⟨[u], []⟩ [(y, u)]) ∧
    (∀ (H : Hp) (a : Addr) (ns : List Int), ns.length ≤ n → (∀ z ∈ ns, Builtin.Int.intBits z ≤ 1048576) → (∀ p ∈ cs, H p.2 = some (.tbl #[])) → SqL K H a (ns.map V.int) → sp [.ref a] H (fun v _ => v = .bl true) fun _ _ _ => False) ∧
    ∀ base : Heap, K.In base → base.Ns mainGlobals mg → (∀ p ∈ cs, LamX.TabB base mg p.1 p.2) → TopRun l.prog w K mg base fa fd y sp
theorem walk_top {l : PySem.W.OpenLaw} {n : Nat} {q : Program} {loose : List Str} {XP : (Str → Option Value) → Heap → Prop} {YP : World → Heap → Prop} {d : DefRec} {y : Str} (hn : l.most = some n) (hn2 : n ≤ sizeLine) (hdf : d.params.defaults = [])
    (F : ∀ (w : World) (mg : Str → Option Value) (fa : Addr) (h : Heap), YP w h → h.Ns mainGlobals mg → mg d.name = some (.ref fa) → ∃ K : PySem.W.Frag, K.In h ∧ TopAt l w K n y mg fa h) :
    PySem.W.WalkO q loose XP YP l.row.toRowW d [] (fun f vs => PySem.call f vs) := by
  apply Att.attach_callB hn hdf
  intro w s0 s1 mg mb fa o pm cd doc a vs ns G Y _ _ _ hm hobj hints hlen hbits hgens
  obtain ⟨K, KX, fd, cs, sp, hT, nT, hC, hb, hsp, hF⟩ := F w mg fa _ Y G.T.g hm
  obtain ⟨tr, ok⟩ := trkH_ok (P := l.prog) (w := w) (cs := cs) KX hT hobj hints (Nat.le_trans hlen hn2)
  exact trk_call KX G.T.g G.T.b G.T.builtins G.T.nolimit hgens hT nT hC G.T.bmain hobj hF hb tr ok (hsp _ a ns hlen hbits tr.tab tr.scr)
end My

set_option Elab.async false
set_option linter.all false
set_option maxRecDepth 100000
set_option maxHeartbeats 2000000
namespace My
open PySem PySem.Spec PyProof.Rows L2 GxR
/-! ### a < b < c < d as a test -/
section
variable {X : Cx} {a b c d : Expr} {ta tb tc td : TE} {pos : Pos}
theorem pt_chain3 {o1 o2 o3 : CmpOp} {r1 r2 r3 : R2} (h1 : OpR X (compareOp o1) r1) (h2 : OpR X (compareOp o2) r2) (h3 : OpR X (compareOp o3) r3) (ha : PE X a ta) (hb : PE X b tb) (hc : PE X c tc) (hd : PE X d td)
    (hm : lastMarks [o1, o2, o3] [b, c, d] = false := by with_unfolding_all rfl) : PT X (.Compare a [o1, o2, o3] [b, c, d] pos) (tTest (tChain3 r1 r2 r3 ta tb tc td)) := by
  refine ⟨fun pins s σ H Q I h => ?_⟩
  refine isTrue_chain (thn (ha.run pins s σ H _ I h) fun v s1 ⟨x, H1, I1, q1, p1⟩ => test_link (thn (hb.run pins s1 σ H1 _ I1 p1) fun u s2 ⟨y, H2, I2, q2, p2⟩ =>
    thn (h1 pins s2 σ H2 x y v u _ I2 q1 q2 p2) fun e s3 ⟨z, H3, I3, q3, k, ek, p3⟩ => ?_)) hm
  subst ek
  cases q3
  refine wpAny_truthy_bool ?_
  cases k with
  | false =>
    obtain ⟨k', e', q'⟩ := p3
    cases e'
    exact ite_ff ⟨H3, I3, q'⟩
  | true =>
    refine ite_tt (test_link (thn (hc.run pins s3 σ H3 _ I3 p3) fun u4 s4 ⟨y4, H4, I4, q4, p4⟩ => thn (h2 pins s4 σ H4 y y4 u u4 _ I4 q2 q4 p4) fun e5 s5 ⟨z5, H5, I5, q5, k5, ek5, p5⟩ => ?_))
    subst ek5
    cases q5
    refine wpAny_truthy_bool ?_
    cases k5 with
    | false =>
      obtain ⟨k', e', q'⟩ := p5
      cases e'
      exact ite_ff ⟨H5, I5, q'⟩
    | true =>
      refine ite_tt (test_last (thn (hd.run pins s5 σ H5 _ I5 p5) fun u6 s6 ⟨y6, H6, I6, q6, p6⟩ => thn (h3 pins s6 σ H6 y4 y6 u4 u6 _ I6 q4 q6 p6) fun d' s7 ⟨z2, H7, I7, r7, k2, e2, q7⟩ => ?_))
      subst e2
      cases r7
      exact wpAny_truthy_bool ⟨H7, I7, q7⟩
end
end My

set_option Elab.async false
set_option linter.all false
set_option maxRecDepth 100000
namespace My
open PySem PySem.Spec PyProof.Rows L2 GxR
theorem tabG_new {H : Hp} {P p : Addr} {o : HO} (h : TabG H P) (e : H p = none) : TabG (upd H p o) P := by
  obtain ⟨ps, h1, h2⟩ := h
  exact ⟨ps, by rw [upd_ne (ne_of_none h1 e)]; exact h1, h2⟩
theorem tb_frM {H H' : Hp} {P : Addr} (h : Tabbed P H H') : FrM [P] H H' := fun b o n e => by
  rw [h.2 b (fun z => n (by rw [z]; exact List.mem_singleton.mpr rfl))]; exact e
theorem tb_tst {H H' : Hp} {P : Addr} (h : Tabbed P H H') (hP : TabG H P) : Tst H H' := fun b xs e => by
  refine tb_frM h b _ (fun z => ?_) e
  obtain ⟨ps, h1, _⟩ := hP
  rw [List.mem_singleton.mp z, h1] at e; cases e
theorem frM_lst2 {H H' : Hp} {P1 P2 : Addr} (s : FrM [P1, P2] H H') (t1 : TabG H P1) (t2 : TabG H P2) : Tst H H' ∧ ∀ p us, H p = some (.lst us) → H' p = some (.lst us) := by
  have ne : ∀ {b o}, H b = some o → (∀ ps, o ≠ .tbl ps) → b ∉ [P1, P2] := fun {b o} e no z => by
    obtain ⟨p1, h1, _⟩ := t1
    obtain ⟨p2, h2, _⟩ := t2
    rcases List.mem_cons.mp z with z | z
    · rw [z, h1] at e; exact no _ (Option.some.inj e).symm
    · rw [List.mem_singleton.mp z, h2] at e; exact no _ (Option.some.inj e).symm
  exact ⟨fun b xs e => s b _ (ne e fun ps z => by cases z) e, fun b xs e => s b _ (ne e fun ps z => by cases z) e⟩
end My

set_option Elab.async false
set_option linter.all false
set_option maxRecDepth 100000
set_option maxHeartbeats 4000000
namespace My
open PySem PySem.Spec PyProof.Rows L2 GxR
/-! ### odd things: what is told of a value without a look into lists -/
def flatO : V → Bool
  | .non => true
  | .bl _ => true
  | .int _ => true
  | .str _ => true
  | _ => false
def KnD (H : Hp) : Nat → V → Prop
  | 0, _ => True
  | m + 1, v => flatO v = true ∨ (∃ p us, v = .ref p ∧ H p = some (.lst us)) ∨ ∃ p us, v = .ref p ∧ H p = some (.tup us) ∧ us.length ≤ 1000 ∧ ∀ u ∈ us, KnD H m u
/-- lists stay lists -/
def LSt (H H' : Hp) : Prop := ∀ p us, H p = some (.lst us) → ∃ us', H' p = some (.lst us')
theorem LSt.trans {H H1 H2 : Hp} (a : LSt H H1) (b : LSt H1 H2) : LSt H H2 := fun p us e => by
  obtain ⟨us', e'⟩ := a p us e
  exact b p us' e'
theorem LSt.same {H H' : Hp} (s : Same H H') : LSt H H' := fun p us e => ⟨us, s _ _ e⟩
theorem LSt.put {H : Hp} {p : Addr} {us ys : List V} (e : H p = some (.lst us)) : LSt H (upd H p (.lst ys)) := fun q vs e' => by
  by_cases h : q = p
  · subst h; exact ⟨ys, upd_same⟩
  · exact ⟨vs, by rw [upd_ne h]; exact e'⟩
theorem LSt.fr {L : Addr} {H H' : Hp} {c d : Int} (f : Fr L H H') (lf : Lf H' L d) : LSt H H' := fun p us e => by
  by_cases h : p = L
  · subst h
    obtain ⟨_, _, _, e', _⟩ := lf
    exact ⟨_, e'⟩
  · exact ⟨us, f _ _ h e⟩
theorem KnD.mono {H H' : Hp} (t : Tst H H') (l : LSt H H') : ∀ {m : Nat} {v : V}, KnD H m v → KnD H' m v
  | 0, _, _ => trivial
  | m + 1, v, h => by
    rcases h with h | ⟨p, us, e, h⟩ | ⟨p, us, e, h, n, k⟩
    · exact .inl h
    · obtain ⟨us', h'⟩ := l p us h
      exact .inr (.inl ⟨p, us', e, h'⟩)
    · exact .inr (.inr ⟨p, us, e, t _ _ h, n, fun u hu => (k u hu).mono t l⟩)
theorem KnD.less {H : Hp} : ∀ {m : Nat} {v : V}, KnD H (m + 1) v → KnD H m v
  | 0, _, _ => trivial
  | m + 1, v, h => by
    rcases h with h | h | ⟨p, us, e, h, n, k⟩
    · exact .inl h
    · exact .inr (.inl h)
    · exact .inr (.inr ⟨p, us, e, h, n, fun u hu => (k u hu).less⟩)
theorem KnD.le {H : Hp} {m k : Nat} {v : V} (l : m ≤ k) (h : KnD H k v) : KnD H m v := by
  induction k with
  | zero =>
    obtain rfl : m = 0 := by omega
    exact h
  | succ k ih =>
    by_cases e : m = k + 1
    · rw [e]; exact h
    · exact ih (by omega) h.less
/-- known to any depth -/
def Kn (H : Hp) (v : V) : Prop := ∀ m, KnD H m v
theorem Kn.mono {H H' : Hp} {v : V} (h : Kn H v) (t : Tst H H') (l : LSt H H') : Kn H' v := fun m => (h m).mono t l
theorem Kn.flat {H : Hp} {v : V} (h : flatO v = true) : Kn H v := fun m => by
  cases m with
  | zero => trivial
  | succ m => exact .inl h
theorem Kn.lst {H : Hp} {p : Addr} {us : List V} (h : H p = some (.lst us)) : Kn H (.ref p) := fun m => by
  cases m with
  | zero => trivial
  | succ m => exact .inr (.inl ⟨p, us, rfl, h⟩)
theorem Kn.tup {H : Hp} {p : Addr} {us : List V} (h : H p = some (.tup us)) (n : us.length ≤ 1000) (k : ∀ u ∈ us, Kn H u) : Kn H (.ref p) := fun m => by
  cases m with
  | zero => trivial
  | succ m => exact .inr (.inr ⟨p, us, rfl, h, n, fun u hu => k u hu m⟩)
def intB : V → Bool
  | .int _ => true
  | _ => false
theorem intB_iff {v : V} : intB v = true ↔ ∃ i, v = .int i := by
  constructor
  · intro h
    cases v <;> first | exact ⟨_, rfl⟩ | cases h
  · rintro ⟨i, rfl⟩; rfl
theorem Tie.uniqO {H : Hp} {v : V} {s t : Int × Int} (h : Tie H v s) (k : Tie H v t) : s = t := by
  obtain ⟨p, rfl, e⟩ := h
  obtain ⟨q, eq, f⟩ := k
  cases eq
  rw [e] at f
  injection f with f
  injection f with f
  injection f with f1 f2
  injection f2 with f2 _
  exact Prod.ext (V.int.inj f1) (V.int.inj f2)
theorem Ties.uniqO {H : Hp} : ∀ {us : List V} {ss ts : List (Int × Int)}, Ties H us ss → Ties H us ts → ss = ts
  | [], [], [], _, _ => rfl
  | _ :: _, _ :: _, _ :: _, h, k => by rw [h.1.uniqO k.1, Ties.uniqO h.2 k.2]
  | [], _ :: _, _, h, _ => h.elim
  | _ :: _, [], _, h, _ => h.elim
  | [], [], _ :: _, _, k => k.elim
  | _ :: _, _ :: _, [], _, k => k.elim
theorem ties_ex {H : Hp} {P : Int × Int → Prop} : ∀ {us : List V}, (∀ (i : Nat) u, us[i]? = some u → ∃ t, Tie H u t ∧ P t) → ∃ ts, Ties H us ts ∧ ∀ t ∈ ts, P t
  | [], _ => ⟨[], trivial, fun t ht => absurd ht List.not_mem_nil⟩
  | u :: us, h => by
    obtain ⟨t, ht, k⟩ := h 0 u rfl
    obtain ⟨ts, hts, ks⟩ := ties_ex (us := us) fun i v e => h (i + 1) v e
    exact ⟨t :: ts, ⟨ht, hts⟩, fun s hs => (List.mem_cons.mp hs).elim (fun z => z ▸ k) (ks s)⟩
theorem ltT_trO {a b c : Int × Int} (h : ltT a b) (k : ltT b c) : ltT a c := by
  unfold ltT at *
  omega
instance (s t : Int × Int) : Decidable (ltT s t) := by unfold ltT; infer_instance
theorem lex_iffO {s t : Int × Int} : HT.lexLt [s.1, s.2] [t.1, t.2] = decide (ltT s t) := by
  by_cases h : ltT s t
  · rw [lex_of h, decide_eq_true h]
  · rw [decide_eq_false h]
    refine Bool.eq_false_iff.mpr fun z => h ?_
    unfold ltT
    rw [HT.lexLt_cons] at z
    by_cases e : s.1 = t.1
    · rw [if_pos e, HT.lexLt_cons] at z
      by_cases f : s.2 = t.2
      · rw [if_pos f] at z; cases z
      · rw [if_neg f] at z
        have := of_decide_eq_true z
        omega
    · rw [if_neg e] at z
      have := of_decide_eq_true z
      omega
/-- in order up to i, and the next one is greater: in order up to i + 1 -/
theorem pw_next {ts : List (Int × Int)} {i : Nat} {s t : Int × Int} (h : (ts.take (i + 1)).Pairwise ltT) (es : ts[i]? = some s) (et : ts[i + 1]? = some t) (l : ltT s t) : (ts.take (i + 2)).Pairwise ltT := by
  rw [show ts.take (i + 2) = ts.take (i + 1) ++ [t] by rw [List.take_add_one, et]; rfl, List.pairwise_append]
  refine ⟨h, List.pairwise_singleton .., fun a ha b hb => ?_⟩
  rw [List.mem_singleton.mp hb]
  rw [show ts.take (i + 1) = ts.take i ++ [s] by rw [List.take_add_one, es]; rfl] at h ha
  rcases List.mem_append.mp ha with z | z
  · exact ltT_trO ((List.pairwise_append.mp h).2.2 a z s (List.mem_singleton.mpr rfl)) l
  · rw [List.mem_singleton.mp z]; exact l
theorem pw_not {ts : List (Int × Int)} {i : Nat} {s t : Int × Int} (es : ts[i]? = some s) (et : ts[i + 1]? = some t) (l : ¬ ltT s t) : ¬ ts.Pairwise ltT := fun h => by
  obtain ⟨l1, e1⟩ := List.getElem?_eq_some_iff.mp es
  obtain ⟨l2, e2⟩ := List.getElem?_eq_some_iff.mp et
  have := (List.pairwise_iff_getElem.mp h) i (i + 1) l1 l2 (by omega)
  rw [e1, e2] at this
  exact l this
/-- the answer of a web -/
def IsW (H : Hp) (v : V) : Prop := ∃ n ts, Web H v n ts ∧ WOk n ts
end My

set_option Elab.async false
set_option linter.all false
set_option maxRecDepth 100000
set_option maxHeartbeats 4000000
set_option pp.maxSteps 900
namespace My
open PySem PySem.Spec PyProof.Rows L2 GxR
section
variable {P : Program} {w : World} {K : PySem.W.Frag} {mg : Str → Option Value} {base : Heap}
/-- isinstance(v, tuple) -/
theorem isi_tupO {v : V} {H : Hp} {m : Nat} {Q : VK} (h : KnD H (m + 1) v) (q1 : ∀ p us, v = .ref p → H p = some (.tup us) → us.length ≤ 1000 → (∀ u ∈ us, KnD H m u) → Q (.bl true) H) (q0 : (∀ p us, v = .ref p → H p ≠ some (.tup us)) → Q (.bl false) H) : rIsi K [v, .ty "tuple"] H Q := by
  rcases h with h | ⟨p, us, e, h⟩ | ⟨p, us, e, h, n, k⟩
  · have q0' := q0 fun p us e => by rw [e] at h; cases h
    cases v with
    | non => exact ⟨_, _, _, _, false, rfl, .ty _, .base .non, kit_ty (by decide +kernel), q0'⟩
    | bl b => exact ⟨_, _, _, _, false, rfl, .ty _, .base (.bl b), kit_ty (by decide +kernel), q0'⟩
    | int i => exact ⟨_, _, _, _, false, rfl, .ty _, .base (.int i), kit_ty (by decide +kernel), q0'⟩
    | str i => exact ⟨_, _, _, _, false, rfl, .ty _, .base (.str i), kit_ty (by decide +kernel), q0'⟩
    | byt _ => cases h
    | flt _ => cases h
    | ref _ => cases h
    | ty _ => cases h
  · subst e
    exact ⟨_, _, _, _, false, rfl, .ty _, .base (.lst h), kit_ty (by decide +kernel), q0 fun p' us' e' => by cases e'; rw [h]; intro z; cases z⟩
  · subst e
    exact ⟨_, _, _, _, true, rfl, .ty _, .base (.tup h), kit_ty (by decide +kernel), q1 _ _ rfl h n k⟩
/-- isinstance(v, int) and not isinstance(v, bool) -/
theorem isi_intO {v : V} {H : Hp} {m : Nat} {Q : VK} (h : KnD H (m + 1) v) (q1 : (∃ i, v = .int i) → Q (.bl true) H) (q2 : (∃ b, v = .bl b) → Q (.bl true) H) (q0 : intB v = false → (∀ b, v ≠ .bl b) → Q (.bl false) H) : rIsi K [v, .ty "int"] H Q := by
  rcases h with h | ⟨p, us, e, h⟩ | ⟨p, us, e, h, n, k⟩
  · cases v with
    | non => exact ⟨_, _, _, _, false, rfl, .ty _, .base .non, kit_ty (by decide +kernel), q0 rfl fun b z => by cases z⟩
    | bl b => exact ⟨_, _, _, _, true, rfl, .ty _, .base (.bl b), kit_ty (by decide +kernel), q2 ⟨_, rfl⟩⟩
    | int i => exact ⟨_, _, _, _, true, rfl, .ty _, .base (.int i), kit_ty (by decide +kernel), q1 ⟨_, rfl⟩⟩
    | str i => exact ⟨_, _, _, _, false, rfl, .ty _, .base (.str i), kit_ty (by decide +kernel), q0 rfl fun b z => by cases z⟩
    | byt _ => cases h
    | flt _ => cases h
    | ref _ => cases h
    | ty _ => cases h
  · subst e
    exact ⟨_, _, _, _, false, rfl, .ty _, .base (.lst h), kit_ty (by decide +kernel), q0 rfl fun b z => by cases z⟩
  · subst e
    exact ⟨_, _, _, _, false, rfl, .ty _, .base (.tup h), kit_ty (by decide +kernel), q0 rfl fun b z => by cases z⟩
/-! ### is_number -/
abbrev s_is_number : Stmt := topS 1
abbrev N_is_number : List Str := ["thing"]
theorem sc_is_number : FnScope N_is_number ["thing"] (defScope s_is_number) := ⟨rfl, rfl, rfl, by decide +kernel, rfl, by decide +kernel, by decide +kernel⟩
def sp_numO : Sp := fun vs H Q _ => ∃ v, vs = [v] ∧ KnD H 1 v ∧ Q (.bl (intB v)) H
theorem ok_numO {f : Addr} {fd : FuncData} (B : Bts mg) (F : Fun K "is_number" "is_number" s_is_number f fd) : FnOk P w K mg base CX0 1 f fd ["thing"] sp_numO := by
  refine F.ok sc_is_number (fun vs H Q E h => ?_) (fun cdv A outer s H vs Q E hr h => ?_)
  · obtain ⟨i, rfl, _⟩ := h; rfl
  · obtain ⟨v, rfl, hk, q⟩ := h
    refine ⟨_, (pss_one (ps_ret (pe_and (pe_callB call_isi (by rfl) B.isinstance (by decide +kernel) (pa_cons (pv 0) (pa_cons (pe_bltn (v := .ty "int") (by rfl) B.int (by decide +kernel) rfl) pa_nil))) (pe_one (pe_not (pe_callB call_isi (by rfl) B.isinstance (by decide +kernel) (pa_cons (pv 0) (pa_cons (pe_bltn (v := .ty "bool") (by rfl) B.bool (by decide +kernel) rfl) pa_nil)))))))), ?_⟩
    refine ⟨_, rfl, ?_⟩
    dsimp only [tCons, tC, tNil]
    refine isi_intO hk (fun ⟨i, e⟩ => ?_) (fun ⟨b, e⟩ => ?_) fun e _ => ?_
    · subst e
      exact ⟨true, rfl, iteT ⟨_, rfl, _, _, _, _, false, rfl, .ty _, .base (.int i), kit_ty (by decide +kernel), false, rfl, q⟩⟩
    · subst e
      exact ⟨true, rfl, iteT ⟨_, rfl, _, _, _, _, true, rfl, .ty _, .base (.bl b), kit_ty (by decide +kernel), true, rfl, q⟩⟩
    · rw [e] at q
      exact ⟨false, rfl, iteF q⟩
/-! ### _law_is_number -/
abbrev s__law_is_number : Stmt := topS 20
abbrev N__law_is_number : List Str := ["_law_thing"]
theorem sc__law_is_number : FnScope N__law_is_number ["_law_thing"] (defScope s__law_is_number) := ⟨rfl, rfl, rfl, by decide +kernel, rfl, by decide +kernel, by decide +kernel⟩
def sp_lnumO : Sp := fun vs H Q _ => ∃ v, vs = [v] ∧ KnD H 1 v ∧ Q (.bl (intB v)) H
theorem ok_lnumO {f : Addr} {fd : FuncData} (B : Bts mg) (F : Fun K "_law_is_number" "_law_is_number" s__law_is_number f fd) : FnOk P w K mg base CX0 1 f fd ["_law_thing"] sp_lnumO := by
  refine F.ok sc__law_is_number (fun vs H Q E h => ?_) (fun cdv A outer s H vs Q E hr h => ?_)
  · obtain ⟨i, rfl, _⟩ := h; rfl
  · obtain ⟨v, rfl, hk, q⟩ := h
    refine ⟨_, (pss_one (ps_ret (pe_and (pe_callB call_isi (by rfl) B.isinstance (by decide +kernel) (pa_cons (pv 0) (pa_cons (pe_bltn (v := .ty "int") (by rfl) B.int (by decide +kernel) rfl) pa_nil))) (pe_one (pe_not (pe_callB call_isi (by rfl) B.isinstance (by decide +kernel) (pa_cons (pv 0) (pa_cons (pe_bltn (v := .ty "bool") (by rfl) B.bool (by decide +kernel) rfl) pa_nil)))))))), ?_⟩
    refine ⟨_, rfl, ?_⟩
    dsimp only [tCons, tC, tNil]
    refine isi_intO hk (fun ⟨i, e⟩ => ?_) (fun ⟨b, e⟩ => ?_) fun e _ => ?_
    · subst e
      exact ⟨true, rfl, iteT ⟨_, rfl, _, _, _, _, false, rfl, .ty _, .base (.int i), kit_ty (by decide +kernel), false, rfl, q⟩⟩
    · subst e
      exact ⟨true, rfl, iteT ⟨_, rfl, _, _, _, _, true, rfl, .ty _, .base (.bl b), kit_ty (by decide +kernel), true, rfl, q⟩⟩
    · rw [e] at q
      exact ⟨false, rfl, iteF q⟩
/-! ### is_pair -/
abbrev s_is_pair : Stmt := topS 2
abbrev N_is_pair : List Str := ["thing"]
theorem sc_is_pair : FnScope N_is_pair ["thing"] (defScope s_is_pair) := ⟨rfl, rfl, rfl, by decide +kernel, rfl, by decide +kernel, by decide +kernel⟩
def sp_pairO : Sp := fun vs H Q _ => ∃ v, vs = [v] ∧ KnD H 2 v ∧ (∀ t, Tie H v t → Q (.bl true) H) ∧ ((∀ t, ¬ Tie H v t) → Q (.bl false) H)
theorem ok_pairO {f : Addr} {fd : FuncData} (B : Bts mg) (F : Fun K "is_pair" "is_pair" s_is_pair f fd) (c_is_number : Cl P w K mg base 1 "is_number" sp_numO) : FnOk P w K mg base CX0 2 f fd ["thing"] sp_pairO := by
  refine F.ok sc_is_pair (fun vs H Q E h => ?_) (fun cdv A outer s H vs Q E hr h => ?_)
  · obtain ⟨v, rfl, _⟩ := h; rfl
  · obtain ⟨v, rfl, hk, q1, q0⟩ := h
    refine ⟨_, (pss_one (ps_ret (pe_and (pe_callB call_isi (by rfl) B.isinstance (by decide +kernel) (pa_cons (pv 0) (pa_cons (pe_bltn (v := .ty "tuple") (by rfl) B.tuple (by decide +kernel) rfl) pa_nil))) (pe_and (pe_cmpR op_eq (pe_callB call_len_seq (by rfl) B.len (by decide +kernel) (pa_cons (pv 0) pa_nil)) pe_int (nomark _)) (pe_and (pe_c c_is_number hr (by decide) (by rfl) (pa_cons (pe_ix ix_tup (pv 0) pe_int (fun _ _ => rfl)) pa_nil)) (pe_one (pe_c c_is_number hr (by decide) (by rfl) (pa_cons (pe_ix ix_tup (pv 0) pe_int (fun _ _ => rfl)) pa_nil)))))))), ?_⟩
    refine ⟨_, rfl, ?_⟩
    dsimp only [tCons, tC, tNil]
    refine isi_tupO hk (fun p us e ep n k => ?_) fun no => ⟨false, rfl, iteF (q0 fun t ⟨p, e, ep⟩ => no _ _ e ep)⟩
    subst e
    refine ⟨true, rfl, iteT ?_⟩
    refine ⟨_, rfl, p, _, rfl, .inr (SqT.of ep), rfl, _, rfl, ?_⟩
    have tie : ∀ t, Tie H (.ref p) t → us = [.int t.1, .int t.2] := fun t ⟨p', e', ep'⟩ => by
      cases e'
      rw [ep] at ep'
      exact HO.tup.inj (Option.some.inj ep')
    by_cases h2 : us.length = 2
    · rw [show decide (V.int (us.length : Int) = V.int 2) = true from decide_eq_true (by rw [h2]; rfl)]
      refine iteT ?_
      obtain ⟨x, y, rfl⟩ : ∃ x y, us = [x, y] := by
        cases us with
        | nil => cases h2
        | cons x r =>
          cases r with
          | nil => cases h2
          | cons y r =>
            cases r with
            | nil => exact ⟨x, y, rfl⟩
            | cons z r => cases h2
      refine ⟨_, rfl, p, _, _, _, rfl, rfl, SqT.of ep, rfl, x, rfl, k x List.mem_cons_self, _, rfl, ?_⟩
      cases hx : intB x with
      | false =>
        refine iteF (q0 fun t ht => ?_)
        have e := tie t ht
        injection e with e1 _
        rw [e1] at hx
        cases hx
      | true =>
        refine iteT ⟨_, rfl, p, _, _, _, rfl, rfl, SqT.of ep, rfl, y, rfl, k y (List.mem_cons_of_mem _ List.mem_cons_self), ?_⟩
        cases hy : intB y with
        | false =>
          refine q0 fun t ht => ?_
          have e := tie t ht
          injection e with _ e2
          injection e2 with e2 _
          rw [e2] at hy
          cases hy
        | true =>
          obtain ⟨i, rfl⟩ := intB_iff.mp hx
          obtain ⟨j, rfl⟩ := intB_iff.mp hy
          exact q1 (i, j) ⟨p, rfl, ep⟩
    · rw [show decide (V.int (us.length : Int) = V.int 2) = false from decide_eq_false (fun z => h2 (by have := V.int.inj z; omega))]
      exact iteF (q0 fun t ht => h2 (by rw [tie t ht]; rfl))
/-! ### is_tie -/
abbrev s_is_tie : Stmt := topS 5
abbrev N_is_tie : List Str := ["many", "thing"]
theorem sc_is_tie : FnScope N_is_tie ["many", "thing"] (defScope s_is_tie) := ⟨rfl, rfl, rfl, by decide +kernel, rfl, by decide +kernel, by decide +kernel⟩
def sp_tieO : Sp := fun vs H Q _ => ∃ (n : Int) (v : V), vs = [.int n, v] ∧ KnD H 2 v ∧ (∀ t, Tie H v t → 0 ≤ t.1 → t.1 < t.2 → t.2 < n → Q (.bl true) H) ∧ ((∀ t, Tie H v t → ¬ (0 ≤ t.1 ∧ t.1 < t.2 ∧ t.2 < n)) → Q (.bl false) H)
theorem ok_tieO {f : Addr} {fd : FuncData} (B : Bts mg) (F : Fun K "is_tie" "is_tie" s_is_tie f fd) (c_is_pair : Cl P w K mg base 2 "is_pair" sp_pairO) : FnOk P w K mg base CX0 3 f fd ["many", "thing"] sp_tieO := by
  refine F.ok sc_is_tie (fun vs H Q E h => ?_) (fun cdv A outer s H vs Q E hr h => ?_)
  · obtain ⟨n, v, rfl, _⟩ := h; rfl
  · obtain ⟨n, v, rfl, hk, q1, q0⟩ := h
    refine ⟨_, (pss_one (ps_ret (pe_and (pe_c c_is_pair hr (by decide) (by rfl) (pa_cons (pv 1) pa_nil)) (pe_one (pe_chain3 op_le op_lt op_lt pe_int (pe_ix ix_tup (pv 1) pe_int (fun _ _ => rfl)) (pe_ix ix_tup (pv 1) pe_int (fun _ _ => rfl)) (pv 0)))))), ?_⟩
    refine ⟨_, rfl, v, rfl, hk, fun t ht => ?_, fun no => ⟨false, rfl, iteF (q0 fun t ht => absurd ht (no t))⟩⟩
    obtain ⟨p, rfl, ep⟩ := id ht
    have un : ∀ s, Tie H (.ref p) s → s = t := fun s hs => hs.uniqO ht
    refine ⟨true, rfl, iteT ?_⟩
    refine ⟨_, rfl, p, _, _, _, rfl, rfl, SqT.of ep, rfl, _, _, rfl, rfl, _, rfl, ?_⟩
    by_cases h1 : 0 ≤ t.1
    · rw [decide_eq_true h1]
      refine iteT ⟨_, rfl, p, _, _, _, rfl, rfl, SqT.of ep, rfl, _, _, rfl, rfl, _, rfl, ?_⟩
      by_cases h2 : t.1 < t.2
      · rw [decide_eq_true h2]
        refine iteT ⟨_, rfl, _, _, rfl, rfl, ?_⟩
        show Q (.bl (decide (t.2 < n))) H
        by_cases h3 : t.2 < n
        · rw [decide_eq_true h3]; exact q1 t ht h1 h2 h3
        · rw [decide_eq_false h3]; exact q0 fun s hs z => h3 (by rw [← un s hs]; exact z.2.2)
      · rw [decide_eq_false h2]; exact iteF (q0 fun s hs z => h2 (by rw [← un s hs]; exact z.2.1))
    · rw [decide_eq_false h1]; exact iteF (q0 fun s hs z => h1 (by rw [← un s hs]; exact z.1))
end
end My

set_option Elab.async false
set_option linter.all false
set_option maxRecDepth 100000
set_option maxHeartbeats 4000000
set_option pp.maxSteps 900
namespace My
open PySem PySem.Spec PyProof.Rows L2 GxR
theorem tabG_sameO {H H' : Hp} {P : Addr} (h : TabG H P) (s : Same H H') : TabG H' P := by
  obtain ⟨ps, h1, h2⟩ := h
  exact ⟨ps, s _ _ h1, h2⟩
section
variable {P : Program} {w : World} {K : PySem.W.Frag} {mg : Str → Option Value} {base : Heap}
/-! ### is_rising -/
abbrev s_is_rising : Stmt := topS 6
abbrev N_is_rising : List Str := ["row", "one", "later"]
theorem sc_is_rising : FnScope N_is_rising ["row"] (defScope s_is_rising) := ⟨rfl, rfl, rfl, by decide +kernel, rfl, by decide +kernel, by decide +kernel⟩
def sp_risO (PT : Addr) : Sp := fun vs H Q _ => ∃ (q : Addr) (us : List V) (ts : List (Int × Int)), vs = [.ref q] ∧ H q = some (.tup us) ∧ Ties H us ts ∧ ts.length ≤ 10000 ∧ TabG H PT ∧
  ∀ H', FrM [PT] H H' → TabG H' PT → Q (.bl (decide (ts.Pairwise ltT))) H'
theorem ok_risO {f c PT : Addr} {fd : FuncData} (B : Bts mg) (F : Fun K "is_rising" "is_rising" s_is_rising f fd) (hc : fd.code = .ref c) (TB : TabB base mg c PT) :
    FnOk P w K mg base CX0 2 f fd ["row"] (sp_risO PT) := by
  refine okC F hc sc_is_rising (fun vs H Q E h => ?_) (fun A outer s H vs Q E hr h => ?_)
  · obtain ⟨v, us, t, rfl, _⟩ := h; rfl
  · obtain ⟨qa, us, ts, rfl, eq, hT, hl, tg, q⟩ := h
    refine ⟨_, (pss_one (ps_ret (pe_allG (own := [("one", 1), ("later", 2)]) (g := (gTup K 2 (gCons (gName 1) (gCons (gName 2) gNil)))) (te := (tOp (rLtT K) _ _)) rfl sc_is_rising.nd hr (by rfl) B.all TB rfl ⟨rfl, by decide +kernel, rfl⟩ (blkOk_by (own := [("one", 1), ("later", 2)]) (N := N_is_rising) (sc := defScope s_is_rising) (by decide +kernel)) (RZ.pi_zipA (by rfl) B.zip (pa_cons (pv 0) (pa_cons (pe_slice sl_tupA (pv 0) (po_some pe_int) po_none) pa_nil))) (fun _ _ _ _ _ _ _ => (pg_tup rfl (pgs_cons (pg_name (i := 1) sc_is_rising.nd rfl (by first | exact Or.inl rfl | exact Or.inr rfl)) (pgs_cons (pg_name (i := 2) sc_is_rising.nd rfl (by first | exact Or.inl rfl | exact Or.inr rfl)) pgs_nil)))) (fun _ _ _ _ _ _ _ hr => (pe_cmpR (op_ltT hr.units0) (pv 1) (pv 2) (nomark _)))))), ?_⟩
    have ul := hT.len
    have key : ∀ (b : Addr) (H1 : Hp), Same H H1 → TabG H1 PT → H1 b = some (.tup (us.drop 1)) →
        (fun J H2 => TabG H2 PT ∧ ∀ H3, Tabbed PT H2 H3 → ∃ W : Nat → Nat → Hp → Prop, (∃ m, W 0 m H3) ∧ ∀ i m H, W i m H → (J.stop i H ∧ Q (.bl true) H) ∨
          (J.go i H ∧ ∃ Nx : Hp → Prop, (∀ H', Nx H' → ∃ m', m' < m ∧ W (i + 1) m' H') ∧ ∀ x H', J.yld i H x H' → (gTup K 2 (gCons (gName 1) (gCons (gName 2) gNil))) x (wipe (start N_is_rising [V.ref qa]) [1, 2]) H' fun σ2 H2 => wipe σ2 [1, 2] = wipe (start N_is_rising [V.ref qa]) [1, 2] ∧
            (tOp (rLtT K) (tVar 1) (tVar 2)) σ2 H2 fun y H3 => ∃ b, y = .bl b ∧ if b = true then Nx H3 else Q (.bl false) H3)) (RZ.ItzT K qa b) H1 := by
      intro b H1 sm tg1 eb
      refine ⟨tg1, fun H3 tb => ?_⟩
      have t3 : Tst H H3 := (Same.tst sm).trans (tb_tst tb tg1)
      refine allG_it (walk_zipT (K := K) (a := qa) (b := b) (xs := us) (ys := us.drop 1) rfl) (fun i H4 => FrM [PT] H H4 ∧ TabG H4 PT ∧ Tst H H4 ∧ H4 b = some (.tup (us.drop 1)) ∧ (ts.take (i + 1)).Pairwise ltT)
        ⟨(FrM.same sm).trans (tb_frM tb), tb.1, t3, tb_tst tb tg1 _ _ eb, by cases ts <;> simp⟩ ?_ ?_ ?_
      · rintro i H4 _ ⟨_, _, t4, e4, _⟩
        exact ⟨SqT.of (t4 _ _ eq), SqT.of e4⟩
      · rintro i x H4 H5 hi ⟨fr4, tg4, t4, e4, pw⟩ ⟨T, x1, x2, rfl, nT, rfl, ex1, ex2⟩
        dsimp only at ex1 ex2
        obtain ⟨s1, es1, hs1⟩ := (hT.mono t4).at ex1
        rw [List.getElem?_drop] at ex2
        obtain ⟨s2, es2, hs2⟩ := (hT.mono t4).at ex2
        rw [Nat.add_comm] at es2
        have a5 := tst_new (o := .tup [x1, x2]) nT
        obtain ⟨p1, rfl, ep1⟩ := hs1.mono a5
        obtain ⟨p2, rfl, ep2⟩ := hs2.mono a5
        refine ⟨T, _, rfl, SqT.of upd_same, rfl, _, _, rfl, _, _, rfl, rfl, rfl, ?_⟩
        refine ⟨_, rfl, _, rfl, p1, p2, [s1.1, s1.2], [s2.1, s2.2], rfl, rfl, SqT.of ep1, SqT.of ep2, _, rfl, ?_⟩
        rw [lex_iffO]
        by_cases lt : ltT s1 s2
        · rw [decide_eq_true lt]
          exact iteT ⟨fr4.trans (FrM.same (same_new nT)), tabG_new tg4 nT, t4.trans a5, a5 _ _ e4, pw_next pw es1 es2 lt⟩
        · rw [decide_eq_false lt]
          refine iteF ?_
          have qq := q _ (fr4.trans (FrM.same (same_new (o := .tup [.ref p1, .ref p2]) nT))) (tabG_new tg4 nT)
          rw [decide_eq_false (pw_not es1 es2 lt)] at qq
          exact qq
      · rintro H4 ⟨fr4, tg4, _, _, pw⟩
        have pw' : ts.Pairwise ltT := by
          have e : ts.take (min us.length (us.drop 1).length + 1) = ts := by
            refine List.take_of_length_le ?_
            rw [List.length_drop]
            omega
          rw [← e]; exact pw
        have := q H4 fr4 tg4
        rw [decide_eq_true pw'] at this
        exact this
    refine ⟨_, rfl, _, rfl, _, rfl, qa, us, rfl, SqT.of eq, fun hw => ?_, fun hw b nb => ?_⟩
    · -- the empty tuple is its own slice
      have e0 : us = [] := by
        cases us with
        | nil => rfl
        | cons a r =>
          have h1 := hw.1
          rw [show HT.sIx (a :: r).length 0 (some 1) = min 1 (a :: r).length from HT.sIx_nat _ 0 1, List.length_cons] at h1
          omega
      subst e0
      exact ⟨qa, qa, _, _, rfl, .inr ⟨SqT.of eq, SqT.of eq, key qa H (Same.refl H) tg eq⟩⟩
    · rw [cut1]
      have sm := same_new (o := .tup (us.drop 1)) nb
      exact ⟨qa, b, _, _, rfl, .inr ⟨SqT.of (sm _ _ eq), SqT.of upd_same, key b _ sm (tabG_new tg nb) upd_same⟩⟩
/-! ### is_web -/
abbrev s_is_web : Stmt := topS 4
abbrev N_is_web : List Str := ["thing", "many", "ties", "tie"]
theorem sc_is_web : FnScope N_is_web ["thing"] (defScope s_is_web) := ⟨rfl, rfl, rfl, by decide +kernel, rfl, by decide +kernel, by decide +kernel⟩
def sp_webO (P1 P2 : Addr) : Sp := fun vs H Q _ => ∃ (v : V), vs = [v] ∧ KnD H 4 v ∧ TabG H P1 ∧ TabG H P2 ∧
  ∀ (b : Bool) H', (b = true ↔ IsW H v) → FrM [P1, P2] H H' → TabG H' P1 → TabG H' P2 → Q (.bl b) H'
theorem ok_webO {f c P1 P2 : Addr} {fd : FuncData} (B : Bts mg) (F : Fun K "is_web" "is_web" s_is_web f fd) (hc : fd.code = .ref c) (TB : TabB base mg c P1) (hne : P1 ≠ P2)
    (c_is_number : Cl P w K mg base 1 "is_number" sp_numO) (c_is_tie : Cl P w K mg base 3 "is_tie" sp_tieO) (c_is_rising : Cl P w K mg base 2 "is_rising" (sp_risO P2)) :
    FnOk P w K mg base CX0 5 f fd ["thing"] (sp_webO P1 P2) := by
  refine okC F hc sc_is_web (fun vs H Q E h => ?_) (fun A outer s H vs Q E hr h => ?_)
  · obtain ⟨v, rfl, _⟩ := h; rfl
  · obtain ⟨v, rfl, hk, tg1, tg2, q⟩ := h
    refine ⟨_, (pss_cons (ps_if (PW.pt (pw_or (pt_not (pt_val (pe_callB call_isi (by rfl) B.isinstance (by decide +kernel) (pa_cons (pv 0) (pa_cons (pe_bltn (v := .ty "tuple") (by rfl) B.tuple (by decide +kernel) rfl) pa_nil))))) (pw_or1 (pt_cmpR op_ne (pe_callB call_len_seq (by rfl) B.len (by decide +kernel) (pa_cons (pv 0) pa_nil)) pe_int (nomark _))))) (pss_one (ps_ret pe_bl)) pss_nil)
    (pss_cons (ps_asg (pv 0) (pg_tup rfl (pgs_cons (pg_name (i := 1) sc_is_web.nd rfl (by first | exact Or.inl rfl | exact Or.inr rfl)) (pgs_cons (pg_name (i := 2) sc_is_web.nd rfl (by first | exact Or.inl rfl | exact Or.inr rfl)) pgs_nil))))
    (pss_cons (ps_if (PW.pt (pw_or (pt_not (pt_val (pe_c c_is_number hr (by decide) (by rfl) (pa_cons (pv 1) pa_nil)))) (pw_or (pt_cmpR op_lt (pv 1) pe_int (nomark _)) (pw_or1 (pt_not (pt_val (pe_callB call_isi (by rfl) B.isinstance (by decide +kernel) (pa_cons (pv 2) (pa_cons (pe_bltn (v := .ty "tuple") (by rfl) B.tuple (by decide +kernel) rfl) pa_nil))))))))) (pss_one (ps_ret pe_bl)) pss_nil)
    (pss_one (ps_ret (pe_and (pe_allG (own := [("tie", 3)]) (g := (gName 3)) rfl sc_is_web.nd hr (by rfl) B.all TB rfl ⟨rfl, by decide +kernel, rfl⟩ (blkOk_by (own := [("tie", 3)]) (N := N_is_web) (sc := defScope s_is_web) (by decide +kernel)) (pi_tup (pv 2)) (fun _ _ _ _ _ _ _ => (pg_name (i := 3) sc_is_web.nd rfl (by first | exact Or.inl rfl | exact Or.inr rfl))) (fun _ _ _ _ _ _ _ hr => (pe_c c_is_tie hr (by decide) (by rfl) (pa_cons (pv 1) (pa_cons (pv 3) pa_nil))))) (pe_one (pe_c c_is_rising hr (by decide) (by rfl) (pa_cons (pv 2) pa_nil))))))))), ?_⟩
    have qN : ∀ H', Same H H' → (¬ IsW H v) → Q (.bl false) H' := fun H' s no => q false H' ⟨fun z => (by cases z), fun z => absurd z no⟩ (FrM.same s) (tabG_sameO tg1 s) (tabG_sameO tg2 s)
    refine ⟨_, rfl, ?_⟩
    dsimp only [tCons, tC, tNil]
    refine isi_tupO hk (fun p us e ep n k => ?_) fun no => ⟨false, rfl, iteT (qN _ (Same.refl _) fun ⟨n, ts, ⟨p, _, _, e, ep, _⟩, _⟩ => no _ _ e ep)⟩
    subst e
    refine ⟨true, rfl, iteF ?_⟩
    refine ⟨_, rfl, p, _, rfl, .inr (SqT.of ep), rfl, _, rfl, ?_⟩
    have web : ∀ n ts, Web H (.ref p) n ts → ∃ qa vs, us = [.int (n : Int), .ref qa] ∧ H qa = some (.tup vs) ∧ Ties H vs ts := fun n ts ⟨p', qa, vs, e', ep', eq, hT⟩ => by
      cases e'
      rw [ep] at ep'
      exact ⟨qa, vs, HO.tup.inj (Option.some.inj ep'), eq, hT⟩
    by_cases h2 : us.length = 2
    · rw [show (!decide (V.int (us.length : Int) = V.int 2)) = false from by rw [decide_eq_true (by rw [h2]; rfl)]; rfl]
      refine iteF ?_
      obtain ⟨x, y, rfl⟩ : ∃ x y, us = [x, y] := by
        cases us with
        | nil => cases h2
        | cons x r =>
          cases r with
          | nil => cases h2
          | cons y r =>
            cases r with
            | nil => exact ⟨x, y, rfl⟩
            | cons z r => cases h2
      have kx := k x List.mem_cons_self
      have ky := k y (List.mem_cons_of_mem _ List.mem_cons_self)
      refine ⟨_, rfl, p, _, rfl, SqT.of ep, rfl, _, _, rfl, _, _, rfl, rfl, ?_⟩
      refine ⟨_, rfl, x, rfl, kx.le (by decide), _, rfl, ?_⟩
      cases hx : intB x with
      | false =>
        refine iteT (qN _ (Same.refl _) fun ⟨n, ts, hw, _⟩ => ?_)
        obtain ⟨_, _, e, _⟩ := web n ts hw
        injection e with e _
        rw [e] at hx
        cases hx
      | true =>
        obtain ⟨i, rfl⟩ := intB_iff.mp hx
        refine iteF ?_
        refine ⟨_, rfl, _, _, rfl, rfl, _, rfl, ?_⟩
        by_cases hi : i < 0
        · rw [decide_eq_true hi]
          refine iteT (qN _ (Same.refl _) fun ⟨n, ts, hw, _⟩ => ?_)
          obtain ⟨_, _, e, _⟩ := web n ts hw
          injection e with e _
          have := V.int.inj e
          omega
        · rw [decide_eq_false hi]
          refine iteF ?_
          refine ⟨_, rfl, ?_⟩
          dsimp only [tCons, tC, tNil]
          refine isi_tupO ky (fun qa vs e eq n' k' => ?_) fun no => ⟨false, rfl, iteT (qN _ (Same.refl _) fun ⟨n, ts, hw, _⟩ => ?_)⟩
          · subst e
            refine ⟨true, rfl, iteF ?_⟩
            obtain ⟨m, rfl⟩ : ∃ m : Nat, i = (m : Int) := ⟨i.toNat, by omega⟩
            refine ⟨_, rfl, qa, rfl, ⟨_, SqT.of eq⟩, tg1, fun H2 tb => ?_⟩
            have t2 := tb_tst tb tg1
            have nP2 : ∀ {Hx Hy : Hp}, Tabbed P1 Hx Hy → TabG Hx P2 → TabG Hy P2 := fun {Hx Hy} tb ⟨ps, h1, h2⟩ => ⟨ps, by rw [tb.2 P2 hne.symm]; exact h1, h2⟩
            have fr2 : FrM [P1, P2] H H2 := (tb_frM tb).wk (by simp)
            have l2 : LSt H H2 := fun p us e => by
              refine ⟨us, tb_frM tb _ _ (fun z => ?_) e⟩
              obtain ⟨ps, h1, _⟩ := tg1
              rw [List.mem_singleton.mp z, h1] at e
              cases e
            refine allG_it (walk_tup (K := K) (a := qa) (xs := vs)) (fun j H3 => H3 = H2 ∧ ∀ (l : Nat) u, l < j → vs[l]? = some u → ∃ t, Tie H u t ∧ 0 ≤ t.1 ∧ t.1 < t.2 ∧ t.2 < (m : Int)) ⟨rfl, fun l u hl => absurd hl (Nat.not_lt_zero _)⟩ ?_ ?_ ?_
            · rintro j H3 _ ⟨rfl, _⟩
              exact SqT.of (t2 _ _ eq)
            · rintro j z H3 H4 hj ⟨rfl, hI⟩ ⟨rfl, hz⟩
              have kz := (k' z (List.mem_of_getElem? hz)).mono t2 l2
              refine ⟨rfl, _, rfl, _, rfl, m, z, rfl, kz.le (by decide), fun t ht h1 h2 h3 => ⟨true, rfl, iteT ⟨rfl, fun l u hl hu => ?_⟩⟩, fun no => ⟨false, rfl, iteF ⟨false, rfl, iteF (q false _ ⟨fun z => (by cases z), fun ⟨n, ts, hw, hW⟩ => ?_⟩ fr2 tb.1 (nP2 tb tg2))⟩⟩⟩
              · rcases (by omega : l < j ∨ l = j) with c | c
                · exact hI l u c hu
                · subst c
                  rw [hz] at hu
                  cases hu
                  have ht0 : Tie H z t := by
                    obtain ⟨pt, rfl, ept⟩ := ht
                    rcases (k' _ (List.mem_of_getElem? hz)) with h | ⟨p', us', e', h⟩ | ⟨p', us', e', h, _, _⟩
                    · cases h
                    · cases e'
                      obtain ⟨us'', h'⟩ := l2 _ _ h
                      rw [ept] at h'; cases h'
                    · cases e'
                      have h' := t2 _ _ h
                      rw [ept] at h'
                      injection h' with h'
                      exact ⟨pt, rfl, by rw [h, ← h']⟩
                  exact ⟨t, ht0, h1, h2, h3⟩
              · obtain ⟨qa', vs', e, eq', hT⟩ := web n ts hw
                injection e with e1 e2
                injection e2 with e2 _
                cases e2
                rw [eq] at eq'
                cases eq'
                obtain ⟨t, et, ht⟩ := hT.at hz
                have b := hW.2 t (List.mem_of_getElem? et)
                have e1 := V.int.inj e1
                exact absurd ⟨b.1, b.2.1, by rw [e1]; exact b.2.2⟩ (no t (ht.mono t2))
            · rintro H3 ⟨rfl, hI⟩
              refine ⟨true, rfl, iteT ?_⟩
              obtain ⟨ts, hT, hP⟩ := ties_ex (H := H) (P := fun t => 0 ≤ t.1 ∧ t.1 < t.2 ∧ t.2 < (m : Int)) (us := vs) fun l u hu => hI l u (List.getElem?_eq_some_iff.mp hu).1 hu
              have tl := hT.len
              refine ⟨_, rfl, qa, vs, ts, rfl, t2 _ _ eq, hT.mono t2, by omega, nP2 tb tg2, fun H4 fr4 tg4 => ?_⟩
              refine q _ H4 ?_ (fr2.trans (fr4.wk (by simp))) ?_ tg4
              · rw [decide_eq_true_eq]
                constructor
                · exact fun pw => ⟨m, ts, ⟨p, qa, vs, rfl, ep, eq, hT⟩, pw, hP⟩
                · rintro ⟨n, ts', hw, hW⟩
                  obtain ⟨qa', vs', e, eq', hT'⟩ := web n ts' hw
                  injection e with e1 e2
                  injection e2 with e2 _
                  cases e2
                  rw [eq] at eq'
                  cases eq'
                  rw [hT.uniqO hT']; exact hW.1
              · obtain ⟨ps, h1, h2⟩ := tb.1
                exact ⟨ps, fr4 _ _ (by simp [hne]) h1, h2⟩
          · obtain ⟨qa, vs, e, eq, _⟩ := web n ts hw
            injection e with _ e2
            injection e2 with e2 _
            exact no _ _ e2 eq
    · rw [show (!decide (V.int (us.length : Int) = V.int 2)) = true from by rw [decide_eq_false (fun z => h2 (by have := V.int.inj z; omega))]; rfl]
      refine iteT (qN _ (Same.refl _) fun ⟨n, ts, hw, _⟩ => ?_)
      obtain ⟨_, _, e, _⟩ := web n ts hw
      rw [e] at h2
      exact h2 rfl
/-! ### _law_is_web -/
abbrev s__law_is_web : Stmt := topS 21
abbrev N__law_is_web : List Str := ["_law_thing", "_law_last", "_law_tie"]
theorem sc__law_is_web : FnScope N__law_is_web ["_law_thing"] (defScope s__law_is_web) := ⟨rfl, rfl, rfl, by decide +kernel, rfl, by decide +kernel, by decide +kernel⟩
def sp_lwebO : Sp := fun vs H Q _ => ∃ (v : V), vs = [v] ∧ KnD H 4 v ∧ ∀ (b : Bool) H', (b = true ↔ IsW H v) → Same H H' → Q (.bl b) H'
theorem ok_lwebO {f : Addr} {fd : FuncData} (B : Bts mg) (F : Fun K "_law_is_web" "_law_is_web" s__law_is_web f fd) (c__law_is_number : Cl P w K mg base 1 "_law_is_number" sp_lnumO) : FnOk P w K mg base CX0 2 f fd ["_law_thing"] sp_lwebO := by
  refine F.ok sc__law_is_web (fun vs H Q E h => ?_) (fun cdv A outer s H vs Q E hr h => ?_)
  · obtain ⟨v, rfl, _⟩ := h; rfl
  · obtain ⟨v, rfl, hk, q⟩ := h
    refine ⟨_, (pss_cons (ps_if (PW.pt (pw_or (pt_not (pt_val (pe_callB call_isi (by rfl) B.isinstance (by decide +kernel) (pa_cons (pv 0) (pa_cons (pe_bltn (v := .ty "tuple") (by rfl) B.tuple (by decide +kernel) rfl) pa_nil))))) (pw_or (pt_cmpR op_ne (pe_callB call_len_seq (by rfl) B.len (by decide +kernel) (pa_cons (pv 0) pa_nil)) pe_int (nomark _)) (pw_or (pt_not (pt_val (pe_c c__law_is_number hr (by decide) (by rfl) (pa_cons (pe_ix ix_tup (pv 0) pe_int (fun _ _ => rfl)) pa_nil)))) (pw_or1 (pt_cmpR op_lt (pe_ix ix_tup (pv 0) pe_int (fun _ _ => rfl)) pe_int (nomark _))))))) (pss_one (ps_ret pe_bl)) pss_nil)
    (pss_cons (ps_if (pt_not (pt_val (pe_callB call_isi (by rfl) B.isinstance (by decide +kernel) (pa_cons (pe_ix ix_tup (pv 0) pe_int (fun _ _ => rfl)) (pa_cons (pe_bltn (v := .ty "tuple") (by rfl) B.tuple (by decide +kernel) rfl) pa_nil))))) (pss_one (ps_ret pe_bl)) pss_nil)
    (pss_cons (ps_set (i := 1) sc__law_is_web.nd rfl (by first | exact Or.inl rfl | exact Or.inr rfl) (pe_tup (pa_cons (pe_un un_neg pe_int) (pa_cons (pe_un un_neg pe_int) pa_nil))))
    (pss_cons (ps_for PassesOwn.never rfl (pi_tup (pe_ix ix_tup (pv 0) pe_int (fun _ _ => rfl))) (pg_name (i := 2) sc__law_is_web.nd rfl (by first | exact Or.inl rfl | exact Or.inr rfl))
      (pss_cons (ps_if (PW.pt (pw_or (pt_not (pt_val (pe_callB call_isi (by rfl) B.isinstance (by decide +kernel) (pa_cons (pv 2) (pa_cons (pe_bltn (v := .ty "tuple") (by rfl) B.tuple (by decide +kernel) rfl) pa_nil))))) (pw_or (pt_cmpR op_ne (pe_callB call_len_seq (by rfl) B.len (by decide +kernel) (pa_cons (pv 2) pa_nil)) pe_int (nomark _)) (pw_or (pt_not (pt_val (pe_c c__law_is_number hr (by decide) (by rfl) (pa_cons (pe_ix ix_tup (pv 2) pe_int (fun _ _ => rfl)) pa_nil)))) (pw_or1 (pt_not (pt_val (pe_c c__law_is_number hr (by decide) (by rfl) (pa_cons (pe_ix ix_tup (pv 2) pe_int (fun _ _ => rfl)) pa_nil))))))))) (pss_one (ps_ret pe_bl)) pss_nil)
      (pss_cons (ps_if (PW.pt (pw_or (pt_not (pt_chain3 op_le op_lt op_lt pe_int (pe_ix ix_tup (pv 2) pe_int (fun _ _ => rfl)) (pe_ix ix_tup (pv 2) pe_int (fun _ _ => rfl)) (pe_ix ix_tup (pv 0) pe_int (fun _ _ => rfl)))) (pw_or1 (pt_not (pt_cmpR (op_ltT hr.units0) (pv 1) (pv 2) (nomark _)))))) (pss_one (ps_ret pe_bl)) pss_nil)
      (pss_one (ps_set (i := 1) sc__law_is_web.nd rfl (by first | exact Or.inl rfl | exact Or.inr rfl) (pv 2))))))
    (pss_one (ps_ret pe_bl)))))), ?_⟩
    have qN : ∀ H', Same H H' → (¬ IsW H v) → Q (.bl false) H' := fun H' s no => q false H' ⟨fun z => (by cases z), fun z => absurd z no⟩ s
    refine ⟨_, rfl, ?_⟩
    dsimp only [tCons, tC, tNil]
    refine isi_tupO hk (fun p us e ep n k => ?_) fun no => ⟨false, rfl, iteT (qN _ (Same.refl _) fun ⟨n, ts, ⟨p, _, _, e, ep, _⟩, _⟩ => no _ _ e ep)⟩
    subst e
    refine ⟨true, rfl, iteF ?_⟩
    refine ⟨_, rfl, p, _, rfl, .inr (SqT.of ep), rfl, _, rfl, ?_⟩
    have web : ∀ n ts, Web H (.ref p) n ts → ∃ qa vs, us = [.int (n : Int), .ref qa] ∧ H qa = some (.tup vs) ∧ Ties H vs ts := fun n ts ⟨p', qa, vs, e', ep', eq, hT⟩ => by
      cases e'
      rw [ep] at ep'
      exact ⟨qa, vs, HO.tup.inj (Option.some.inj ep'), eq, hT⟩
    by_cases h2 : us.length = 2
    · rw [show (!decide (V.int (us.length : Int) = V.int 2)) = false from by rw [decide_eq_true (by rw [h2]; rfl)]; rfl]
      refine iteF ?_
      obtain ⟨x, y, rfl⟩ : ∃ x y, us = [x, y] := by
        cases us with
        | nil => cases h2
        | cons x r =>
          cases r with
          | nil => cases h2
          | cons y r =>
            cases r with
            | nil => exact ⟨x, y, rfl⟩
            | cons z r => cases h2
      have kx := k x List.mem_cons_self
      have ky := k y (List.mem_cons_of_mem _ List.mem_cons_self)
      refine ⟨_, rfl, p, _, _, _, rfl, rfl, SqT.of ep, rfl, x, rfl, kx.le (by decide), _, rfl, ?_⟩
      cases hx : intB x with
      | false =>
        refine iteT (qN _ (Same.refl _) fun ⟨n, ts, hw, _⟩ => ?_)
        obtain ⟨_, _, e, _⟩ := web n ts hw
        injection e with e _
        rw [e] at hx
        cases hx
      | true =>
        obtain ⟨i, rfl⟩ := intB_iff.mp hx
        refine iteF ?_
        refine ⟨_, rfl, p, _, _, _, rfl, rfl, SqT.of ep, rfl, _, _, rfl, rfl, _, rfl, ?_⟩
        by_cases hi : i < 0
        · rw [decide_eq_true hi]
          refine iteT (qN _ (Same.refl _) fun ⟨n, ts, hw, _⟩ => ?_)
          obtain ⟨_, _, e, _⟩ := web n ts hw
          injection e with e _
          have := V.int.inj e
          omega
        · rw [decide_eq_false hi]
          refine iteF ?_
          refine ⟨_, rfl, p, _, _, _, rfl, rfl, SqT.of ep, rfl, ?_⟩
          dsimp only [tCons, tC, tNil]
          refine isi_tupO ky (fun qa vs e eq n' k' => ?_) fun no => ⟨false, rfl, iteT (qN _ (Same.refl _) fun ⟨n, ts, hw, _⟩ => ?_)⟩
          · subst e
            refine ⟨true, rfl, iteF ?_⟩
            obtain ⟨m, rfl⟩ : ∃ m : Nat, i = (m : Int) := ⟨i.toNat, by omega⟩
            have tieW : ∀ n ts, Web H (.ref p) n ts → n = m ∧ Ties H vs ts := fun n ts hw => by
              obtain ⟨qa', vs', e, eq', hT⟩ := web n ts hw
              injection e with e1 e2
              injection e2 with e2 _
              cases e2
              rw [eq] at eq'
              cases eq'
              have := V.int.inj e1
              exact ⟨by omega, hT⟩
            refine ⟨_, rfl, _, rfl, by show 2 ≤ sizeLine; decide, fun l0 nl0 => ?_⟩
            have s0 := same_new (o := .tup [.int (-1), .int (-1)]) nl0
            have el0 := upd_same (H := H) (a := l0) (o := .tup [.int (-1), .int (-1)])
            generalize upd H l0 (.tup [.int (-1), .int (-1)]) = H1 at s0 el0 ⊢
            refine ⟨_, rfl, p, _, _, _, rfl, rfl, SqT.of (s0 _ _ ep), rfl, qa, rfl, ⟨_, SqT.of (s0 _ _ eq)⟩, ?_⟩
            refine for_it (walk_tup (K := K) (a := qa) (xs := vs)) (fun j σ HX => ∃ (lp : Addr) (lt : Int × Int) (y2 : Option V) (ts : List (Int × Int)), σ = [some (.ref p), some (.ref lp), y2] ∧ Same H HX ∧ HX lp = some (.tup [.int lt.1, .int lt.2]) ∧ Ties H (vs.take j) ts ∧ ts.Pairwise ltT ∧ (∀ t ∈ ts, 0 ≤ t.1 ∧ t.1 < t.2 ∧ t.2 < (m : Int)) ∧ (∀ t ∈ ts, t = lt ∨ ltT t lt) ∧ (ts = [] → lt = (-1, -1)) ∧ (ts ≠ [] → lt ∈ ts))
              ⟨l0, (-1, -1), _, [], rfl, s0, el0, by rw [List.take_zero]; trivial, .nil, fun t ht => absurd ht List.not_mem_nil, fun t ht => absurd ht List.not_mem_nil, fun _ => rfl, fun z => absurd rfl z⟩ ?_ ?_ ?_
            · rintro j σ HX _ ⟨_, _, _, _, _, sX, _⟩
              exact SqT.of (sX _ _ eq)
            · rintro j z σ HX0 HX hj ⟨lp, lt, y2, ts, rfl, sX, elp, hT, pw, hP, hL, hE, hM⟩ ⟨rfl, hz⟩
              have kz : KnD H 2 z := (k' z (List.mem_of_getElem? hz)).le (by decide)
              have kzX := kz.mono (Same.tst sX) (LSt.same sX)
              have bad : ∀ (g : ∀ t, Tie H z t → 0 ≤ t.1 → t.1 < t.2 → t.2 < (m : Int) → (∀ s ∈ ts, ltT s t) → False), Q (.bl false) HX := fun g => qN _ sX fun ⟨n, ts', hw, hW⟩ => by
                obtain ⟨rfl, hT'⟩ := tieW n ts' hw
                obtain ⟨t, et, ht⟩ := hT'.at hz
                have b := hW.2 t (List.mem_of_getElem? et)
                refine g t ht b.1 b.2.1 b.2.2 fun s hs => ?_
                have hTt : Ties H (vs.take j) (ts'.take j) := by
                  have : ∀ {us : List V} {rs : List (Int × Int)} (j : Nat), Ties H us rs → Ties H (us.take j) (rs.take j) := fun {us} => by
                    induction us with
                    | nil =>
                      intro rs j h
                      cases rs with
                      | nil => rw [List.take_nil, List.take_nil]; trivial
                      | cons _ _ => exact h.elim
                    | cons u us ih =>
                      intro rs j h
                      cases rs with
                      | nil => exact h.elim
                      | cons r rs =>
                        cases j with
                        | zero => trivial
                        | succ j => exact ⟨h.1, ih j h.2⟩
                  exact this j hT'
                rw [hT.uniqO hTt] at hs
                obtain ⟨i, hi, e⟩ := List.mem_take_iff_getElem.mp hs
                obtain ⟨l2, e2⟩ := List.getElem?_eq_some_iff.mp et
                have := (List.pairwise_iff_getElem.mp hW.1) i j (by omega) l2 (by omega)
                rw [e2] at this
                rw [← e]; exact this
              refine ⟨_, rfl, ?_⟩
              dsimp only [tCons, tC, tNil]
              refine isi_tupO kzX (fun pz uz e ez nz kk => ?_) fun no => ⟨false, rfl, iteT (bad fun t ⟨pt, e, ept⟩ _ _ _ _ => no _ _ e (sX _ _ ept))⟩
              subst e
              refine ⟨true, rfl, iteF ?_⟩
              refine ⟨_, rfl, pz, _, rfl, .inr (SqT.of ez), rfl, _, rfl, ?_⟩
              have tie : ∀ t, Tie H (.ref pz) t → uz = [.int t.1, .int t.2] := fun t ⟨p', e', ep'⟩ => by
                cases e'
                have := sX _ _ ep'
                rw [ez] at this
                exact HO.tup.inj (Option.some.inj this)
              by_cases g2 : uz.length = 2
              · rw [show (!decide (V.int (uz.length : Int) = V.int 2)) = false from by rw [decide_eq_true (by rw [g2]; rfl)]; rfl]
                refine iteF ?_
                obtain ⟨x, y, rfl⟩ : ∃ x y, uz = [x, y] := by
                  cases uz with
                  | nil => cases g2
                  | cons x r =>
                    cases r with
                    | nil => cases g2
                    | cons y r =>
                      cases r with
                      | nil => exact ⟨x, y, rfl⟩
                      | cons z r => cases g2
                refine ⟨_, rfl, pz, _, _, _, rfl, rfl, SqT.of ez, rfl, x, rfl, kk x List.mem_cons_self, _, rfl, ?_⟩
                cases hx : intB x with
                | false =>
                  refine iteT (bad fun t ht _ _ _ _ => ?_)
                  have e := tie t ht
                  injection e with e1 _
                  rw [e1] at hx
                  cases hx
                | true =>
                  refine iteF ⟨_, rfl, pz, _, _, _, rfl, rfl, SqT.of ez, rfl, y, rfl, kk y (List.mem_cons_of_mem _ List.mem_cons_self), _, rfl, ?_⟩
                  cases hy : intB y with
                  | false =>
                    refine iteT (bad fun t ht _ _ _ _ => ?_)
                    have e := tie t ht
                    injection e with _ e2
                    injection e2 with e2 _
                    rw [e2] at hy
                    cases hy
                  | true =>
                    refine iteF ?_
                    obtain ⟨a, rfl⟩ := intB_iff.mp hx
                    obtain ⟨b, rfl⟩ := intB_iff.mp hy
                    have hzT : Tie H (.ref pz) (a, b) := by
                      rcases kz with h | ⟨p', us', e', h⟩ | ⟨p', us', e', h, _, _⟩
                      · cases h
                      · cases e'
                        have := sX _ _ h
                        rw [ez] at this; cases this
                      · cases e'
                        have := sX _ _ h
                        rw [ez] at this
                        injection this with this
                        exact ⟨pz, rfl, by rw [h, ← this]⟩
                    have un : ∀ t, Tie H (.ref pz) t → t = (a, b) := fun t ht => ht.uniqO hzT
                    refine ⟨_, rfl, pz, _, _, _, rfl, rfl, SqT.of ez, rfl, _, _, rfl, rfl, _, rfl, ?_⟩
                    by_cases h1 : 0 ≤ a
                    · rw [decide_eq_true h1]
                      refine iteT ⟨_, rfl, pz, _, _, _, rfl, rfl, SqT.of ez, rfl, _, _, rfl, rfl, _, rfl, ?_⟩
                      by_cases h2 : a < b
                      · rw [decide_eq_true h2]
                        refine iteT ⟨_, rfl, p, _, _, _, rfl, rfl, SqT.of (sX _ _ ep), rfl, _, _, rfl, rfl, _, rfl, ?_⟩
                        by_cases h3 : b < (m : Int)
                        · rw [decide_eq_true h3]
                          refine iteF ?_
                          refine ⟨_, rfl, _, rfl, lp, pz, [lt.1, lt.2], [a, b], rfl, rfl, SqT.of elp, SqT.of ez, _, rfl, ?_⟩
                          rw [show HT.lexLt [lt.1, lt.2] [a, b] = decide (ltT lt (a, b)) from lex_iffO (s := lt) (t := (a, b))]
                          by_cases hl : ltT lt (a, b)
                          · rw [decide_eq_true hl]
                            refine iteF ?_
                            refine ⟨_, rfl, pz, (a, b), _, ts ++ [(a, b)], rfl, sX, ez, ?_, ?_, ?_, ?_, ?_, fun _ => List.mem_append_right _ (List.mem_singleton.mpr rfl)⟩
                            · rw [List.take_add_one, hz]
                              exact hT.app (Ties.one hzT)
                            · rw [List.pairwise_append]
                              refine ⟨pw, List.pairwise_singleton .., fun s hs t ht => ?_⟩
                              rw [List.mem_singleton.mp ht]
                              rcases hL s hs with c | c
                              · rw [c]; exact hl
                              · exact ltT_trO c hl
                            · intro t ht
                              rcases List.mem_append.mp ht with c | c
                              · exact hP t c
                              · rw [List.mem_singleton.mp c]; exact ⟨h1, h2, h3⟩
                            · intro t ht
                              rcases List.mem_append.mp ht with c | c
                              · rcases hL t c with c | c
                                · exact .inr (by rw [c]; exact hl)
                                · exact .inr (ltT_trO c hl)
                              · exact .inl (List.mem_singleton.mp c)
                            · intro c
                              exact absurd c (by simp)
                          · rw [decide_eq_false hl]
                            refine iteT (bad fun t ht _ _ _ g => hl ?_)
                            rw [← un t ht]
                            cases ts with
                            | nil =>
                              rw [hE rfl]
                              have := un t ht
                              unfold ltT
                              rw [this]
                              dsimp only
                              omega
                            | cons s ts =>
                              -- the last one is one of them
                              have : lt ∈ s :: ts := hM (by simp)
                              exact g lt this
                        · rw [decide_eq_false h3]
                          exact iteT (bad fun t ht _ _ z _ => h3 (by rw [un t ht] at z; exact z))
                      · rw [decide_eq_false h2]
                        exact iteF ⟨false, rfl, iteT (bad fun t ht _ z _ _ => h2 (by rw [un t ht] at z; exact z))⟩
                    · rw [decide_eq_false h1]
                      exact iteF ⟨false, rfl, iteT (bad fun t ht z _ _ _ => h1 (by rw [un t ht] at z; exact z))⟩
              · rw [show (!decide (V.int (uz.length : Int) = V.int 2)) = true from by rw [decide_eq_false (fun z => g2 (by have := V.int.inj z; omega))]; rfl]
                exact iteT (bad fun t ht _ _ _ _ => g2 (by rw [tie t ht]; rfl))
            · rintro σ HX ⟨lp, lt, y2, ts, rfl, sX, elp, hT, pw, hP, hL, hE, hM⟩
              rw [List.take_length] at hT
              exact q true _ ⟨fun _ => ⟨m, ts, ⟨p, qa, vs, rfl, ep, eq, hT⟩, pw, hP⟩, fun _ => rfl⟩ sX
          · obtain ⟨qa, vs, e, eq, _⟩ := web n ts hw
            injection e with _ e2
            injection e2 with e2 _
            exact no _ _ e2 eq
    · rw [show (!decide (V.int (us.length : Int) = V.int 2)) = true from by rw [decide_eq_false (fun z => h2 (by have := V.int.inj z; omega))]; rfl]
      refine iteT (qN _ (Same.refl _) fun ⟨n, ts, hw, _⟩ => ?_)
      obtain ⟨_, _, e, _⟩ := web n ts hw
      rw [e] at h2
      exact h2 rfl
end
end My

set_option Elab.async false
set_option linter.all false
set_option maxRecDepth 100000
set_option maxHeartbeats 4000000
set_option pp.maxSteps 900
namespace My
open PySem PySem.Spec PyProof.Rows L2 GxR
def oddC : Nat → Int
  | 0 => 0
  | m + 1 => 4 + 2 * oddC m
theorem oddC_nn : ∀ m, 0 ≤ oddC m
  | 0 => Int.le_refl _
  | m + 1 => by
    have := oddC_nn m
    show 0 ≤ 4 + 2 * oddC m
    omega
theorem kn_non {H : Hp} : Kn H .non := Kn.flat rfl
theorem kn_bl {H : Hp} {b : Bool} : Kn H (.bl b) := Kn.flat rfl
theorem kn_int {H : Hp} {b : Int} : Kn H (.int b) := Kn.flat rfl
theorem kn_str {H : Hp} {b : Str} : Kn H (.str b) := Kn.flat rfl
section
variable {P : Program} {w : World} {K : PySem.W.Frag} {mg : Str → Option Value} {base : Heap}
/-! ### _law_odd -/
abbrev s__law_odd : Stmt := topS 19
abbrev N__law_odd : List Str := ["_law_left_here", "_law_deep", "_law_way", "_law_some", "_law_inner", "_law_k"]
theorem sc__law_odd : FnScope N__law_odd ["_law_left_here", "_law_deep"] (defScope s__law_odd) := ⟨rfl, rfl, rfl, by decide +kernel, rfl, by decide +kernel, by decide +kernel⟩
def sp_odd : Nat → Sp
  | 0 => fun _ _ _ _ => False
  | m + 1 => fun vs H Q _ => ∃ (L : Addr) (d : Nat) (c : Int), vs = [.ref L, .int (d : Int)] ∧ d ≤ m ∧ Lf H L c ∧ c + oddC (m + 1) < 2 ^ 50 ∧ ∀ v H', Fr L H H' → Lf H' L (c + oddC (m + 1)) → Kn H' v → Q v H'
theorem ok_odd1 {f : Addr} {fd : FuncData} {m : Nat} (B : Bts mg) (F : Fun K "_law_odd" "_law_odd" s__law_odd f fd) (c__law_pick : Cl P w K mg base 2 "_law_pick" sp_pick) (c__law_odd : Cl P w K mg base (m + 2) "_law_odd" (sp_odd m)) :
    FnOk P w K mg base CX0 (m + 3) f fd ["_law_left_here", "_law_deep"] (sp_odd (m + 1)) := by
  refine F.ok sc__law_odd (fun vs H Q E h => ?_) (fun cdv A outer s H vs Q E hr h => ?_)
  · obtain ⟨L, d, c, rfl, _⟩ := h; rfl
  · obtain ⟨L, d, c, rfl, hd, lf, hc, q⟩ := h
    refine ⟨_, (pss_cons (ps_set (i := 2) sc__law_odd.nd rfl (by first | exact Or.inl rfl | exact Or.inr rfl) (pe_c c__law_pick hr (by omega) (by rfl) (pa_cons (pv 0) (pa_cons pe_int pa_nil))))
    (pss_cons (ps_set (i := 3) sc__law_odd.nd rfl (by first | exact Or.inl rfl | exact Or.inr rfl) (pe_lst (pa_cons pe_non (pa_cons pe_bl (pa_cons pe_bl (pa_cons pe_str (pa_cons pe_str (pa_cons pe_int (pa_cons pe_int (pa_cons (pe_un un_neg pe_int) (pa_cons pe_int (pa_cons (pe_op op_pow pe_int pe_int) (pa_cons (pe_tup pa_nil) (pa_cons (pe_lst pa_nil) (pa_cons (pe_tup (pa_cons pe_bl pa_nil)) (pa_cons (pe_tup (pa_cons pe_int (pa_cons pe_str pa_nil))) (pa_cons (pe_tup (pa_cons (pe_tup (pa_cons pe_int (pa_cons pe_int pa_nil))) pa_nil)) pa_nil)))))))))))))))))
    (pss_cons (ps_if (PW.pt (pw_or (pt_cmpR op_lt (pv 2) pe_int (nomark _)) (pw_or1 (pt_cmpR op_eq (pv 1) pe_int (nomark _))))) (pss_one (ps_ret (pe_ix ix_list (pv 3) (pe_op op_mod (pv 2) pe_int) (fun _ _ => rfl)))) pss_nil)
    (pss_cons (ps_setLc (i := 4) (own := [("_law_k", 5)]) (g := (gName 5)) (tt := tYes) rfl sc__law_odd.nd rfl rfl (sw_true rfl rfl rfl (by decide +kernel)) (pi_range1 (by rfl) B.range (pa_cons (pe_op op_add pe_int (pe_op op_mul (pe_c c__law_pick hr (by omega) (by rfl) (pa_cons (pv 0) (pa_cons pe_int pa_nil))) (pe_callTy call_int1 (by rfl) B.int (by decide +kernel) (pa_cons (pe_cmpR op_gt (pv 1) pe_int (nomark _)) pa_nil)))) pa_nil)) (blkOk_by (own := [("_law_k", 5)]) (N := N__law_odd) (sc := defScope s__law_odd) (by decide +kernel)) (fun _ _ _ _ _ => (pg_name (i := 5) sc__law_odd.nd rfl (by first | exact Or.inl rfl | exact Or.inr rfl))) (fun _ _ _ _ _ => pts_nil) (fun _ _ _ _ _ => (pe_c c__law_odd hr (Nat.le_refl _) (by rfl) (pa_cons (pv 0) (pa_cons (pe_op op_sub (pv 1) pe_int) pa_nil)))))
    (pss_one (ps_ret (pe_ix ix_list (pe_lst (pa_cons (pv 4) (pa_cons (pe_callTy call_tuple_of (by rfl) B.tuple (by decide +kernel) (pa_cons (pv 4) pa_nil)) pa_nil))) (pe_c c__law_pick hr (by omega) (by rfl) (pa_cons (pv 0) (pa_cons pe_int pa_nil))) (fun _ _ => rfl)))))))), ?_⟩
    have o0 := oddC_nn m
    have o1 : oddC (m + 1) = 4 + 2 * oddC m := rfl
    refine ⟨_, rfl, L, _, _, rfl, lf, by decide, by decide, by omega, fun r H1 r0 r1 fr1 lf1 => ?_⟩
    refine ⟨_, rfl, _, _, rfl, rfl, ⟨by decide, by decide, by decide⟩, Nat.zero_le _, fun k1 n1 => ⟨Nat.zero_le _, fun k2 n2 => ⟨by show 1 ≤ sizeLine; decide, fun k3 n3 => ⟨by show 2 ≤ sizeLine; decide, fun k4 n4 => ⟨by show 2 ≤ sizeLine; decide, fun k5 n5 => ⟨by show 1 ≤ sizeLine; decide, fun k6 n6 => ⟨by show 15 ≤ sizeLine; decide, fun S nS => ?_⟩⟩⟩⟩⟩⟩⟩
    have q1 := same_new (o := HO.tup []) n1
    have q2 := same_new (o := HO.lst []) n2
    have q3 := same_new (o := HO.tup [.bl true]) n3
    have q4 := same_new (o := HO.tup [.int 1, .str "a"]) n4
    have q5 := same_new (o := HO.tup [.int 0, .int 1]) n5
    have q6 := same_new (o := HO.tup [.ref k5]) n6
    have qS := same_new (o := HO.lst [.non, .bl true, .bl false, .str "", .str "a", .int 0, .int 1, .int (-1), .int 2, .int (10 ^ (13 : Int).toNat), .ref k1, .ref k2, .ref k3, .ref k4, .ref k6]) nS
    have e1 := qS _ _ (q6 _ _ (q5 _ _ (q4 _ _ (q3 _ _ (q2 _ _ (upd_same (H := H1) (a := k1) (o := HO.tup [])))))))
    have e2 := qS _ _ (q6 _ _ (q5 _ _ (q4 _ _ (q3 _ _ (upd_same (a := k2) (o := HO.lst []))))))
    have e3 := qS _ _ (q6 _ _ (q5 _ _ (q4 _ _ (upd_same (a := k3) (o := HO.tup [.bl true])))))
    have e4 := qS _ _ (q6 _ _ (q5 _ _ (upd_same (a := k4) (o := HO.tup [.int 1, .str "a"]))))
    have e5 := qS _ _ (q6 _ _ (upd_same (a := k5) (o := HO.tup [.int 0, .int 1])))
    have e6 := qS _ _ (upd_same (a := k6) (o := HO.tup [.ref k5]))
    have eS := upd_same (H := upd (upd (upd (upd (upd (upd H1 k1 (.tup [])) k2 (.lst [])) k3 (.tup [.bl true])) k4 (.tup [.int 1, .str "a"])) k5 (.tup [.int 0, .int 1])) k6 (.tup [.ref k5])) (a := S) (o := HO.lst [.non, .bl true, .bl false, .str "", .str "a", .int 0, .int 1, .int (-1), .int 2, .int (10 ^ (13 : Int).toNat), .ref k1, .ref k2, .ref k3, .ref k4, .ref k6])
    have s1S := (((((q1.trans q2).trans q3).trans q4).trans q5).trans q6).trans qS
    generalize upd (upd (upd (upd (upd (upd (upd H1 k1 (.tup [])) k2 (.lst [])) k3 (.tup [.bl true])) k4 (.tup [.int 1, .str "a"])) k5 (.tup [.int 0, .int 1])) k6 (.tup [.ref k5])) S _ = HS at e1 e2 e3 e4 e5 e6 eS s1S ⊢
    clear q1 q2 q3 q4 q5 q6 qS
    have lfS := lf1.same s1S
    have frS := fr1.trans (Fr.of s1S)
    have flat : ∀ v, flatO v = true → Kn HS v := fun v h => Kn.flat h
    have kn : ∀ x ∈ ([.non, .bl true, .bl false, .str "", .str "a", .int 0, .int 1, .int (-1), .int 2, .int (10 ^ (13 : Int).toNat), .ref k1, .ref k2, .ref k3, .ref k4, .ref k6] : List V), Kn HS x := by
      have a1 : Kn HS (.ref k1) := Kn.tup e1 (by show 0 ≤ 1000; decide) fun u hu => absurd hu List.not_mem_nil
      have a2 : Kn HS (.ref k2) := Kn.lst e2
      have a3 : Kn HS (.ref k3) := Kn.tup e3 (by show 1 ≤ 1000; decide) (by simp [kn_non, kn_bl, kn_int, kn_str])
      have a4 : Kn HS (.ref k4) := Kn.tup e4 (by show 2 ≤ 1000; decide) (by simp [kn_non, kn_bl, kn_int, kn_str])
      have a5 : Kn HS (.ref k5) := Kn.tup e5 (by show 2 ≤ 1000; decide) (by simp [kn_non, kn_bl, kn_int, kn_str])
      have a6 : Kn HS (.ref k6) := Kn.tup e6 (by show 1 ≤ 1000; decide) (by simp [a5])
      simp [kn_non, kn_bl, kn_int, kn_str, a1, a2, a3, a4, a6]
    have fin : ∃ x, atI ([.non, .bl true, .bl false, .str "", .str "a", .int 0, .int 1, .int (-1), .int 2, .int (10 ^ (13 : Int).toNat), .ref k1, .ref k2, .ref k3, .ref k4, .ref k6] : List V) (r % 15) = some x ∧ Kn HS x := by
      have r2 : 0 ≤ r % 15 ∧ r % 15 < 15 := by omega
      generalize r % 15 = i at r2
      obtain ⟨j, rfl⟩ : ∃ j : Nat, i = (j : Int) := ⟨i.toNat, by omega⟩
      have hj : j < ([.non, .bl true, .bl false, .str "", .str "a", .int 0, .int 1, .int (-1), .int 2, .int (10 ^ (13 : Int).toNat), .ref k1, .ref k2, .ref k3, .ref k4, .ref k6] : List V).length := by show j < 15; omega
      exact ⟨_, atI_nat (List.getElem?_eq_getElem hj), kn _ (List.getElem_mem hj)⟩
    obtain ⟨fx, hfx, kfx⟩ := fin
    clear kn flat
    refine ⟨_, rfl, _, _, rfl, rfl, _, rfl, ?_⟩
    by_cases hw : r < 15
    · rw [decide_eq_true hw]
      refine iteT ?_
      refine ⟨_, rfl, _, rfl, _, _, rfl, rfl, by show (0 : Int) < 15; decide, ?_⟩
      exact ⟨S, _, _, fx, rfl, rfl, SqL.of eS, hfx, q _ _ frS (lfS.mono (by omega)) kfx⟩
    rw [decide_eq_false hw]
    refine iteF ?_
    refine ⟨_, rfl, rfl, _, rfl, ?_⟩
    by_cases d0 : d = 0
    · rw [show decide (V.int (d : Int) = V.int 0) = true from decide_eq_true (by rw [d0]; rfl)]
      refine iteT ?_
      refine ⟨_, rfl, _, rfl, _, _, rfl, rfl, by show (0 : Int) < 15; decide, ?_⟩
      exact ⟨S, _, _, fx, rfl, rfl, SqL.of eS, hfx, q _ _ frS (lfS.mono (by omega)) kfx⟩
    rw [show decide (V.int (d : Int) = V.int 0) = false from decide_eq_false (fun z => d0 (by have := V.int.inj z; omega))]
    refine iteF ?_
    refine ⟨_, rfl, L, _, _, rfl, lfS, by decide, by decide, by omega, fun g HG g0 g1 frG lfG => ?_⟩
    have frG' := frS.trans frG
    refine ⟨_, rfl, _, _, rfl, rfl, .inr ⟨_, rfl, ?_⟩⟩
    refine ⟨_, _, rfl, rfl, .inr ⟨by split <;> decide, by split <;> decide⟩, _, _, rfl, rfl, ?_⟩
    obtain ⟨n, en, hn1, hn2⟩ : ∃ n : Nat, (1 + g * (if decide ((13 : Int) < (d : Int)) = true then 1 else 0)) = (n : Int) ∧ 1 ≤ n ∧ n ≤ 2 := by
      have : g = 0 ∨ g = 1 := by omega
      rcases this with rfl | rfl
      · exact ⟨1, by rw [Int.zero_mul]; rfl, by omega, by omega⟩
      · by_cases h : decide ((13 : Int) < (d : Int)) = true
        · exact ⟨2, by rw [if_pos h]; rfl, by omega, by omega⟩
        · exact ⟨1, by rw [if_neg h]; rfl, by omega, by omega⟩
    have tn : ((n : Int)).toNat = n := Int.toNat_natCast n
    refine ⟨(n : Int), congrArg (fun z => [V.int z]) en, by omega, by omega, fun D nD => ?_⟩
    have DL : D ≠ L := lfG.ne nD
    have sD := same_new (o := .lst []) nD
    refine wk (walk_range (lo := 0)) (fun k HM => ∃ us, Fr L HG HM ∧ Lf HM L (c + 2 + k * oddC m) ∧ HM D = some (.lst us) ∧ us.length = k ∧ ∀ u ∈ us, Kn HM u) ⟨[], Fr.of sD, (lfG.same sD).mono (by rw [Int.natCast_zero, Int.zero_mul]; omega), upd_same, rfl, fun u hu => absurd hu List.not_mem_nil⟩ (fun _ _ _ _ => trivial) ?_ ?_
    · rintro k x HM0 HM hk ⟨us, frM, lfM, eD, ul, kU⟩ ⟨rfl, hx⟩
      rw [tn] at hk
      refine ⟨rfl, yes ?_⟩
      have kk : (k : Int) * oddC m ≤ 1 * oddC m := Int.mul_le_mul_of_nonneg_right (by omega) o0
      cases m with
      | zero => omega
      | succ m =>
        refine ⟨_, rfl, _, rfl, _, _, rfl, rfl, L, d - 1, _, by rw [show ((d - 1 : Nat) : Int) = (d : Int) - 1 by omega]; rfl, by omega, lfM, by omega, fun v HY frY lfY kY => ?_⟩
        have tY := lfM.tst frY
        have lY := LSt.fr (c := 0) frY lfY
        have eDY := frY _ _ DL eD
        refine ⟨us, eDY, sz' (by omega), us ++ [v], (frM.trans frY).put (Lf.free (Fr.refl _ _) lfG nD), lfY.put DL |>.mono ?_, upd_same, by rw [List.length_append, ul]; rfl, fun u hu => ?_⟩
        · show c + 2 + (k : Int) * oddC (m + 1) + oddC (m + 1) ≤ c + 2 + ((k + 1 : Nat) : Int) * oddC (m + 1)
          rw [Int.natCast_succ, Int.add_mul, Int.one_mul]
          omega
        · have tp := tst_put (o := .lst (us ++ [v])) eDY
          have lp := LSt.put (ys := us ++ [v]) eDY
          rcases List.mem_append.mp hu with z | z
          · exact ((kU u z).mono tY lY).mono tp lp
          · rw [List.mem_singleton.mp z]; exact kY.mono tp lp
    · rintro H5 ⟨us, fr5, lf5, eD, ul, kU⟩
      rw [tn] at ul lf5
      have nn : (n : Int) * oddC m ≤ 2 * oddC m := Int.mul_le_mul_of_nonneg_right (by omega) o0
      refine ⟨_, rfl, _, rfl, D, us, rfl, .inl ⟨SqL.of eD, fun t nt => ?_⟩⟩
      have st := same_new (o := .tup us) nt
      refine ⟨by show 2 ≤ sizeLine; decide, fun p np => ?_⟩
      have sp := same_new (o := .lst [.ref D, .ref t]) np
      have s57 := st.trans sp
      have ep := upd_same (H := upd H5 t (.tup us)) (a := p) (o := HO.lst [.ref D, .ref t])
      have et := sp _ _ (upd_same (H := H5) (a := t) (o := HO.tup us))
      generalize upd (upd H5 t (.tup us)) p (.lst [.ref D, .ref t]) = H7 at s57 ep et ⊢
      have kD : Kn H7 (.ref D) := Kn.lst (s57 _ _ eD)
      have kt : Kn H7 (.ref t) := Kn.tup et (by omega) fun u hu => (kU u hu).mono (Same.tst s57) (LSt.same s57)
      have lf7 := lf5.same s57
      have pL : p ≠ L := fun z => by
        obtain ⟨_, _, _, e, _⟩ := lf5.same st
        rw [z, e] at np
        cases np
      refine ⟨_, rfl, L, _, _, rfl, lf7, by decide, by decide, by omega, fun g2 H8 g20 g21 fr8 lf8 => ?_⟩
      have t8 := lf7.tst fr8
      have l8 := LSt.fr (c := 0) fr8 lf8
      have e8 := fr8 _ _ pL ep
      have frA := (frG'.trans fr5).trans ((Fr.of s57).trans fr8)
      have lfA : Lf H8 L (c + oddC (m + 1)) := lf8.mono (by omega)
      have : g2 = 0 ∨ g2 = 1 := by omega
      rcases this with rfl | rfl
      · exact ⟨p, _, 0, .ref D, rfl, rfl, SqL.of e8, rfl, q _ _ frA lfA (kD.mono t8 l8)⟩
      · exact ⟨p, _, 1, .ref t, rfl, rfl, SqL.of e8, rfl, q _ _ frA lfA (kt.mono t8 l8)⟩
theorem ok_odd {f : Addr} {fd : FuncData} (B : Bts mg) (F : Fun K "_law_odd" "_law_odd" s__law_odd f fd) (c__law_pick : Cl P w K mg base 2 "_law_pick" sp_pick) (hm : mg "_law_odd" = some (.ref f)) (hb : Binds K fd ["_law_left_here", "_law_deep"] []) :
    ∀ m, FnOk P w K mg base CX0 (m + 2) f fd ["_law_left_here", "_law_deep"] (sp_odd m)
  | 0 => ⟨fun vs H Q E h => h.elim, fun _ _ _ _ _ _ _ _ _ _ _ _ _ h => h.elim⟩
  | m + 1 => ok_odd1 B F c__law_pick (Cl.mk' F hm hb (ok_odd B F c__law_pick hm hb m))
end
end My

set_option Elab.async false
set_option linter.all false
set_option maxRecDepth 100000
namespace My
open PySem PySem.Spec PyProof.Rows L2 GxR
/-! ### a tuple the other way about: t[::-1] -/
section
variable {X : Cx}
theorem places_rv (n : Nat) : Builtin.Slice.slicePlaces ((n : Int) - 1) (-1) (-1) = n := by
  unfold Builtin.Slice.slicePlaces
  rw [if_neg (by decide)]
  by_cases h : (n : Int) - 1 > -1
  · rw [if_pos h, show (-(-1) : Int) = 1 by decide, Int.ediv_one]; omega
  · rw [if_neg h]
    omega
theorem cutRv {s : Shared} {A : Around} {E : Value → Shared → Prop} {sl : Addr} {vs : Value} {n : Nat} {Q : Int × Int × Nat → Shared → Prop} (hs : s.heap.IsSliceOf sl .none .none vs) (ps : IsPart vs (some (-1))) (h : Q ((n : Int) - 1, -1, n) s) :
    wpAny (model X.prog X.w) A (Builtin.Slice.sliceApplied (.ref sl) (pure (n : Int))) Q E s := by
  obtain ⟨os, hos, hcs, hds⟩ := id hs
  unfold Builtin.Slice.sliceApplied Builtin.Slice.sliceFields
  refine wpAny_bind (wpAny_bind (wpAny_field hos hds (x := .none) rfl (wpAny_bind (wpAny_field hos hds (x := .none) rfl (wpAny_bind (wpAny_field hos hds (x := vs) rfl (wpAny_pure ?_)))))))
  refine wpAny_bind (HT.slicePart_ ps ?_)
  show wpAny _ _ (if ((-1 : Int) == 0) = true then _ else _) _ _ s
  rw [if_neg (by decide)]
  refine wpAny_bind (HT.slicePart_ .none (wpAny_bind (HT.slicePart_ .none (wpAny_bind (wpAny_pure ?_)))))
  show wpAny _ _ (match Builtin.Slice.sliceAdjust none none (-1) (n : Int) with | (lo, hi) => pure (lo, (-1 : Int), Builtin.Slice.slicePlaces lo hi (-1))) _ _ s
  show wpAny _ _ (pure ((n : Int) - 1, (-1 : Int), Builtin.Slice.slicePlaces ((n : Int) - 1) (-1) (-1))) _ _ s
  rw [places_rv]
  exact wpAny_pure h
theorem fm_congrR {α β : Type} {f g : α → Option β} : ∀ {l : List α}, (∀ x ∈ l, f x = g x) → l.filterMap f = l.filterMap g
  | [], _ => rfl
  | x :: l, h => by rw [List.filterMap_cons, List.filterMap_cons, h x List.mem_cons_self, fm_congrR fun y hy => h y (List.mem_cons_of_mem _ hy)]
theorem pickRv (xs : Array Value) : ((List.range xs.size).filterMap fun (m : Nat) => xs[(((xs.size : Int) - 1) + (m : Int) * -1).toNat]?).toArray = xs.toList.reverse.toArray := by
  have e : (List.range xs.size).filterMap (fun (m : Nat) => xs[(((xs.size : Int) - 1) + (m : Int) * -1).toNat]?) = (((List.range xs.size).map fun k => xs.size - 1 - k).filterMap (xs[·]?)) := by
    rw [List.filterMap_map]
    refine fm_congrR fun m hm => ?_
    have := List.mem_range.mp hm
    have e : (((xs.size : Int) - 1) + (m : Int) * -1).toNat = xs.size - 1 - m := by omega
    rw [e]; rfl
  rw [e, PySem.W.krv_range, List.filterMap_reverse, PySem.W.krv_all]
theorem revA {s : Shared} {A : Around} {E : Value → Shared → Prop} {t sl : Addr} {items : Array Value} {vs : Value} {Q : Value → Shared → Prop} (ht : IsTup s.heap t items) (hs : s.heap.IsSliceOf sl .none .none vs) (ps : IsPart vs (some (-1))) (hsz : items.size ≤ sizeLine)
    (h : Q (.ref s.heap.objs.size) { s with heap := s.heap.push { cls := .type "tuple", data := .seq items.toList.reverse.toArray } }) : wpAny (model X.prog X.w) A (getItem (.ref t) (.ref sl)) Q E s := by
  obtain ⟨os, hos, hcs, hds⟩ := id hs
  have hTs : s.TypeIs (.ref sl) "slice" := ⟨os, hos, hcs⟩
  have hz : sizeOk (.seq items.toList.reverse.toArray) := by show items.toList.reverse.toArray.size ≤ sizeLine; rw [List.size_toArray, List.length_reverse, Array.length_toList]; exact hsz
  unfold getItem
  try with_reducible refine wpAny_holding ?_
  first | refine wpAny_bind (wpAny_pure ?_) | skip
  refine wpAny_bind (wpAny_sequenceKey ht.typeIs (by decide) ?_)
  refine wpAny_bind (wpAny_callSpecial?_slot (name := Str.ofString "__getitem__") ht.typeIs PyProof.Rows.slot_tuple_getitem (wpAny_call_entry PyProof.Rows.slot_tuple_getitem ht.typeIs entry_tuple_getitem ?_ (args_tuple_getitem _ _)))
  show wpAny _ _ (Builtin.Tuple.tupleItemsOf (.ref t) >>= _) _ _ s
  refine wpAny_bind (tupleItemsOf_ ht (wpAny_bind (wpAny_typeOf hTs ?_)))
  rw [if_pos (by decide)]
  refine wpAny_bind (cutRv hs ps ?_)
  show wpAny _ _ (if (((items.size : Int) - 1) == 0 && (-1 : Int) == 1 && items.size == items.size) = true then _ else _) _ _ s
  rw [if_neg (by rw [show ((-1 : Int) == 1) = false from by decide, Bool.and_false, Bool.false_and]; decide), pickRv]
  first
    | exact wpAny_bind (m := Builtin.Tuple.tupleExact _) (wpAny_newObj_type (wpAny_pure ⟨_, rfl, wpAny_pure h⟩) hz)
    | exact wpAny_bind (m := Builtin.Tuple.tupleExact _) (wpAny_newObj_type (wpAny_bind (wpAny_pure (wpAny_pure ⟨_, rfl, wpAny_pure h⟩))) hz)
    | exact wpAny_bind (wpAny_bind (m := Builtin.Tuple.tupleExact _) (wpAny_newObj_type (wpAny_pure (wpAny_pure ⟨_, rfl, wpAny_pure h⟩)) hz))
    | exact wpAny_bind (wpAny_bind (m := Builtin.Tuple.tupleExact _) (wpAny_newObj_type (wpAny_pure ⟨_, rfl, wpAny_pure h⟩) hz))
def tRevA (K : PySem.W.Frag) (te : TE) : TE := fun σ H Q => te σ H fun x H1 => ∃ a us, x = .ref a ∧ SqT K H1 a us ∧ ∀ p, H1 p = none → Q (.ref p) (upd H1 p (.tup us.reverse))
theorem pe_revA {e : Expr} {te : TE} {k : Nat} {p1 p2 p3 pos : Pos} (he : PE X e te) : PE X (.Subscript e (.Slice none none (some (.UnaryOp .USub (.Constant (.int 1) k p1) p2)) p3) pos) (tRevA X.K te) := by
  refine ⟨fun pins s σ H Q I h => Subscript_ (thn (he.run pins s σ H _ I h) fun v s1 ⟨x, H1, I1, r1, a, us, ex, hx, q⟩ => ?_)⟩
  subst ex; cases r1
  have hst : PO X (some (.UnaryOp .USub (.Constant (.int 1) k p1) p2)) (tPart (tUn (rU fun i => .int (-i)) (tC (.int 1)))) := po_some (pe_un un_neg pe_int)
  refine wpAny_Slice (thn (po_none.run pins s1 σ H1 (fun o H2 => o = none ∧ H2 = H1) I1 ⟨rfl, rfl⟩) fun vl s2 ⟨l, H2, I2, pl, el, e2⟩ => ?_); subst el e2
  refine thn (po_none.run pins s2 σ H2 (fun o H3 => o = none ∧ H3 = H2) I2 ⟨rfl, rfl⟩) fun vu s3 ⟨u, H3, I3, pu, eu, e3⟩ => ?_; subst eu e3
  refine thn (hst.run pins s3 σ H3 (fun o H4 => o = some (-1) ∧ H4 = H3) I3 ⟨1, rfl, -1, rfl, rfl, rfl⟩) fun vs s4 ⟨o, H4, I4, ps, eo, e4⟩ => ?_; subst eo e4
  cases pl; cases pu
  generalize hs5 : ({ s4 with heap := s4.heap.push { cls := .type "slice", data := .fields #[.none, .none, vs] } } : Shared) = s5
  have I5 : Inv X pins σ H4 s5 := by
    rw [← hs5]
    exact I4.kept (t' := s4.toks) fun b ob q => Heap.get?_push_of_some _ q
  obtain ⟨its, r, ht, hz⟩ := I5.tuple hx
  have hlen := r.length
  have hsl : s5.heap.IsSliceOf s4.heap.objs.size .none .none vs := by rw [← hs5]; exact Heap.IsSliceOf.new _ _ _ _
  refine (?_ : wpAny (model X.prog X.w) X.A (subscriptTail e (.Slice none none (some (.UnaryOp .USub (.Constant (.int 1) k p1) p2)) p3) (.ref a) (.ref s4.heap.objs.size)) (EP X pins σ Q) X.xe s5)
  refine tail_any (ops := [.ref a, .ref s4.heap.objs.size]) ht.typeIs (PyProof.Rows.slot_tuple_getitem.lookup) ?_ (by with_unfolding_all rfl)
  refine revA ht hsl ps (by rw [List.size_toArray]; omega) ⟨.ref _, _, I5.laid (t' := s5.toks) (o := .tup us.reverse) (fun b ob q => Heap.get?_push_of_some _ q) (Nat.le_refl _) ?_, rfl, q _ (I5.hok.fresh (Nat.le_refl _))⟩
  exact ⟨by rw [List.length_reverse]; exact hz, its.reverse, r.reverse, by
    have := IsTup.new s5.heap its.reverse.toArray
    exact this⟩
end
end My

set_option Elab.async false
set_option linter.all false
set_option maxRecDepth 100000
set_option pp.maxSteps 400
set_option maxHeartbeats 4000000
namespace My
open PySem PySem.Spec PyProof.Rows L2 GxR
/-! enumerate of a tuple -/
def IteT (K : PySem.W.Frag) (a : Addr) : It :=
  ⟨fun i H => ∃ (xs : List V) (x : V), SqT K H a xs ∧ xs[i]? = some x, fun i H v H' => ∃ T x, v = .ref T ∧ H T = none ∧ H' = upd H T (.tup [.int (i : Nat), x]) ∧ ∀ xs, SqT K H a xs → xs[i]? = some x, fun i H => ∃ xs : List V, SqT K H a xs ∧ xs.length = i⟩
theorem turn_enumT {P : Program} {w : World} {K : PySem.W.Frag} {elts : List Expr} {kk : Nat} {tpos : Pos} (a e it : Addr) (hne : e ≠ it) (na : a ≠ it) (ne : e ≠ a) :
    Turn P w K (.Tuple elts kk tpos) (IteT K a) [e, it] e (fun i h => (∃ old, IsEnum h e it ((i : Nat) : Int) old) ∧ h.IsTupleIter it a i) where
  mem := by simp
  obj := fun i h st b hb => by
    obtain ⟨⟨old, he⟩, o, ho, hc, hd⟩ := st
    have e' : b = e ∨ b = it := by simpa using hb
    rcases e' with z | z
    · rw [z]; exact ⟨_, he, fun v q => nomatch q⟩
    · rw [z]; exact ⟨o, ho, fun v q => by rw [hd] at q; cases q⟩
  keep := fun i h h' st k => let ⟨⟨old, he⟩, hi⟩ := st; ⟨⟨old, k e (by simp) _ he⟩, hi.at fun o q => k it (by simp) o q⟩
  item := by
    intro X hP hw hK hc i pins s σ H E I hf st hg
    subst hP hw hK
    obtain ⟨⟨old, he⟩, hit⟩ := st
    obtain ⟨xs, x, hq, hx⟩ := hg
    obtain ⟨its, rv, p, hz⟩ := I.tuple hq
    have hl := rv.length
    obtain ⟨u, hu, ru⟩ := rv.get hx
    have li := (List.getElem?_eq_some_iff.mp hx).1
    have W := GoesN.enumFrom (prog := X.prog) (w := X.w) (A := X.A) (elts := elts) (x1 := kk) (pos := tpos) 0 (Draws.tuple (A := X.A.in1) (show X.A.in1.handled = none from I.ok.hd hc) it a na its.toArray) e hne (by simp [hne, ne]) (by simp)
    refine W.goes i s _ E (by simp; omega) ⟨⟨old, by rw [Int.zero_add]; exact he⟩, hit, p⟩ fun v h' tk hY st' hk htk => ?_
    obtain ⟨T, t, ux, rfl, hT0, hX, hTT⟩ := hY
    rw [List.getElem?_toArray] at hX
    obtain rfl : u = ux := by rw [hu] at hX; exact Option.some.inj hX
    rw [Int.zero_add] at hTT
    have new : ObjOk X.prog X.w (upd H T (.tup [.int (i : Nat), x])) h' T (.tup [.int (i : Nat), x]) := ⟨by show 2 ≤ sizeLine; decide, [.int i t, u], .cons ⟨_, rfl⟩ (.cons ru .nil), hTT⟩
    have I1 : Inv X pins σ (upd H T (.tup [.int (i : Nat), x])) { s with heap := h', toks := tk } :=
      I.turnedNew (t' := tk) (ch := [e, it]) (fun d o hb q => hk d o hb q) hf hT0 new
    obtain ⟨⟨old', he'⟩, hit', _⟩ := st'
    have e1 : (0 : Int) + ((i + 1 : Nat) : Int) = ((i + 1 : Nat) : Int) := Int.zero_add _
    rw [e1] at he'
    refine ⟨.ref T, _, I1, rfl, ⟨T, x, rfl, I.hok.fresh hT0, rfl, fun ys hy => by rw [I.tuple_inj hy hq]; exact hx⟩, ⟨⟨old', he'⟩, hit'⟩, fun b hb => ?_⟩
    have hlt : b < s.heap.objs.size := by
      have e' : b = e ∨ b = it := by simpa using hb
      rcases e' with z | z
      · rw [z]; exact Heap.lt_size he
      · rw [z]; obtain ⟨_, q, _⟩ := hit; exact Heap.lt_size q
    rw [upd_ne (Nat.ne_of_lt (Nat.lt_of_lt_of_le hlt hT0))]
    exact (hf b hb).1
  done := by
    intro X hP hw hK hc i pins s σ H E I hf st hg
    subst hP hw hK
    obtain ⟨⟨old, he⟩, hit⟩ := st
    obtain ⟨xs, hq, hx⟩ := hg
    obtain ⟨its, rv, p, hz⟩ := I.tuple hq
    have hl := rv.length
    have W := GoesN.enumFrom (prog := X.prog) (w := X.w) (A := X.A) (elts := elts) (x1 := kk) (pos := tpos) 0 (Draws.tuple (A := X.A.in1) (show X.A.in1.handled = none from I.ok.hd hc) it a na its.toArray) e hne (by simp [hne, ne]) (by simp)
    have en : its.toArray.size = i := by simp; omega
    rw [en] at W
    refine W.stops s _ E ⟨⟨old, by rw [Int.zero_add]; exact he⟩, hit, p⟩ fun h' tk hk htk => ?_
    exact I.turnedL (t' := tk) (ch := [e, it]) (fun d o hb q => hk d o hb q) hf
  self := fun A i s Q E st h => let ⟨⟨_, he⟩, _⟩ := st; wpAny_pyIter_enum he h
theorem meets_enumerate_newB1 {v : Value} {o : Obj} {H : Heap → Prop} (B : Begins v o H) :
    Meets (Builtin.«enumerate.__new__» ⟨[.type "enumerate", v], []⟩) (fun _ R s => H s.heap ∧
      R (.ok (.ret (.ref (s.heap.push o).objs.size))) { s with heap := (s.heap.push o).push { cls := .type "enumerate", data := .fields #[.none, .bool false, .ref s.heap.objs.size, rawInt 0, .none, .none] } }) :=
  .of_wp fun prog w A R s h => by
    obtain ⟨hp, g, d, tk, os⟩ := s; obtain ⟨h1, h⟩ := h
    have hsub := sub_enumerate
    have q1 : ∀ {A' : Around} {E : Value → Shared → Prop} {Q : Value → Shared → Prop}, Q (.ref hp.objs.size) ⟨hp.push o, g, d, tk, os⟩ → wpAny (model prog w) A' (pyIter v) Q E ⟨hp, g, d, tk, os⟩ :=
      fun q => B.iter prog w _ _ ⟨hp, g, d, tk, os⟩ _ h1 q
    wp_walk using q1
    refine wpAny_stack_any fun st => wpAny_pure ?_
    split
    · rename_i c _ _ _ _ _
      cases (c == Value.type "enumerate")
      · wp_walk using q1
        exact ⟨_, rfl, h⟩
      · wp_walk using q1
        exact ⟨_, rfl, h⟩
    · wp_walk using q1
      exact ⟨_, rfl, h⟩
section
variable {prog : Program} {w : World} {A : Around} {E : Value → Shared → Prop} {s : Shared}
theorem enum_begins1 {v : Value} {o : Obj} {H : Heap → Prop} {Q : Value → Shared → Prop} (B : Begins v o H) (h1 : H s.heap)
    (h : ∀ h', IsEnum h' (s.heap.objs.size + 1) s.heap.objs.size 0 .none → h'.get? s.heap.objs.size = some o → h'.objs.size = s.heap.objs.size + 2 →
      (∀ b o, s.heap.get? b = some o → h'.get? b = some o) → Q (.ref (s.heap.objs.size + 1)) { s with heap := h' }) :
    wpAny (model prog w) A (call (.type "enumerate") [v]) Q E s := by
  refine callType_new F.called_enumerate (by decide) (F.typeCall_enumerate_1 _) (F.newCall_enumerate_1 _) (fun obj => F.args_object_init_2 obj _) F.entry_enumerate_new
    (meets_enumerate_newB1 B) ⟨h1, ?_⟩
  have hz : (s.heap.push o).objs.size = s.heap.objs.size + 1 := Heap.size_push ..
  show _ ∧ _
  rw [hz]
  have he : IsEnum ((s.heap.push o).push { cls := .type "enumerate", data := .fields #[.none, .bool false, .ref s.heap.objs.size, rawInt 0, .none, .none] }) (s.heap.objs.size + 1) s.heap.objs.size 0 .none := by
    have := Heap.get?_push_size (s.heap.push o) (o := { cls := .type "enumerate", data := .fields #[.none, .bool false, .ref s.heap.objs.size, rawInt 0, .none, .none] }) rfl
    rw [hz] at this; exact this
  refine ⟨⟨_, he, rfl⟩, h _ he (Heap.get?_push_of_some _ (Heap.get?_push_size _ B.free)) (by rw [Heap.size_push, hz]) fun b o x => Heap.get?_push_of_some _ (Heap.get?_push_of_some _ x)⟩
end
def iEnumT (K : PySem.W.Frag) (ta : TA) : TI := fun σ H R => ta σ H fun vs H1 => ∃ a xs, vs = [.ref a] ∧ SqT K H1 a xs ∧ R (IteT K a) H1
theorem pi_enumT {X : Cx} {e : Expr} {ta : TA} {p pos tpos : Pos} {elts : List Expr} {kk : Nat} (hg : Gl X "enumerate") (hm : X.mg "enumerate" = none) (ha : PA X [e] ta) (hs : starEach [e] X.env = [(false, eval e X.env)] := by rfl) :
    PI X (.Tuple elts kk tpos) (.Call (.Name "enumerate" p) [e] [] pos) (iEnumT X.K ta) := by
  refine ⟨fun pins s σ H R I h => ?_⟩
  refine Call_ (ld_blt I hg hm boot_enumerate (PyProof.Rows.callWith_type1 (thn (ha.run pos pins s σ H _ I h) fun us s1 ⟨vs, H1, I1, r1, q1⟩ => ?_) hs rfl))
  obtain ⟨a, xs, ex, hq, q⟩ := q1
  subst ex
  cases r1 with
  | cons r rr =>
    cases rr
    cases r
    obtain ⟨its, rv, p', hz⟩ := I1.tuple hq
    obtain ⟨o1, ho1, _⟩ := id p'
    have la := Heap.lt_size ho1
    refine enum_begins1 (begins_tuple a its.toArray) p' fun h' he hit hsz hk => wpAny_pyIter_enum he ?_
    have I2 : Inv X pins σ H1 { s1 with heap := h' } := I1.kept (t' := s1.toks) hk
    refine ⟨s1.heap.objs.size + 1, [s1.heap.objs.size + 1, s1.heap.objs.size], _, _, H1, rfl, I2, turn_enumT a (s1.heap.objs.size + 1) s1.heap.objs.size (Nat.succ_ne_self _) (Nat.ne_of_lt la) (Nat.ne_of_gt (Nat.lt_succ_of_lt la)), ⟨⟨.none, he⟩, _, hit, rfl, rfl⟩, fun b hb => ?_, q⟩
    have e' : b = s1.heap.objs.size + 1 ∨ b = s1.heap.objs.size := by simpa using hb
    have hle : s1.heap.objs.size ≤ b := by
      rcases e' with z | z
      · rw [z]; exact Nat.le_add_right _ _
      · rw [z]; exact Nat.le_refl _
    exact I1.fpOk hle (I1.hok.fresh hle)
theorem walk_enumT {K : PySem.W.Frag} {a : Addr} {xs : List V} : Walk (IteT K a) xs.length (fun H => SqT K H a xs) (YPair (fun i => some (.int (i : Nat))) (fun i => xs[i]?)) := by
  refine ⟨fun i _ hi q => ⟨xs, xs[i], q, by simp [hi]⟩, fun _ q => ⟨xs, q, rfl⟩, fun i H v H' _ q y => ?_⟩
  obtain ⟨T, x, h1, h2, h3, h4⟩ := y
  exact ⟨T, .int (i : Nat), x, h1, h2, h3, rfl, h4 xs q⟩
end My

set_option Elab.async false
set_option linter.all false
set_option maxRecDepth 100000
set_option maxHeartbeats 4000000
set_option pp.maxSteps 900
namespace My
open PySem PySem.Spec PyProof.Rows L2 GxR
/-! ### what is known of new things -/
theorem same_freeO {H H' : Hp} {p : Addr} (s : Same H H') (h : H' p = none) : H p = none := by
  cases q : H p with
  | none => rfl
  | some o => rw [s p o q] at h; cases h
structure KB (H0 H : Hp) (A : List V) : Prop where
  same : Same H0 H
  kn : ∀ x ∈ A, Kn H x
theorem KB.to {H0 H H' : Hp} {A : List V} (k : KB H0 H A) (s : Same H H') : KB H0 H' A := ⟨k.same.trans s, fun x hx => (k.kn x hx).mono (Same.tst s) (LSt.same s)⟩
theorem KB.newT {H0 H : Hp} {A us : List V} {p : Addr} (k : KB H0 H A) (np : H p = none) (l : us.length ≤ 1000) (hu : ∀ u ∈ us, flatO u = true ∨ u ∈ A) : KB H0 (upd H p (.tup us)) (.ref p :: A) := by
  have s := same_new (o := .tup us) np
  have k' := k.to s
  refine ⟨k'.same, fun x hx => ?_⟩
  rcases List.mem_cons.mp hx with rfl | hx
  · exact Kn.tup upd_same l fun u hu' => (hu u hu').elim Kn.flat fun z => k'.kn u z
  · exact k'.kn x hx
theorem KB.newL {H0 H : Hp} {A us : List V} {p : Addr} (k : KB H0 H A) (np : H p = none) : KB H0 (upd H p (.lst us)) (.ref p :: A) := by
  have s := same_new (o := .lst us) np
  have k' := k.to s
  refine ⟨k'.same, fun x hx => ?_⟩
  rcases List.mem_cons.mp hx with rfl | hx
  · exact Kn.lst upd_same
  · exact k'.kn x hx
theorem KB.add {H0 H : Hp} {A : List V} {x : V} (k : KB H0 H A) (h : Kn H x) : KB H0 H (x :: A) := ⟨k.same, fun y hy => (List.mem_cons.mp hy).elim (fun z => z ▸ h) (k.kn y)⟩
theorem KB.self {H : Hp} {A : List V} (h : ∀ x ∈ A, Kn H x) : KB H H A := ⟨fun _ _ e => e, h⟩
theorem KB.sub {H0 H : Hp} {A B : List V} (k : KB H0 H A) (h : ∀ x ∈ B, x ∈ A) : KB H0 H B := ⟨k.same, fun x hx => k.kn x (h x hx)⟩
theorem kn_tie {H : Hp} {v : V} {t : Int × Int} (h : Tie H v t) : Kn H v := by
  obtain ⟨p, rfl, e⟩ := h
  exact Kn.tup e (by show 2 ≤ 1000; decide) (by simp [kn_int])
theorem kn_ties {H : Hp} : ∀ {vs : List V} {ts : List (Int × Int)}, Ties H vs ts → ∀ u ∈ vs, Kn H u
  | [], [], _, u, hu => absurd hu List.not_mem_nil
  | _ :: _, _ :: _, h, u, hu => (List.mem_cons.mp hu).elim (fun z => z ▸ kn_tie h.1) (kn_ties h.2 u)
  | [], _ :: _, h, _, _ => h.elim
  | _ :: _, [], h, _, _ => h.elim
/-- a tuple of known things -/
def TpO (H0 HX : Hp) (A : List V) (m : Nat) (x : V) : Prop := ∃ c us, x = .ref c ∧ HX c = some (.tup us) ∧ us.length ≤ m ∧ (∀ u ∈ us, Kn HX u) ∧ KB H0 HX (x :: A)
section
variable {P : Program} {w : World} {K : PySem.W.Frag} {mg : Str → Option Value} {base : Heap}
theorem catO {H0 HX : Hp} {A : List V} {a b : Addr} {xs ys : List V} {m k : Nat} (kb : KB H0 HX A) (ha : HX a = some (.tup xs)) (hb : HX b = some (.tup ys)) (lx : xs.length ≤ m) (ly : ys.length ≤ k) (lm : m + k ≤ 1000) (kx : ∀ u ∈ xs, Kn HX u) (ky : ∀ u ∈ ys, Kn HX u) :
    rCatA K (.ref a) (.ref b) HX (fun x H' => TpO H0 H' A (m + k) x) := by
  refine ⟨a, b, xs, ys, rfl, rfl, SqT.of ha, SqT.of hb, sz (by omega), fun _ => ?_, fun _ _ => ?_, fun _ _ p np => ?_⟩
  · exact ⟨b, ys, rfl, hb, by omega, ky, kb.add (Kn.tup hb (by omega) ky)⟩
  · exact ⟨a, xs, rfl, ha, by omega, kx, kb.add (Kn.tup ha (by omega) kx)⟩
  · have s := same_new (o := .tup (xs ++ ys)) np
    have kk : ∀ u ∈ xs ++ ys, Kn (upd HX p (.tup (xs ++ ys))) u := fun u hu => by
      rcases List.mem_append.mp hu with z | z
      · exact (kx u z).mono (Same.tst s) (LSt.same s)
      · exact (ky u z).mono (Same.tst s) (LSt.same s)
    have le : (xs ++ ys).length ≤ m + k := by rw [List.length_append]; omega
    exact ⟨p, _, rfl, upd_same, le, kk, (kb.to s).add (Kn.tup upd_same (by omega) kk)⟩
theorem cutO {H0 HX : Hp} {A : List V} {a : Addr} {xs : List V} {m : Nat} {lo hi : Option Int} (kb : KB H0 HX A) (ha : HX a = some (.tup xs)) (lx : xs.length ≤ m) (lm : m ≤ 1000) (kx : ∀ u ∈ xs, Kn HX u) :
    rSlA K (.ref a) lo hi HX (fun x H' => TpO H0 H' A m x) := by
  refine ⟨a, xs, rfl, SqT.of ha, fun _ => ?_, fun _ p np => ?_⟩
  · exact ⟨a, xs, rfl, ha, lx, kx, kb.add (Kn.tup ha (by omega) kx)⟩
  · have s := same_new (o := .tup (cutV xs lo hi)) np
    have le := cutV_length xs lo hi
    have kk : ∀ u ∈ cutV xs lo hi, Kn (upd HX p (.tup (cutV xs lo hi))) u := fun u hu => (kx u (List.mem_of_mem_drop (List.mem_of_mem_take hu))).mono (Same.tst s) (LSt.same s)
    exact ⟨p, _, rfl, upd_same, by omega, kk, (kb.to s).add (Kn.tup upd_same (by omega) kk)⟩
/-- the list of things that is filled -/
def AccO (H0 : Hp) (S : Addr) (m : Nat) (HX : Hp) : Prop := Same H0 HX ∧ H0 S = none ∧ ∃ xs, HX S = some (.lst xs) ∧ xs.length ≤ m ∧ ∀ x ∈ xs, Kn HX x
theorem AccO.to {H0 HX HY : Hp} {S : Addr} {m : Nat} (a : AccO H0 S m HX) (s : Same HX HY) : AccO H0 S m HY := by
  obtain ⟨h1, h2, xs, h3, h4, h5⟩ := a
  exact ⟨h1.trans s, h2, xs, s _ _ h3, h4, fun x hx => (h5 x hx).mono (Same.tst s) (LSt.same s)⟩
theorem AccO.app {H0 HX : Hp} {S : Addr} {m : Nat} {y : V} {Q : VK} (a : AccO H0 S m HX) (hm : m < 10000) (hy : Kn HX y) (q : ∀ HY, AccO H0 S (m + 1) HY → Tst HX HY → LSt HX HY → (∀ b o, b ≠ S → HX b = some o → HY b = some o) → Q .non HY) : rAppend (.ref S) [y] HX Q := by
  obtain ⟨h1, h2, xs, h3, h4, h5⟩ := a
  have tp := tst_put (o := .lst (xs ++ [y])) h3
  have lp := LSt.put (ys := xs ++ [y]) h3
  refine ⟨S, xs, y, rfl, rfl, h3, sz' (by omega), q _ ⟨Same.put h1 h2, h2, xs ++ [y], upd_same, by rw [List.length_append]; simp; omega, fun x hx => ?_⟩ tp lp fun b o nb e => by rw [upd_ne nb]; exact e⟩
  rcases List.mem_append.mp hx with z | z
  · exact (h5 x z).mono tp lp
  · rw [List.mem_singleton.mp z]; exact hy.mono tp lp
theorem AccO.cat {H0 HX : Hp} {S D : Addr} {m k : Nat} {zs : List V} {Q : VK} (a : AccO H0 S m HX) (eD : HX D = some (.lst zs)) (lz : zs.length = k) (hm : m + k < 1000) (kz : ∀ x ∈ zs, Kn HX x) (q : ∀ p HY, AccO H0 p (m + k) HY → Same HX HY → Q (.ref p) HY) : rCat (.ref S) (.ref D) HX Q := by
  obtain ⟨h1, h2, xs, h3, h4, h5⟩ := a
  refine ⟨S, D, xs, zs, rfl, rfl, h3, eD, sz (by omega), fun p np => ?_⟩
  have s := same_new (o := .lst (xs ++ zs)) np
  refine q p _ ⟨h1.trans s, same_freeO h1 np, _, upd_same, by rw [List.length_append]; omega, fun x hx => ?_⟩ s
  rcases List.mem_append.mp hx with z | z
  · exact (h5 x z).mono (Same.tst s) (LSt.same s)
  · exact (kz x z).mono (Same.tst s) (LSt.same s)
/-! ### _law_bent -/
abbrev s__law_bent : Stmt := topS 22
abbrev N__law_bent : List Str := ["_law_left_here", "_law_web_here", "_law_many", "_law_ties", "_law_odd_here", "_law_some", "_law_k", "_law_a", "_law_b", "_law_tie"]
theorem sc__law_bent : FnScope N__law_bent ["_law_left_here", "_law_web_here"] (defScope s__law_bent) := ⟨rfl, rfl, rfl, by decide +kernel, rfl, by decide +kernel, by decide +kernel⟩
def sp_bent01 : Sp := fun vs H Q _ => ∃ (L : Addr) (v : V) (n : Nat) (ts : List (Int × Int)) (c : Int), vs = [.ref L, v] ∧ Lf H L c ∧ Web H v n ts ∧ WOk n ts ∧ n ≤ 12 ∧ ts.length ≤ 200 ∧ c < 2 ^ 40 ∧
  ∀ (p : Addr) (xs : List V) H', H p = none → Fr L H H' → Lf H' L (c + oddC 17) → H' p = some (.lst xs) → xs.length ≤ 5000 → (∀ x ∈ xs, Kn H' x) → Q (.ref p) H'
theorem oddC17 : oddC 17 = 524284 := by decide +kernel
theorem ok_bent01 {f : Addr} {fd : FuncData} (B : Bts mg) (F : Fun K "_law_bent" "_law_bent" s__law_bent f fd) (c__law_odd : Cl P w K mg base 19 "_law_odd" (sp_odd 17)) : FnOk P w K mg base CX0 20 f fd ["_law_left_here", "_law_web_here"] sp_bent01 := by
  refine F.ok sc__law_bent (fun vs H Q E h => ?_) (fun cdv A outer s H vs Q E hr h => ?_)
  · obtain ⟨L, v, n, ts, c, rfl, _⟩ := h; rfl
  · obtain ⟨L, v, n, ts, c, rfl, lf, hWeb, hW, hn, hts, hc, q⟩ := h
    refine ⟨_, (pss_cons (ps_asg (pv 1) (pg_tup rfl (pgs_cons (pg_name (i := 2) sc__law_bent.nd rfl (by first | exact Or.inl rfl | exact Or.inr rfl)) (pgs_cons (pg_name (i := 3) sc__law_bent.nd rfl (by first | exact Or.inl rfl | exact Or.inr rfl)) pgs_nil))))
    (pss_cons (ps_set (i := 4) sc__law_bent.nd rfl (by first | exact Or.inl rfl | exact Or.inr rfl) (pe_c c__law_odd hr (by decide) (by rfl) (pa_cons (pv 0) (pa_cons pe_int pa_nil))))
    (pss_cons (ps_set (i := 5) sc__law_bent.nd rfl (by first | exact Or.inl rfl | exact Or.inr rfl) (pe_cut (pe_lst (pa_cons (pe_callTy call_list_of (by rfl) B.list (by decide +kernel) (pa_cons (pv 1) pa_nil)) (pa_cons (pe_tup (pa_cons (pv 2) (pa_cons (pe_callTy call_list_of (by rfl) B.list (by decide +kernel) (pa_cons (pv 3) pa_nil)) pa_nil))) (pa_cons (pe_tup (pa_cons (pv 2) pa_nil)) (pa_cons (pe_tup (pa_cons (pv 2) (pa_cons (pv 3) (pa_cons (pe_tup pa_nil) pa_nil)))) (pa_cons (pe_tup (pa_cons (pv 3) (pa_cons (pv 2) pa_nil))) (pa_cons (pe_tup (pa_cons (pe_op op_add (pv 2) pe_int) (pa_cons (pv 3) pa_nil))) (pa_cons (pe_tup (pa_cons pe_bl (pa_cons (pv 3) pa_nil))) pa_nil))))))))))
    (pss_cons (ps_set (i := 5) sc__law_bent.nd rfl (by first | exact Or.inl rfl | exact Or.inr rfl) (pe_cut (pe_op op_cat (pv 5) (pe_lst (pa_cons (pe_tup (pa_cons (pe_op op_sub (pv 2) pe_int) (pa_cons (pv 3) pa_nil))) (pa_cons (pe_tup (pa_cons (pe_un un_neg pe_int) (pa_cons (pe_tup pa_nil) pa_nil))) (pa_cons (pe_tup (pa_cons pe_non (pa_cons (pv 3) pa_nil))) (pa_cons (pe_tup (pa_cons (pv 4) (pa_cons (pv 3) pa_nil))) (pa_cons (pe_tup (pa_cons (pv 2) (pa_cons (pv 4) pa_nil))) (pa_cons (pv 4) (pa_cons (pe_tup (pa_cons (pv 2) (pa_cons (pe_cut (pe_op op_catA (pv 3) (pe_tup (pa_cons (pv 4) pa_nil)))) pa_nil))) pa_nil)))))))))))
    (pss_cons (ps_set (i := 5) sc__law_bent.nd rfl (by first | exact Or.inl rfl | exact Or.inr rfl) (pe_cut (pe_op op_cat (pv 5) (pe_lst (pa_cons (pe_tup (pa_cons (pv 2) (pa_cons (pe_cut (pe_op op_catA (pv 3) (pe_tup (pa_cons (pe_tup (pa_cons pe_int (pa_cons (pv 2) pa_nil))) pa_nil)))) pa_nil))) (pa_cons (pe_tup (pa_cons (pv 2) (pa_cons (pe_cut (pe_op op_catA (pe_tup (pa_cons (pe_tup (pa_cons pe_int (pa_cons pe_int pa_nil))) pa_nil)) (pv 3))) pa_nil))) (pa_cons (pe_tup (pa_cons (pv 2) (pa_cons (pe_cut (pe_op op_catA (pv 3) (pv 3))) pa_nil))) (pa_cons (pe_tup (pa_cons (pv 2) (pa_cons (pe_revA (pv 3)) pa_nil))) pa_nil))))))))
    (pss_cons (ps_expr (pe_bm PySem.F.plainAttrs_list PySem.F.slot_list_append PySem.F.type_list_append mt_append (pv 5) (pa_cons (pe_tup (pa_cons (pv 2) (pa_cons (pe_cut (pe_op op_catA (pv 3) (pe_tup (pa_cons (pe_tup (pa_cons (pe_op op_sub (pv 2) pe_int) (pa_cons (pe_op op_add (pv 2) pe_int) pa_nil))) pa_nil)))) pa_nil))) pa_nil)))
    (pss_cons (ps_for PassesOwn.never rfl (pi_enumT (by rfl) B.enumerate (pa_cons (pe_cut (pe_slice sl_tupA (pv 3) po_none (po_some pe_int))) pa_nil)) (pg_tup rfl (pgs_cons (pg_name (i := 6) sc__law_bent.nd rfl (by first | exact Or.inl rfl | exact Or.inr rfl)) (pgs_cons (pg_tup rfl (pgs_cons (pg_name (i := 7) sc__law_bent.nd rfl (by first | exact Or.inl rfl | exact Or.inr rfl)) (pgs_cons (pg_name (i := 8) sc__law_bent.nd rfl (by first | exact Or.inl rfl | exact Or.inr rfl)) pgs_nil))) pgs_nil)))
      (pss_one (ps_for PassesOwn.never rfl (pi_list (pe_lst (pa_cons (pe_tup (pa_cons (pv 8) (pa_cons (pv 7) pa_nil))) (pa_cons (pe_lst (pa_cons (pv 7) (pa_cons (pv 8) pa_nil))) (pa_cons (pe_tup (pa_cons (pv 7) (pa_cons (pv 8) (pa_cons pe_int pa_nil)))) (pa_cons (pe_tup (pa_cons (pv 7) pa_nil)) (pa_cons (pe_tup (pa_cons (pv 7) (pa_cons (pe_callTy call_str_int (by rfl) B.str (by decide +kernel) (pa_cons (pv 8) pa_nil)) pa_nil))) (pa_cons (pe_tup (pa_cons (pv 7) (pa_cons (pe_op op_add (pv 8) (pv 2)) pa_nil))) (pa_cons (pe_tup (pa_cons (pe_un un_neg pe_int) (pa_cons (pv 8) pa_nil))) (pa_cons (pe_tup (pa_cons (pv 7) (pa_cons pe_non pa_nil))) (pa_cons (pe_tup (pa_cons (pe_callTy call_bool1 (by rfl) B.bool (by decide +kernel) (pa_cons (pv 7) pa_nil)) (pa_cons (pv 8) pa_nil))) (pa_cons (pv 4) pa_nil)))))))))))) (pg_name (i := 9) sc__law_bent.nd rfl (by first | exact Or.inl rfl | exact Or.inr rfl))
        (pss_one (ps_expr (pe_bm PySem.F.plainAttrs_list PySem.F.slot_list_append PySem.F.type_list_append mt_append (pv 5) (pa_cons (pe_tup (pa_cons (pv 2) (pa_cons (pe_cut (pe_op op_catA (pe_cut (pe_op op_catA (pe_cut (pe_slice sl_tupA (pv 3) po_none (po_some (pv 6)))) (pe_tup (pa_cons (pv 9) pa_nil)))) (pe_cut (pe_slice sl_tupA (pv 3) (po_some (pe_op op_add (pv 6) pe_int)) po_none)))) pa_nil))) pa_nil)))))))
    (pss_one (ps_ret (pv 5)))))))))), ?_⟩
    have e17 := oddC17
    obtain ⟨pw, qw, us, rfl, epw, eqw, hT⟩ := hWeb
    have ul := hT.len
    refine ⟨_, rfl, pw, _, rfl, SqT.of epw, rfl, _, _, rfl, _, _, rfl, rfl, ?_⟩
    refine ⟨_, rfl, L, 16, c, rfl, by decide, lf, by show c + oddC 17 < 2 ^ 50; omega, fun od H1 fr1 lf1 ko => ?_⟩
    have t1 := lf.tst fr1
    have ew1 := t1 _ _ epw
    have eq1 := t1 _ _ eqw
    have hT1 := hT.mono t1
    have kT1 := kn_ties hT1
    have ktie : Kn H1 (.ref qw) := Kn.tup eq1 (by omega) kT1
    have kw : Kn H1 (.ref pw) := Kn.tup ew1 (by show 2 ≤ 1000; decide) (by simp [kn_int, ktie])
    have kb1 : KB H1 H1 [.ref pw, .ref qw, od] := .self (by simp [kw, ktie, ko])
    clear ktie kw
    refine ⟨fun x HX => ∃ S, x = .ref S ∧ AccO H1 S 7 HX ∧ KB H1 HX [.ref pw, .ref qw, od], ?_, ?_⟩
    · refine ⟨_, rfl, pw, _, rfl, .inr (SqT.of ew1), fun a2 na2 => ?_⟩
      have kb2 := kb1.newL (us := [.int (n : Int), .ref qw]) na2
      have ea2 := upd_same (H := H1) (a := a2) (o := HO.lst [.int (n : Int), .ref qw])
      have s2 := same_new (o := HO.lst [.int (n : Int), .ref qw]) na2
      generalize upd H1 a2 _ = H2 at kb2 ea2 s2 ⊢
      refine ⟨_, rfl, _, rfl, qw, _, rfl, .inr (SqT.of (kb2.same _ _ eq1)), fun a3 na3 => ?_⟩
      have kb3 := kb2.newL (us := us) na3
      have ea3 := upd_same (H := H2) (a := a3) (o := HO.lst us)
      have s3 := same_new (o := HO.lst us) na3
      generalize upd H2 a3 _ = H3 at kb3 ea3 s3 ⊢
      refine ⟨ (by show 2 ≤ sizeLine; decide), fun a4 na4 => ?_⟩
      have kb4 := kb3.newT (us := [.int (n : Int), .ref a3]) na4 (by show 2 ≤ 1000; decide) (by simp [flatO])
      have ea4 := upd_same (H := H3) (a := a4) (o := HO.tup [.int (n : Int), .ref a3])
      have s4 := same_new (o := HO.tup [.int (n : Int), .ref a3]) na4
      generalize upd H3 a4 _ = H4 at kb4 ea4 s4 ⊢
      refine ⟨_, rfl, (by show 1 ≤ sizeLine; decide), fun a5 na5 => ?_⟩
      have kb5 := kb4.newT (us := [.int (n : Int)]) na5 (by show 1 ≤ 1000; decide) (by simp [flatO])
      have ea5 := upd_same (H := H4) (a := a5) (o := HO.tup [.int (n : Int)])
      have s5 := same_new (o := HO.tup [.int (n : Int)]) na5
      generalize upd H4 a5 _ = H5 at kb5 ea5 s5 ⊢
      refine ⟨_, rfl, _, rfl, Nat.zero_le _, fun a6 na6 => ?_⟩
      have kb6 := kb5.newT (us := []) na6 (by show 0 ≤ 1000; decide) (by simp [flatO])
      have ea6 := upd_same (H := H5) (a := a6) (o := HO.tup [])
      have s6 := same_new (o := HO.tup []) na6
      generalize upd H5 a6 _ = H6 at kb6 ea6 s6 ⊢
      refine ⟨ (by show 3 ≤ sizeLine; decide), fun a7 na7 => ?_⟩
      have kb7 := kb6.newT (us := [.int (n : Int), .ref qw, .ref a6]) na7 (by show 3 ≤ 1000; decide) (by simp [flatO])
      have ea7 := upd_same (H := H6) (a := a7) (o := HO.tup [.int (n : Int), .ref qw, .ref a6])
      have s7 := same_new (o := HO.tup [.int (n : Int), .ref qw, .ref a6]) na7
      generalize upd H6 a7 _ = H7 at kb7 ea7 s7 ⊢
      refine ⟨_, rfl, _, rfl, (by show 2 ≤ sizeLine; decide), fun a8 na8 => ?_⟩
      have kb8 := kb7.newT (us := [.ref qw, .int (n : Int)]) na8 (by show 2 ≤ 1000; decide) (by simp [flatO])
      have ea8 := upd_same (H := H7) (a := a8) (o := HO.tup [.ref qw, .int (n : Int)])
      have s8 := same_new (o := HO.tup [.ref qw, .int (n : Int)]) na8
      generalize upd H7 a8 _ = H8 at kb8 ea8 s8 ⊢
      refine ⟨_, rfl, _, _, rfl, rfl, _, rfl, (by show 2 ≤ sizeLine; decide), fun a9 na9 => ?_⟩
      have kb9 := kb8.newT (us := [.int ((n : Int) + 1), .ref qw]) na9 (by show 2 ≤ 1000; decide) (by simp [flatO])
      have ea9 := upd_same (H := H8) (a := a9) (o := HO.tup [.int ((n : Int) + 1), .ref qw])
      have s9 := same_new (o := HO.tup [.int ((n : Int) + 1), .ref qw]) na9
      generalize upd H8 a9 _ = H9 at kb9 ea9 s9 ⊢
      refine ⟨_, rfl, (by show 2 ≤ sizeLine; decide), fun a10 na10 => ?_⟩
      have kb10 := kb9.newT (us := [.bl true, .ref qw]) na10 (by show 2 ≤ 1000; decide) (by simp [flatO])
      have ea10 := upd_same (H := H9) (a := a10) (o := HO.tup [.bl true, .ref qw])
      have s10 := same_new (o := HO.tup [.bl true, .ref qw]) na10
      generalize upd H9 a10 _ = H10 at kb10 ea10 s10 ⊢
      refine ⟨by show 7 ≤ sizeLine; decide, fun S nS => ?_⟩
      have kS := kb10.to (same_new (o := .lst [.ref a2, .ref a4, .ref a5, .ref a7, .ref a8, .ref a9, .ref a10]) nS)
      exact ⟨S, rfl, ⟨kS.same, same_freeO kb10.same nS, _, upd_same, by show 7 ≤ 7; decide, fun x hx => kS.kn x (by simp at hx; rcases hx with rfl | rfl | rfl | rfl | rfl | rfl | rfl <;> simp)⟩, kS.sub (by simp)⟩
    rintro v2 H2 ⟨S2, rfl, acc2, k2⟩
    refine ⟨fun x HX => ∃ S, x = .ref S ∧ AccO H1 S 14 HX ∧ KB H1 HX [.ref pw, .ref qw, od], ?_, ?_⟩
    · have b2 : KB H2 H2 [.ref pw, .ref qw, od] := .self k2.kn
      have eq2 := k2.same _ _ eq1
      have kT2 : ∀ u ∈ us, Kn H2 u := fun u hu => (kT1 u hu).mono (Same.tst k2.same) (LSt.same k2.same)
      refine ⟨_, rfl, _, rfl, _, _, rfl, rfl, _, rfl, (by show 2 ≤ sizeLine; decide), fun a11 na11 => ?_⟩
      have kb11 := b2.newT (us := [.int ((n : Int) - 1), .ref qw]) na11 (by show 2 ≤ 1000; decide) (by simp [flatO])
      have ea11 := upd_same (H := H2) (a := a11) (o := HO.tup [.int ((n : Int) - 1), .ref qw])
      have s11 := same_new (o := HO.tup [.int ((n : Int) - 1), .ref qw]) na11
      generalize upd H2 a11 _ = H11 at kb11 ea11 s11 ⊢
      refine ⟨_, rfl, Nat.zero_le _, fun a12 na12 => ?_⟩
      have kb12 := kb11.newT (us := []) na12 (by show 0 ≤ 1000; decide) (by simp [flatO])
      have ea12 := upd_same (H := H11) (a := a12) (o := HO.tup [])
      have s12 := same_new (o := HO.tup []) na12
      generalize upd H11 a12 _ = H12 at kb12 ea12 s12 ⊢
      refine ⟨ (by show 2 ≤ sizeLine; decide), fun a13 na13 => ?_⟩
      have kb13 := kb12.newT (us := [.int (-1), .ref a12]) na13 (by show 2 ≤ 1000; decide) (by simp [flatO])
      have ea13 := upd_same (H := H12) (a := a13) (o := HO.tup [.int (-1), .ref a12])
      have s13 := same_new (o := HO.tup [.int (-1), .ref a12]) na13
      generalize upd H12 a13 _ = H13 at kb13 ea13 s13 ⊢
      refine ⟨_, rfl, (by show 2 ≤ sizeLine; decide), fun a14 na14 => ?_⟩
      have kb14 := kb13.newT (us := [.non, .ref qw]) na14 (by show 2 ≤ 1000; decide) (by simp [flatO])
      have ea14 := upd_same (H := H13) (a := a14) (o := HO.tup [.non, .ref qw])
      have s14 := same_new (o := HO.tup [.non, .ref qw]) na14
      generalize upd H13 a14 _ = H14 at kb14 ea14 s14 ⊢
      refine ⟨_, rfl, _, rfl, (by show 2 ≤ sizeLine; decide), fun a15 na15 => ?_⟩
      have kb15 := kb14.newT (us := [od, .ref qw]) na15 (by show 2 ≤ 1000; decide) (by simp [flatO])
      have ea15 := upd_same (H := H14) (a := a15) (o := HO.tup [od, .ref qw])
      have s15 := same_new (o := HO.tup [od, .ref qw]) na15
      generalize upd H14 a15 _ = H15 at kb15 ea15 s15 ⊢
      refine ⟨_, rfl, _, rfl, (by show 2 ≤ sizeLine; decide), fun a16 na16 => ?_⟩
      have kb16 := kb15.newT (us := [.int (n : Int), od]) na16 (by show 2 ≤ 1000; decide) (by simp [flatO])
      have ea16 := upd_same (H := H15) (a := a16) (o := HO.tup [.int (n : Int), od])
      have s16 := same_new (o := HO.tup [.int (n : Int), od]) na16
      generalize upd H15 a16 _ = H16 at kb16 ea16 s16 ⊢
      refine ⟨_, rfl, _, rfl, fun x HX => TpO H2 HX [.ref a16, .ref a15, .ref a14, .ref a13, .ref a12, .ref a11, .ref pw, .ref qw, od] 201 x, ?_, ?_⟩
      · refine ⟨_, rfl, _, rfl, (by show 1 ≤ sizeLine; decide), fun a17 na17 => ?_⟩
        have kb17 := kb16.newT (us := [od]) na17 (by show 1 ≤ 1000; decide) (by simp [flatO])
        have ea17 := upd_same (H := H16) (a := a17) (o := HO.tup [od])
        have s17 := same_new (o := HO.tup [od]) na17
        generalize upd H16 a17 _ = H17 at kb17 ea17 s17 ⊢
        exact catO (m := 200) (k := 1) (kb17.sub (by simp)) (kb17.same _ _ eq2) ea17 (by omega) (Nat.le_refl _) (by decide) (fun u hu => (kT2 u hu).mono (Same.tst kb17.same) (LSt.same kb17.same)) (fun u hu => by rw [List.mem_singleton.mp hu]; exact kb17.kn od (by simp))
      rintro x3 H3' ⟨c3, u3, rfl, ec3, lc3, kc3, k3⟩
      refine ⟨ (by show 2 ≤ sizeLine; decide), fun a18 na18 => ?_⟩
      have kb18 := k3.newT (us := [.int (n : Int), .ref c3]) na18 (by show 2 ≤ 1000; decide) (by simp [flatO])
      have ea18 := upd_same (H := H3') (a := a18) (o := HO.tup [.int (n : Int), .ref c3])
      have s18 := same_new (o := HO.tup [.int (n : Int), .ref c3]) na18
      generalize upd H3' a18 _ = H18 at kb18 ea18 s18 ⊢
      refine ⟨by show 7 ≤ sizeLine; decide, fun D nD => ?_⟩
      have kD := kb18.to (same_new (o := .lst [.ref a11, .ref a13, .ref a14, .ref a15, .ref a16, od, .ref a18]) nD)
      refine AccO.cat (m := 7) (k := 7) (acc2.to kD.same) upd_same rfl (by decide) (fun x hx => kD.kn x ?_) fun p HY aY sY => ⟨p, rfl, aY, k2.to (kD.same.trans sY)⟩
      simp at hx; rcases hx with rfl | rfl | rfl | rfl | rfl | rfl | rfl <;> simp
    clear acc2 k2
    rintro v2 H2 ⟨S2, rfl, acc2, k2⟩
    refine ⟨fun x HX => ∃ S, x = .ref S ∧ AccO H1 S 18 HX ∧ KB H1 HX [.ref pw, .ref qw, od], ?_, ?_⟩
    · have b2 : KB H2 H2 [.ref pw, .ref qw, od] := .self k2.kn
      have eq2 := k2.same _ _ eq1
      have kT2 : ∀ u ∈ us, Kn H2 u := fun u hu => (kT1 u hu).mono (Same.tst k2.same) (LSt.same k2.same)
      refine ⟨_, rfl, _, rfl, fun x HX => TpO H2 HX [.ref pw, .ref qw, od] 201 x, ?_, ?_⟩
      · refine ⟨_, rfl, _, rfl, (by show 2 ≤ sizeLine; decide), fun a19 na19 => ?_⟩
        have kb19 := b2.newT (us := [.int 0, .int (n : Int)]) na19 (by show 2 ≤ 1000; decide) (by simp [flatO])
        have ea19 := upd_same (H := H2) (a := a19) (o := HO.tup [.int 0, .int (n : Int)])
        have s19 := same_new (o := HO.tup [.int 0, .int (n : Int)]) na19
        generalize upd H2 a19 _ = H19 at kb19 ea19 s19 ⊢
        refine ⟨ (by show 1 ≤ sizeLine; decide), fun a20 na20 => ?_⟩
        have kb20 := kb19.newT (us := [.ref a19]) na20 (by show 1 ≤ 1000; decide) (by simp [flatO])
        have ea20 := upd_same (H := H19) (a := a20) (o := HO.tup [.ref a19])
        have s20 := same_new (o := HO.tup [.ref a19]) na20
        generalize upd H19 a20 _ = H20 at kb20 ea20 s20 ⊢
        exact catO (m := 200) (k := 1) (kb20.sub (by simp)) (kb20.same _ _ eq2) ea20 (by omega) (Nat.le_refl _) (by decide) (fun u hu => (kT2 u hu).mono (Same.tst kb20.same) (LSt.same kb20.same)) (fun u hu => by rw [List.mem_singleton.mp hu]; exact kb20.kn _ (by simp))
      rintro x3 H3' ⟨c3, u3, rfl, ec3, lc3, kc3, k3⟩
      refine ⟨ (by show 2 ≤ sizeLine; decide), fun a21 na21 => ?_⟩
      have kb21 := k3.newT (us := [.int (n : Int), .ref c3]) na21 (by show 2 ≤ 1000; decide) (by simp [flatO])
      have ea21 := upd_same (H := H3') (a := a21) (o := HO.tup [.int (n : Int), .ref c3])
      have s21 := same_new (o := HO.tup [.int (n : Int), .ref c3]) na21
      generalize upd H3' a21 _ = H21 at kb21 ea21 s21 ⊢
      refine ⟨_, rfl, fun x HX => TpO H2 HX [.ref a21, .ref c3, .ref pw, .ref qw, od] 201 x, ?_, ?_⟩
      · refine ⟨ (by show 2 ≤ sizeLine; decide), fun a22 na22 => ?_⟩
        have kb22 := kb21.newT (us := [.int 0, .int 0]) na22 (by show 2 ≤ 1000; decide) (by simp [flatO])
        have ea22 := upd_same (H := H21) (a := a22) (o := HO.tup [.int 0, .int 0])
        have s22 := same_new (o := HO.tup [.int 0, .int 0]) na22
        generalize upd H21 a22 _ = H22 at kb22 ea22 s22 ⊢
        refine ⟨ (by show 1 ≤ sizeLine; decide), fun a23 na23 => ?_⟩
        have kb23 := kb22.newT (us := [.ref a22]) na23 (by show 1 ≤ 1000; decide) (by simp [flatO])
        have ea23 := upd_same (H := H22) (a := a23) (o := HO.tup [.ref a22])
        have s23 := same_new (o := HO.tup [.ref a22]) na23
        generalize upd H22 a23 _ = H23 at kb23 ea23 s23 ⊢
        refine ⟨_, rfl, ?_⟩
        exact catO (m := 1) (k := 200) (kb23.sub (by simp)) ea23 (kb23.same _ _ eq2) (Nat.le_refl _) (by omega) (by decide) (fun u hu => by rw [List.mem_singleton.mp hu]; exact kb23.kn _ (by simp)) (fun u hu => (kT2 u hu).mono (Same.tst kb23.same) (LSt.same kb23.same))
      rintro x4 H4' ⟨c4, u4, rfl, ec4, lc4, kc4, k4⟩
      refine ⟨ (by show 2 ≤ sizeLine; decide), fun a24 na24 => ?_⟩
      have kb24 := k4.newT (us := [.int (n : Int), .ref c4]) na24 (by show 2 ≤ 1000; decide) (by simp [flatO])
      have ea24 := upd_same (H := H4') (a := a24) (o := HO.tup [.int (n : Int), .ref c4])
      have s24 := same_new (o := HO.tup [.int (n : Int), .ref c4]) na24
      generalize upd H4' a24 _ = H24 at kb24 ea24 s24 ⊢
      refine ⟨_, rfl, fun x HX => TpO H2 HX [.ref a24, .ref c4, .ref a21, .ref c3, .ref pw, .ref qw, od] 400 x, ?_, ?_⟩
      · refine ⟨_, rfl, _, rfl, ?_⟩
        exact catO (m := 200) (k := 200) kb24 (kb24.same _ _ eq2) (kb24.same _ _ eq2) (by omega) (by omega) (by decide) (fun u hu => (kT2 u hu).mono (Same.tst kb24.same) (LSt.same kb24.same)) (fun u hu => (kT2 u hu).mono (Same.tst kb24.same) (LSt.same kb24.same))
      rintro x5 H5' ⟨c5, u5, rfl, ec5, lc5, kc5, k5⟩
      refine ⟨ (by show 2 ≤ sizeLine; decide), fun a25 na25 => ?_⟩
      have kb25 := k5.newT (us := [.int (n : Int), .ref c5]) na25 (by show 2 ≤ 1000; decide) (by simp [flatO])
      have ea25 := upd_same (H := H5') (a := a25) (o := HO.tup [.int (n : Int), .ref c5])
      have s25 := same_new (o := HO.tup [.int (n : Int), .ref c5]) na25
      generalize upd H5' a25 _ = H25 at kb25 ea25 s25 ⊢
      refine ⟨_, rfl, _, rfl, qw, us, rfl, SqT.of (kb25.same _ _ eq2), fun r nr => ?_⟩
      have ur : us.reverse.length ≤ 1000 := by rw [List.length_reverse]; omega
      have kr : KB H2 (upd H25 r (.tup us.reverse)) (.ref r :: [.ref a25, .ref c5, .ref a24, .ref c4, .ref a21, .ref c3, .ref pw, .ref qw, od]) := by
        have s := same_new (o := .tup us.reverse) nr
        exact (kb25.to s).add (Kn.tup upd_same ur fun u hu => (kT2 u (List.mem_reverse.mp hu)).mono (Same.tst (kb25.same.trans s)) (LSt.same (kb25.same.trans s)))
      generalize upd H25 r _ = Hr at kr ⊢
      refine ⟨ (by show 2 ≤ sizeLine; decide), fun a26 na26 => ?_⟩
      have kb26 := kr.newT (us := [.int (n : Int), .ref r]) na26 (by show 2 ≤ 1000; decide) (by simp [flatO])
      have ea26 := upd_same (H := Hr) (a := a26) (o := HO.tup [.int (n : Int), .ref r])
      have s26 := same_new (o := HO.tup [.int (n : Int), .ref r]) na26
      generalize upd Hr a26 _ = H26 at kb26 ea26 s26 ⊢
      refine ⟨by show 4 ≤ sizeLine; decide, fun D nD => ?_⟩
      have kD := kb26.to (same_new (o := .lst [.ref a21, .ref a24, .ref a25, .ref a26]) nD)
      refine AccO.cat (m := 14) (k := 4) (acc2.to kD.same) upd_same rfl (by decide) (fun x hx => kD.kn x ?_) fun p HY aY sY => ⟨p, rfl, aY, k2.to (kD.same.trans sY)⟩
      simp at hx; rcases hx with rfl | rfl | rfl | rfl <;> simp
    clear acc2 k2
    rintro v2 H2 ⟨S, rfl, acc2, k2⟩
    have b2 : KB H2 H2 [.ref pw, .ref qw, od] := .self k2.kn
    have eq2 := k2.same _ _ eq1
    have kT2 : ∀ u ∈ us, Kn H2 u := fun u hu => (kT1 u hu).mono (Same.tst k2.same) (LSt.same k2.same)
    obtain ⟨xs0, eS0, _⟩ := id acc2.2.2
    refine ⟨_, rfl, .inl ⟨rfl, _, SqL.of eS0⟩, ?_⟩
    refine ⟨_, rfl, fun x HX => TpO H2 HX [.ref pw, .ref qw, od] 201 x, ?_, ?_⟩
    · refine ⟨_, rfl, ?_⟩
      refine ⟨_, rfl, _, _, rfl, rfl, _, rfl, _, _, rfl, rfl, (by show 2 ≤ sizeLine; decide), fun a27 na27 => ?_⟩
      have kb27 := b2.newT (us := [.int ((n : Int) - 1), .int ((n : Int) + 0)]) na27 (by show 2 ≤ 1000; decide) (by simp [flatO])
      have ea27 := upd_same (H := H2) (a := a27) (o := HO.tup [.int ((n : Int) - 1), .int ((n : Int) + 0)])
      have s27 := same_new (o := HO.tup [.int ((n : Int) - 1), .int ((n : Int) + 0)]) na27
      generalize upd H2 a27 _ = H27 at kb27 ea27 s27 ⊢
      refine ⟨ (by show 1 ≤ sizeLine; decide), fun a28 na28 => ?_⟩
      have kb28 := kb27.newT (us := [.ref a27]) na28 (by show 1 ≤ 1000; decide) (by simp [flatO])
      have ea28 := upd_same (H := H27) (a := a28) (o := HO.tup [.ref a27])
      have s28 := same_new (o := HO.tup [.ref a27]) na28
      generalize upd H27 a28 _ = H28 at kb28 ea28 s28 ⊢
      exact catO (m := 200) (k := 1) (kb28.sub (by simp)) (kb28.same _ _ eq2) ea28 (by omega) (Nat.le_refl _) (by decide) (fun u hu => (kT2 u hu).mono (Same.tst kb28.same) (LSt.same kb28.same)) (fun u hu => by rw [List.mem_singleton.mp hu]; exact kb28.kn _ (by simp))
    rintro x3 H3' ⟨c3, u3, rfl, ec3, lc3, kc3, k3⟩
    refine ⟨ (by show 2 ≤ sizeLine; decide), fun a29 na29 => ?_⟩
    have kb29 := k3.newT (us := [.int (n : Int), .ref c3]) na29 (by show 2 ≤ 1000; decide) (by simp [flatO])
    have ea29 := upd_same (H := H3') (a := a29) (o := HO.tup [.int (n : Int), .ref c3])
    have s29 := same_new (o := HO.tup [.int (n : Int), .ref c3]) na29
    generalize upd H3' a29 _ = H29 at kb29 ea29 s29 ⊢
    dsimp only [tNil]
    refine (acc2.to kb29.same).app (by decide) (kb29.kn (.ref a29) (by simp)) fun H4 acc4 t4 l4 _ => ?_
    have k4 : ∀ x ∈ [.ref pw, .ref qw, od], Kn H4 x := fun x hx => (kb29.kn x (by simp at hx; rcases hx with rfl | rfl | rfl <;> simp)).mono t4 l4
    clear acc2 k2 b2 eq2 kT2 kb29 k3
    have eq4 := acc4.1 _ _ eq1
    have hT4 := hT1.mono (Same.tst acc4.1)
    refine ⟨fun x HX => ∃ a4 us4 ts4, x = .ref a4 ∧ HX a4 = some (.tup us4) ∧ Ties HX us4 ts4 ∧ us4.length ≤ 200 ∧ (∀ t ∈ ts4, 0 ≤ t.1 ∧ t.1 < t.2 ∧ t.2 < (n : Int)) ∧ AccO H1 S 19 HX ∧ Kn HX od, ?_, ?_⟩
    · refine ⟨_, rfl, _, rfl, qw, us, rfl, SqT.of eq4, fun _ => ?_, fun _ p np => ?_⟩
      · exact ⟨qw, us, ts, rfl, eq4, hT4, by omega, hW.2, acc4, k4 od (by simp)⟩
      · have s5 := same_new (o := .tup (cutV us none (some 4))) np
        have le := cutV_length us none (some 4)
        obtain ⟨ts4, hT5, hP⟩ := ties_ex (H := upd H4 p (.tup (cutV us none (some 4)))) (P := fun t => 0 ≤ t.1 ∧ t.1 < t.2 ∧ t.2 < (n : Int)) (us := cutV us none (some 4)) fun i u e => by
          obtain ⟨j, hj⟩ := List.getElem?_of_mem (List.mem_of_mem_drop (List.mem_of_mem_take (List.mem_of_getElem? e)))
          obtain ⟨t, et, ht⟩ := hT4.at hj
          exact ⟨t, ht.mono (Same.tst s5), hW.2 t (List.mem_of_getElem? et)⟩
        exact ⟨p, _, ts4, rfl, upd_same, hT5, by omega, hP, acc4.to s5, (k4 od (by simp)).mono (Same.tst s5) (LSt.same s5)⟩
    clear acc4 k4 hT4 eq4
    rintro x5 H5 ⟨a4, us4, ts4, rfl, ea4, hT4, l4', hP4, acc5, ko5⟩
    refine ⟨a4, us4, rfl, SqT.of ea4, ?_⟩
    refine for_it (walk_enumT (K := K) (a := a4) (xs := us4)) (fun i σ HX => ∃ y6 y7 y8 y9, σ = [some (.ref L), some (.ref pw), some (.int (n : Int)), some (.ref qw), some od, some (.ref S), y6, y7, y8, y9] ∧ AccO H1 S (19 + 10 * i) HX ∧ Kn HX od ∧ Ties HX us4 ts4 ∧ HX a4 = some (.tup us4)) ⟨_, _, _, _, rfl, acc5, ko5, hT4, ea4⟩ ?_ ?_ ?_
    · rintro i σ HX _ ⟨_, _, _, _, _, _, _, _, ea⟩
      exact SqT.of ea
    · rintro i x σ HX HX' hi ⟨y6, y7, y8, y9, rfl, acc6, ko6, hT6, ea6⟩ ⟨T, x1, x2, rfl, nT, rfl, ex1, ex2⟩
      cases ex1
      obtain ⟨t, et, ht⟩ := hT6.at ex2
      obtain ⟨t0, t1', t2⟩ := hP4 t (List.mem_of_getElem? et)
      have sT := same_new (o := .tup [.int (i : Int), x2]) nT
      obtain ⟨p2, rfl, ep2⟩ := ht
      have ep2' := sT _ _ ep2
      have acc7 := acc6.to sT
      have kb7 : KB (upd HX T (.tup [.int (i : Int), .ref p2])) (upd HX T (.tup [.int (i : Int), .ref p2])) [od] := .self (by simp [ko6.mono (Same.tst sT) (LSt.same sT)])
      have hT7 := hT6.mono (Same.tst sT)
      have ea7 := sT _ _ ea6
      refine ⟨T, _, rfl, SqT.of upd_same, rfl, _, _, rfl, _, _, rfl, p2, _, rfl, SqT.of ep2', rfl, _, _, rfl, _, _, rfl, rfl, rfl, ?_⟩
      generalize upd HX T (.tup [.int (i : Int), .ref p2]) = H7 at acc7 kb7 hT7 ea7 ⊢
      refine ⟨_, rfl, _, rfl, (by show 2 ≤ sizeLine; decide), fun a30 na30 => ?_⟩
      have kb30 := kb7.newT (us := [.int t.2, .int t.1]) na30 (by show 2 ≤ 1000; decide) (by simp [flatO])
      have ea30 := upd_same (H := H7) (a := a30) (o := HO.tup [.int t.2, .int t.1])
      have s30 := same_new (o := HO.tup [.int t.2, .int t.1]) na30
      generalize upd H7 a30 _ = H30 at kb30 ea30 s30 ⊢
      refine ⟨_, rfl, _, rfl, (by show 2 ≤ sizeLine; decide), fun a31 na31 => ?_⟩
      have kb31 := kb30.newL (us := [.int t.1, .int t.2]) na31
      have ea31 := upd_same (H := H30) (a := a31) (o := HO.lst [.int t.1, .int t.2])
      have s31 := same_new (o := HO.lst [.int t.1, .int t.2]) na31
      generalize upd H30 a31 _ = H31 at kb31 ea31 s31 ⊢
      refine ⟨_, rfl, _, rfl, (by show 3 ≤ sizeLine; decide), fun a32 na32 => ?_⟩
      have kb32 := kb31.newT (us := [.int t.1, .int t.2, .int 0]) na32 (by show 3 ≤ 1000; decide) (by simp [flatO])
      have ea32 := upd_same (H := H31) (a := a32) (o := HO.tup [.int t.1, .int t.2, .int 0])
      have s32 := same_new (o := HO.tup [.int t.1, .int t.2, .int 0]) na32
      generalize upd H31 a32 _ = H32 at kb32 ea32 s32 ⊢
      refine ⟨_, rfl, (by show 1 ≤ sizeLine; decide), fun a33 na33 => ?_⟩
      have kb33 := kb32.newT (us := [.int t.1]) na33 (by show 1 ≤ 1000; decide) (by simp [flatO])
      have ea33 := upd_same (H := H32) (a := a33) (o := HO.tup [.int t.1])
      have s33 := same_new (o := HO.tup [.int t.1]) na33
      generalize upd H32 a33 _ = H33 at kb33 ea33 s33 ⊢
      refine ⟨_, rfl, _, rfl, _, rfl, Nat.lt_of_le_of_lt (Nat.log2_le_self _) (by omega), (by show 2 ≤ sizeLine; decide), fun a34 na34 => ?_⟩
      have kb34 := kb33.newT (us := [.int t.1, .str (toString t.2)]) na34 (by show 2 ≤ 1000; decide) (by simp [flatO])
      have ea34 := upd_same (H := H33) (a := a34) (o := HO.tup [.int t.1, .str (toString t.2)])
      have s34 := same_new (o := HO.tup [.int t.1, .str (toString t.2)]) na34
      generalize upd H33 a34 _ = H34 at kb34 ea34 s34 ⊢
      refine ⟨_, rfl, _, rfl, _, rfl, _, _, rfl, rfl, (by show 2 ≤ sizeLine; decide), fun a35 na35 => ?_⟩
      have kb35 := kb34.newT (us := [.int t.1, .int (t.2 + (n : Int))]) na35 (by show 2 ≤ 1000; decide) (by simp [flatO])
      have ea35 := upd_same (H := H34) (a := a35) (o := HO.tup [.int t.1, .int (t.2 + (n : Int))])
      have s35 := same_new (o := HO.tup [.int t.1, .int (t.2 + (n : Int))]) na35
      generalize upd H34 a35 _ = H35 at kb35 ea35 s35 ⊢
      refine ⟨_, rfl, _, rfl, (by show 2 ≤ sizeLine; decide), fun a36 na36 => ?_⟩
      have kb36 := kb35.newT (us := [.int (-1), .int t.2]) na36 (by show 2 ≤ 1000; decide) (by simp [flatO])
      have ea36 := upd_same (H := H35) (a := a36) (o := HO.tup [.int (-1), .int t.2])
      have s36 := same_new (o := HO.tup [.int (-1), .int t.2]) na36
      generalize upd H35 a36 _ = H36 at kb36 ea36 s36 ⊢
      refine ⟨_, rfl, (by show 2 ≤ sizeLine; decide), fun a37 na37 => ?_⟩
      have kb37 := kb36.newT (us := [.int t.1, .non]) na37 (by show 2 ≤ 1000; decide) (by simp [flatO])
      have ea37 := upd_same (H := H36) (a := a37) (o := HO.tup [.int t.1, .non])
      have s37 := same_new (o := HO.tup [.int t.1, .non]) na37
      generalize upd H36 a37 _ = H37 at kb37 ea37 s37 ⊢
      refine ⟨_, rfl, .inl ⟨_, rfl, ?_⟩⟩
      refine ⟨_, rfl, (by show 2 ≤ sizeLine; decide), fun a38 na38 => ?_⟩
      have kb38 := kb37.newT (us := [.bl (t.1 != 0), .int t.2]) na38 (by show 2 ≤ 1000; decide) (by simp [flatO])
      have ea38 := upd_same (H := H37) (a := a38) (o := HO.tup [.bl (t.1 != 0), .int t.2])
      have s38 := same_new (o := HO.tup [.bl (t.1 != 0), .int t.2]) na38
      generalize upd H37 a38 _ = H38 at kb38 ea38 s38 ⊢
      refine ⟨_, rfl, by show 10 ≤ sizeLine; decide, fun D nD => ?_⟩
      have sD := same_new (o := .lst [.ref a30, .ref a31, .ref a32, .ref a33, .ref a34, .ref a35, .ref a36, .ref a37, .ref a38, od]) nD
      have kD := kb38.to sD
      have eD := upd_same (H := H38) (a := D) (o := HO.lst [.ref a30, .ref a31, .ref a32, .ref a33, .ref a34, .ref a35, .ref a36, .ref a37, .ref a38, od])
      have kx : ∀ x ∈ [.ref a30, .ref a31, .ref a32, .ref a33, .ref a34, .ref a35, .ref a36, .ref a37, .ref a38, od], Kn (upd H38 D (.lst [.ref a30, .ref a31, .ref a32, .ref a33, .ref a34, .ref a35, .ref a36, .ref a37, .ref a38, od])) x := fun x hx => kD.kn x (by simp at hx; rcases hx with rfl | rfl | rfl | rfl | rfl | rfl | rfl | rfl | rfl | rfl <;> simp)
      have acc8 := acc7.to kD.same
      obtain ⟨xs7, eS7, _⟩ := id (acc7.to kb38.same).2.2
      have SD : S ≠ D := ne_of_none eS7 nD
      have ko8 := kD.kn od (by simp)
      have hT8 := hT7.mono (Same.tst kD.same)
      have ea8 := kD.same _ _ ea7
      have xl : ([.ref a30, .ref a31, .ref a32, .ref a33, .ref a34, .ref a35, .ref a36, .ref a37, .ref a38, od] : List V).length = 10 := rfl
      generalize ([.ref a30, .ref a31, .ref a32, .ref a33, .ref a34, .ref a35, .ref a36, .ref a37, .ref a38, od] : List V) = zs at sD kD eD kx acc8 ko8 hT8 ea8 xl ⊢
      generalize upd H38 D _ = H8 at sD kD eD kx acc8 ko8 hT8 ea8 ⊢
      clear sD kD
      refine ⟨D, rfl, ⟨zs, SqL.of eD⟩, ?_⟩
      refine for_it (walk_list (K := K) (a := D) (xs := zs)) (fun j σ HX => ∃ y9, σ = [some (.ref L), some (.ref pw), some (.int (n : Int)), some (.ref qw), some od, some (.ref S), some (.int (i : Int)), some (.int t.1), some (.int t.2), y9] ∧ AccO H1 S (19 + 10 * i + j) HX ∧ Kn HX od ∧ Ties HX us4 ts4 ∧ HX a4 = some (.tup us4) ∧ HX D = some (.lst zs) ∧ ∀ x ∈ zs, Kn HX x) ⟨_, rfl, acc8, ko8, hT8, ea8, eD, kx⟩ ?_ ?_ ?_
      · rintro j σ HX _ ⟨_, _, _, _, _, _, eD, _⟩
        exact SqL.of eD
      · rintro j x σ HX0 HX hj ⟨y9, rfl, acc9, ko9, hT9, ea9, eD9, kx9⟩ ⟨rfl, hx⟩
        have kxx := kx9 x (List.mem_of_getElem? hx)
        obtain ⟨xs9, eS9, _⟩ := id acc9.2.2
        have eq9 := acc9.1 _ _ eq1
        have kus : ∀ u ∈ us, Kn HX u := fun u hu => (kT1 u hu).mono (Same.tst acc9.1) (LSt.same acc9.1)
        refine ⟨_, rfl, .inl ⟨rfl, _, SqL.of eS9⟩, ?_⟩
        refine ⟨_, rfl, fun y HY => TpO HX HY [x] 401 y, ?_, ?_⟩
        · refine ⟨fun y HY => TpO HX HY [x] 201 y, ?_, ?_⟩
          · refine ⟨fun y HY => TpO HX HY [x] 200 y, ?_, ?_⟩
            · exact ⟨_, rfl, _, rfl, _, rfl, cutO (m := 200) (.self (by simp [kxx])) eq9 (by omega) (by decide) kus⟩
            · rintro y1 G1 ⟨c1, u1, rfl, ec1, lc1, kc1, k1⟩
              refine ⟨_, rfl, (by show 1 ≤ sizeLine; decide), fun a39 na39 => ?_⟩
              have kb39 := k1.newT (us := [x]) na39 (by show 1 ≤ 1000; decide) (by simp [flatO])
              have ea39 := upd_same (H := G1) (a := a39) (o := HO.tup [x])
              have s39 := same_new (o := HO.tup [x]) na39
              generalize upd G1 a39 _ = H39 at kb39 ea39 s39 ⊢
              exact catO (m := 200) (k := 1) (kb39.sub (by simp)) (s39 _ _ ec1) ea39 lc1 (Nat.le_refl _) (by decide) (fun u hu => (kc1 u hu).mono (Same.tst s39) (LSt.same s39)) (fun u hu => by rw [List.mem_singleton.mp hu]; exact kb39.kn x (by simp))
          · rintro y2 G2 ⟨c2, u2, rfl, ec2, lc2, kc2, k2⟩
            refine ⟨fun y HY => TpO G2 HY [.ref c2, x] 200 y, ?_, ?_⟩
            · exact ⟨_, rfl, _, rfl, _, _, rfl, rfl, _, rfl, cutO (m := 200) (.self k2.kn) (k2.same _ _ eq9) (by omega) (by decide) fun u hu => (kus u hu).mono (Same.tst k2.same) (LSt.same k2.same)⟩
            · rintro y3 G3 ⟨c3, u3, rfl, ec3, lc3, kc3, k3⟩
              have k23 : KB HX G3 [x] := ⟨k2.same.trans k3.same, fun z hz => k3.kn z (by simp at hz; simp [hz])⟩
              exact catO (m := 201) (k := 200) k23 (k3.same _ _ ec2) ec3 lc2 lc3 (by decide) (fun u hu => (kc2 u hu).mono (Same.tst k3.same) (LSt.same k3.same)) kc3
        · rintro y4 G4 ⟨c4, u4, rfl, ec4, lc4, kc4, k4⟩
          refine ⟨ (by show 2 ≤ sizeLine; decide), fun a40 na40 => ?_⟩
          have kb40 := k4.newT (us := [.int (n : Int), .ref c4]) na40 (by show 2 ≤ 1000; decide) (by simp [flatO])
          have ea40 := upd_same (H := G4) (a := a40) (o := HO.tup [.int (n : Int), .ref c4])
          have s40 := same_new (o := HO.tup [.int (n : Int), .ref c4]) na40
          generalize upd G4 a40 _ = H40 at kb40 ea40 s40 ⊢
          have s49 := kb40.same
          dsimp only [tNil]
          refine (acc9.to s49).app (by omega) (kb40.kn (.ref a40) (by simp)) fun HY accY tY lY nY => ?_
          have Dn : D ≠ S := SD.symm
          exact ⟨_, rfl, accY, (ko9.mono (Same.tst s49) (LSt.same s49)).mono tY lY, (hT9.mono (Same.tst s49)).mono tY, tY _ _ (s49 _ _ ea9), nY _ _ Dn (s49 _ _ eD9), fun z hz => ((kx9 z hz).mono (Same.tst s49) (LSt.same s49)).mono tY lY⟩
      · rintro σ HX ⟨y9, rfl, acc9, ko9, hT9, ea9, eD9, kx9⟩
        exact ⟨_, _, _, _, rfl, by rw [xl] at acc9; exact acc9, ko9, hT9, ea9⟩
    · rintro σ HX ⟨y6, y7, y8, y9, rfl, acc6, ko6, hT6, ea6⟩
      obtain ⟨s6, nS, xs, eS, lS, kS⟩ := acc6
      exact ⟨_, rfl, q S xs HX (Lf.free fr1 lf1 nS) (fr1.trans (Fr.of s6)) ((lf1.same s6).mono (Int.le_refl _)) eS (by omega) kS⟩
end
end My

set_option Elab.async false
set_option linter.all false
set_option maxRecDepth 100000
set_option maxHeartbeats 2000000
namespace My
open PySem PySem.Spec PyProof.Rows L2 GxR GenW
/-! any(e for tg in iter): as all (Ge2, Ge3, A3), the other way round -/
section
variable {prog : Program} {w : World} {A : Around} {R : Result → Shared → Prop} {a : Addr} {g : Nat} {St : Nat → Shared → Prop} {En : Shared → Prop} {Yl : Nat → Value → Shared → Prop}
theorem anyG_loop (hh : A.handled = none) (hd : A.in1.depth < recursionLimit)
    (hen : ∀ s₁ h', En s₁ → (∀ b o, s₁.heap.get? b = some o → h'.get? b = some o) → R (.ok (.ret (.bool false))) { s₁.setGen g .finished with heap := h' })
    (hyl : ∀ m v s₁ gs', gs'.bare = true → Yl m v s₁ → (v = .bool true ∧ R (.ok (.ret (.bool true))) (s₁.setGen g gs')) ∨
      (v = .bool false ∧ (s₁.setGen g gs').heap.NoLimit ∧ (s₁.setGen g gs').heap.IsGen a g ∧ ∃ m', m' < m ∧ St m' ((s₁.setGen g gs').setGen g .running))) :
    ∀ (n : Nat) (s : Shared), s.heap.NoLimit → s.heap.IsGen a g →
      (∃ gs, s.gens[g]? = some gs ∧ gs.Goes (model prog w) A.in1.in1 (fun _ _ r s₁ => r = .ok .next ∧ En s₁) (protoG St Yl) n (.send .none) (s.setGen g .running)) →
      codeAny (model prog w) A (.builtin "any.loop" ⟨[.ref a], []⟩) R s := by
  intro n
  induction n with
  | zero =>
    rintro s hl hg ⟨gs, hgs, hgo⟩
    refine codeAny_builtin F.entry_any_loop ?_
    rw [Around.under_plainId F.plain_any_loop _]
    show wpAny _ A.in1 (pyNext (.ref a) >>= _) _ _ s
    refine wpAny_bind (wpAny_pyNext_genexpQ (P := fun _ _ s₁ => En s₁) hh hl hd hg hgs hgo (fun v s₁ gs' hb hY => ?_) (fun s₁ hP h' hk => ?_))
    · obtain ⟨⟨m, hm, hy⟩, _⟩ := hY
      rcases hyl m v s₁ gs' hb hy with ⟨rfl, hR⟩ | ⟨_, _, _, m', hm', _⟩
      · refine wpAny_bind (wpAny_holding (wpAny_truthy_bool ?_))
        refine wpAny_bind (wpAny_letGo ?_)
        simp only [if_true]
        exact wpAny_bind (wpAny_rule (wpAny_pure hR))
      · omega
    · exact wpAny_bind (wpAny_rule (wpAny_pure (hen s₁ h' hP hk)))
  | succ n ih =>
    rintro s hl hg ⟨gs, hgs, hgo⟩
    refine codeAny_builtin F.entry_any_loop ?_
    rw [Around.under_plainId F.plain_any_loop _]
    show wpAny _ A.in1 (pyNext (.ref a) >>= _) _ _ s
    have hsz : g + 1 ≤ s.gens.size := by
      rcases Nat.lt_or_ge g s.gens.size with z | z
      · exact z
      · rw [Array.getElem?_eq_none z] at hgs; cases hgs
    refine wpAny_bind (wpAny_gsz hsz (wpAny_pyNext_genexpQ (P := fun _ _ s₁ => En s₁) hh hl hd hg hgs hgo (fun v s₁ gs' hb hY hn => ?_) (fun s₁ hP h' hk _ => ?_)))
    · obtain ⟨⟨m, hm, hy⟩, hres⟩ := hY
      rcases hyl m v s₁ gs' hb hy with ⟨rfl, hR⟩ | ⟨rfl, hl', hg', m', hm', hst⟩
      · refine wpAny_bind (wpAny_holding (wpAny_truthy_bool ?_))
        refine wpAny_bind (wpAny_letGo ?_)
        simp only [if_true]
        exact wpAny_bind (wpAny_rule (wpAny_pure hR))
      · refine wpAny_bind (wpAny_holding (wpAny_truthy_bool ?_))
        refine wpAny_bind (wpAny_letGo ?_)
        simp only [Bool.false_eq_true, if_false]
        have hm : m ≤ n := hm
        refine wpAny_pure ⟨plainId_quiet F.plain_any_loop _, ih _ hl' hg' ⟨gs', ?_, hres _ m' (by omega) hst⟩⟩
        have hn' : g < s₁.gens.size := by
          rw [setGen_size] at hn; exact hn
        show (s₁.gens.setIfInBounds g gs')[g]? = some gs'
        rw [Array.getElem?_setIfInBounds_self, if_pos hn']
    · exact wpAny_bind (wpAny_rule (wpAny_pure (hen s₁ h' hP hk)))
end
theorem anyG_it {J : It} {n : Nat} {G : Hp → Prop} {Y : Nat → Hp → V → Hp → Prop} (w : Walk J n G Y) {g : TG} {te : TE} {vs : List Nat} {σ : L2.St} {H0 : Hp} {QT QF : Hp → Prop} (Pv : Nat → Hp → Prop) (h0 : Pv 0 H0) (hG : ∀ i H, i ≤ n → Pv i H → G H)
    (hs : ∀ i x H H', i < n → Pv i H → Y i H x H' → g x (wipe σ vs) H' fun σ2 H2 => wipe σ2 vs = wipe σ vs ∧ te σ2 H2 fun y H3 => ∃ b, y = .bl b ∧ if b = true then QF H3 else Pv (i + 1) H3)
    (hd : ∀ H, Pv n H → QT H) :
    ∃ W : Nat → Nat → Hp → Prop, (∃ m, W 0 m H0) ∧ ∀ i m H, W i m H → (J.stop i H ∧ QT H) ∨
      (J.go i H ∧ ∃ Nx : Hp → Prop, (∀ H', Nx H' → ∃ m', m' < m ∧ W (i + 1) m' H') ∧ ∀ x H', J.yld i H x H' → g x (wipe σ vs) H' fun σ2 H2 => wipe σ2 vs = wipe σ vs ∧
        te σ2 H2 fun y H3 => ∃ b, y = .bl b ∧ if b = true then QF H3 else Nx H3) := by
  refine ⟨fun i m H => m = n - i ∧ i ≤ n ∧ Pv i H, ⟨n, rfl, Nat.zero_le _, h0⟩, ?_⟩
  rintro i m H ⟨rfl, hi, p⟩
  have q := hG i H hi p
  by_cases hlt : i < n
  · exact .inr ⟨w.goes i H hlt q, Pv (i + 1), fun H' p' => ⟨n - (i + 1), by omega, rfl, hlt, p'⟩, fun x H' y => hs i x H H' hlt p (w.yields i H x H' hlt q y)⟩
  · have e : i = n := by omega
    subst e
    exact .inl ⟨w.stops H q, hd H p⟩
/-- any(e for tg in iter) -/
def tAnyG (P : Addr) (wi : TI) (g : TG) (te : TE) (vs : List Nat) : TE := fun σ H Q => wi σ H fun J H1 => TabG H1 P ∧ ∀ H2, Tabbed P H1 H2 →
  ∃ W : Nat → Nat → Hp → Prop, (∃ m, W 0 m H2) ∧ ∀ i m H, W i m H → (J.stop i H ∧ Q (.bl false) H) ∨
    (J.go i H ∧ ∃ Nx : Hp → Prop, (∀ H', Nx H' → ∃ m', m' < m ∧ W (i + 1) m' H') ∧ ∀ x H', J.yld i H x H' → g x (wipe σ vs) H' fun σ2 H2 => wipe σ2 vs = wipe σ vs ∧
      te σ2 H2 fun y H3 => ∃ b, y = .bl b ∧ if b = true then Q (.bl true) H3 else Nx H3)

section
variable {X : Cx}
theorem pe_anyG {c P : Addr} {elt tg iter : Expr} {p pos gpos : Pos} {scope : Scope} {own : List (Str × Nat)} {wi : TI} {g : TG} {te : TE} {k : Nat}
    (hc : X.calm = true) (hN : X.N.Nodup) (hr : Room (k + 1) X.A) (hgl : Gl X "any") (hm : X.mg "any" = none) (TB : TabB X.base X.mg c P) (hcode : X.env.code = .ref c)
    (S : GsOk scope) (ok : BlkOk X.N X.env.scope scope own) (hi : PI X tg iter wi)
    (hg : ∀ A' s H C code fp pn, PG (gcx X A' s H (gEnv X scope C code) fp pn) tg g)
    (he : ∀ A' s H C code fp pn, Room k A' → PE (gcx X A' s H (gEnv X scope C code) fp pn) elt te)
    (hs : ∀ v, genFold iter X.env v = pure v := by intro _; rfl)
    (h1 : starEach [.GeneratorExp elt [⟨tg, iter, [], 0⟩] scope gpos] X.env = (false, eval (.GeneratorExp elt [⟨tg, iter, [], 0⟩] scope gpos) X.env) :: starEach [] X.env := by rfl) :
    PE X (.Call (.Name "any" p) [.GeneratorExp elt [⟨tg, iter, [], 0⟩] scope gpos] [] pos) (tAnyG P wi g te (own.map (·.2))) := by
  refine ⟨fun pins s σ H Q I h => ?_⟩
  refine wpAny_Call_Name_kw (ld_blt I hgl hm boot_any ?_)
  refine PyProof.Rows.callWith_builtin1 ?_ h1 (by rfl)
  rw [h1]
  show wpAny _ _ (spliced ((false, eval (.GeneratorExp elt [⟨tg, iter, [], 0⟩] scope gpos) X.env) :: backTo pos (starEach [] X.env))) _ _ s
  refine Calls.spliced_cons (gen_mk hr TB hcode S ok hi hs I h fun J H1 H2 it fp tn s4 s5 C a code gi x y q M => ?_)
  refine Calls.spliced_nil ?_
  obtain ⟨W, ⟨m0, w0⟩, turn⟩ := q H2 M.tab
  have hX : X.A.handled = none := M.inv.ok.hd hc
  have I5 : Inv (gcx X (gA X elt tg iter scope gpos it C code) s4 H2 (gEnv X scope C code) fp [(a, genObj gi x y)]) [] (wipe σ (own.map (·.2))) H2 s5 :=
    gen_inv M.inv ok hN S M.fp M.c hX (gA_frames M.inv.ok.frames) M.kp M.ns M.os M.bare fun p hp => by
      rw [List.mem_singleton.mp hp]
      exact ⟨M.obj, M.lt, fun v e => by cases e⟩
  have pg := hg (gA X elt tg iter scope gpos it C code) s4 H2 C code fp [(a, genObj gi x y)]
  have pe := he (gA X elt tg iter scope gpos it C code) s4 H2 C code fp [(a, genObj gi x y)] (gA_room hr)
  have T := M.tu
  generalize hY : gcx X (gA X elt tg iter scope gpos it C code) s4 H2 (gEnv X scope C code) fp [(a, genObj gi x y)] = Y at I5 pg pe
  have stat : ∀ {σ' : L2.St} {H' : Hp} {s' : Shared}, Inv Y [] σ' H' s' → (∀ b ∈ fp, H' b = none) → ∀ b ∈ fp, FpOk Y [] H' b := fun {σ' H' s'} I' hn b hb => by
    subst hY
    refine ⟨hn b hb, (I'.ok.exf b hb).1, I'.ok.exfs b hb, .inl hb, fun x c e => (I'.ok.exf b hb).2 x c e, fun p hp => ?_⟩
    have hp : p ∈ [(a, genObj gi x y)] ++ ([] : List (Addr × Obj)) := hp
    rw [List.append_nil] at hp
    rw [List.mem_singleton.mp hp]
    have h2 := (M.fp b hb).2
    have h3 := M.lt
    exact Nat.ne_of_gt (Nat.lt_trans h2 h3)
  have obj : ∀ {σ' : L2.St} {H' : Hp} {s' : Shared}, Inv Y [] σ' H' s' → s'.heap.IsGen a gi := fun {σ' H' s'} I' => by
    subst hY
    exact ⟨_, x, y, (I'.pin (a, genObj gi x y) (List.mem_append_left _ (List.mem_singleton.mpr rfl))).1, rfl, rfl, rfl⟩
  have back : ∀ {σ' : L2.St} {H' : Hp} {s' : Shared}, Inv Y [] σ' H' s' → Inv X pins σ H' s' := fun {σ' H' s'} I' => by
    subst hY
    exact M.inv.call' (ch := fp) I'.os I'.base I'.hok I'.bare fun b hb => ⟨(M.fp b hb).1.2.2.2.1, (M.fp b hb).1.2.1, (M.fp b hb).1.2.2.2.2.1, (M.fp b hb).1.2.2.2.2.2⟩
  have seg := seg_loopG (prog := X.prog) (w := X.w) (A := X.A.in1.in1) (elt := elt) (tg := tg) (iter := iter) (scope := scope) (pos := gpos) (it := it) (cenv := gEnv X scope C code) S.co
    (fun m s => ∃ i H', Inv Y [] (wipe σ (own.map (·.2))) H' s ∧ tn i s.heap ∧ (∀ b ∈ fp, H' b = none) ∧ W i m H')
    (fun s => ∃ H', Inv Y [] (wipe σ (own.map (·.2))) H' s ∧ Q (.bl false) H')
    (fun m v s => ∃ i H' b, v = .bool b ∧ Inv Y [] (wipe σ (own.map (·.2))) H' s ∧ tn i s.heap ∧ (∀ b ∈ fp, H' b = none) ∧ if b = true then Q (.bl true) H' else ∃ m', m' < m ∧ W i m' H') ?_
  · have hl5 : s5.heap.NoLimit := I5.nolimit
    refine call_function_tree F.kind_any F.plain_any F.entry_any (F.args_any1 _) ?_
    unfold Builtin.«any»
    refine wpAny_bind (m := oneArg "any" _) (wpAny_pure ?_)
    refine wpAny_bind (wpAny_pyIter_gen (obj I5) ?_)
    refine wpAny_pure ⟨plainId_quiet F.plain_any_loop _, ?_⟩
    refine anyG_loop (g := gi) (n := m0 + 1) (St := fun m s => ∃ i H', Inv Y [] (wipe σ (own.map (·.2))) H' s ∧ tn i s.heap ∧ (∀ b ∈ fp, H' b = none) ∧ W i m H')
      (En := fun s => ∃ H', Inv Y [] (wipe σ (own.map (·.2))) H' s ∧ Q (.bl false) H')
      (Yl := fun m v s => ∃ i H' b, v = .bool b ∧ Inv Y [] (wipe σ (own.map (·.2))) H' s ∧ tn i s.heap ∧ (∀ b ∈ fp, H' b = none) ∧ if b = true then Q (.bl true) H' else ∃ m', m' < m ∧ W i m' H')
      hX (by have := hr.dp; show X.A.depth < _; omega) ?_ ?_ s5 hl5 (obj I5) ⟨_, M.gs, rfl, ?_⟩
    · rintro s₁ h' ⟨H', I', qq⟩ hk
      have I6 := inv_setGen (g := gi) (x := .finished) I' rfl
      have I7 := (back I6).kept (t' := s₁.toks) hk
      exact ⟨.bl false, H', I7, rfl, qq⟩
    · rintro m v s₁ gs' hb ⟨i, H', b, rfl, I', st', n', q'⟩
      have I6 := inv_setGen (g := gi) I' hb
      cases b with
      | true => exact .inl ⟨rfl, .bl true, H', back I6, rfl, q'⟩
      | false =>
        obtain ⟨m', hm', w'⟩ : ∃ m', m' < m ∧ W i m' H' := q'
        exact .inr ⟨rfl, I6.nolimit, obj I6, m', hm', i, H', inv_setGen I6 rfl, st', n', w'⟩
    · -- the start
      have I6 : Inv Y [] (wipe σ (own.map (·.2))) H2 (s5.setGen gi .running) := inv_setGen I5 rfl
      have st5 : tn 0 (s5.setGen gi .running).heap := T.keep _ _ _ M.st fun b _ o e => M.kp b o e
      have loop := seg (m0 + 1) m0 (s5.setGen gi .running) (s5.setGen gi .running) (Nat.lt_succ_self _) ⟨0, H2, I6, st5, fun b hb => (M.fp b hb).1.1, w0⟩
      show Seg _ X.A.in1.in1 _ _ _ _ _ ((compStart (.GeneratorExp elt [⟨tg, iter, [], 0⟩] scope gpos) 0 (.ref it) .none (gEnv X scope C code)).onRaise (leaving (gEnv X scope C code))) [] _
      unfold compStart
      rw [Sem.onRaise_eq_wrap]
      show Seg _ X.A.in1.in1 _ _ _ _ _ ((ask >>= _).wrap _ _ _ _) [] _
      refine seg_bind_wrap (wpAny_askSetting ?_)
      split
      · exact seg_again rfl loop
      · refine seg_bind_wrap (wpAny_rule ?_)
        show Seg _ X.A.in1.in1 _ _ _ _ _ ((standAt iter.pos >>= _).wrap _ _ _ _) [] _
        exact seg_bind_wrap (wpAny_standAt (seg_bind_wrap (T.self _ 0 _ _ _ st5 (seg_again rfl loop))))
  · rintro m s6 ⟨i, H', I', st', n', w'⟩
    rcases turn i m H' w' with ⟨stop, qq⟩ | ⟨go, Nx, hNx, step⟩
    · have td := T.done Y (by subst hY; rfl) (by subst hY; rfl) (by subst hY; rfl) (by subst hY; rfl) i [] s6 _ H' (fun _ _ => False) I' (stat I' n') st' stop
      subst hY
      refine wpAny_mono td (fun r s7 ⟨hr7, I7⟩ => ?_) fun _ _ e => e
      subst hr7
      exact ⟨H', I7, qq⟩
    · have ti := T.item Y (by subst hY; rfl) (by subst hY; rfl) (by subst hY; rfl) (by subst hY; rfl) i [] s6 _ H' (fun _ _ => False) I' (stat I' n') st' go
      subst hY
      refine wpAny_mono ti (fun r s7 ⟨u, hr7, h7⟩ => ?_) fun _ _ e => e
      subst hr7
      refine wpAny_mono h7 (fun _ s8 ⟨xv, H8, I8, r8, y8, st8, n8⟩ => ?_) fun _ _ e => e
      have I8' := I8.pinned (stat I8 n8) (T.obj _ _ st8)
      refine wpAny_mono (pg.run _ s8 _ H8 xv u _ I8' r8 (step xv H8 y8)) (fun _ s9 ⟨σ9, H9, I9, hw9, q9⟩ => ?_) fun _ _ e => e
      refine wpAny_mono (pe.run _ s9 σ9 H9 _ I9 q9) (fun v s10 ⟨yv, H10, I10, r10, b, eb, q10⟩ => ?_) fun _ _ e => e
      subst eb
      cases r10
      have pin' : ∀ b ∈ fp, ∀ o, s8.heap.get? b = some o → s10.heap.get? b = some o ∧ H10 b = none := fun b hb o e =>
        let z := I10.pin (b, o) (List.mem_append_right _ (List.mem_append_right _ (mem_pinsAt hb e)))
        ⟨z.1, z.2.1⟩
      have hl : (wipe σ (own.map (·.2))).length = σ9.length := by rw [← hw9, wipe_length]
      refine ⟨i + 1, H10, b, rfl, (I10.unpinned (pins := [])).weak hl (fun j v e => ?_), T.keep _ _ _ st8 fun b hb o e => (pin' b hb o e).1, fun b hb => ?_, ?_⟩
      · rw [← hw9] at e
        exact (wipe_some e).1
      · obtain ⟨o, e, _⟩ := T.obj _ _ st8 b hb
        exact (pin' b hb o e).2
      · cases b with
        | true => exact q10
        | false => exact hNx H10 q10
end
end My

set_option Elab.async false
set_option linter.all false
set_option maxRecDepth 100000
namespace My
open PySem PySem.Spec PyProof.Rows L2 GxR
theorem tabN_same {H H' : Hp} {PT : Addr} (h : TabG H PT) (s : Same H H') : TabG H' PT := by
  obtain ⟨ps, h1, h2⟩ := h
  exact ⟨ps, s _ _ h1, h2⟩
theorem frN_tst {N : List Addr} {H H' : Hp} (f : FrM N H H') (t : ∀ x ∈ N, TabG H x) : Tst H H' := fun b xs e => f b _ (fun z => by
  obtain ⟨ps, h1, _⟩ := t b z
  rw [e] at h1; cases h1) e
theorem tabN_keep {N : List Addr} {H H' : Hp} {PM : Addr} (s : FrM N H H') (t : ∀ x ∈ N, TabG H' x) (m : TabG H PM) : TabG H' PM := by
  by_cases e : PM ∈ N
  · exact t _ e
  · obtain ⟨ps, h1, h2⟩ := m
    exact ⟨ps, s _ _ e h1, h2⟩
end My

set_option Elab.async false
set_option linter.all false
set_option maxRecDepth 100000
namespace My
open PySem PySem.Spec PyProof.Rows L2 GxR
/-! ### several tables -/
structure StN (N : List Addr) (H0 H : Hp) : Prop where
  fr : FrM N H0 H
  tg : ∀ x ∈ N, TabG H x
theorem StN.refl {N : List Addr} {H : Hp} (t : ∀ x ∈ N, TabG H x) : StN N H H := ⟨FrM.refl _ _, t⟩
theorem StN.same {N : List Addr} {H0 H H' : Hp} (h : StN N H0 H) (s : Same H H') : StN N H0 H' := ⟨h.fr.trans (FrM.same s), fun x hx => tabN_same (h.tg x hx) s⟩
theorem StN.trans {N : List Addr} {H0 H1 H2 : Hp} (a : StN N H0 H1) (b : StN N H1 H2) : StN N H0 H2 := ⟨a.fr.trans b.fr, b.tg⟩
theorem StN.free {N : List Addr} {p : Addr} {H0 H : Hp} (h : StN N H0 H) (e : H p = none) : H0 p = none := by
  cases z : H0 p with
  | none => rfl
  | some o =>
    exfalso
    by_cases hp : p ∈ N
    · obtain ⟨ps, h1, _⟩ := h.tg p hp
      rw [h1] at e; cases e
    · rw [h.fr p o hp z] at e; cases e
theorem StN.frL {N : List Addr} {L : Addr} {H0 H H' : Hp} {c : Int} (h : StN N H0 H) (lf : Lf H L c) (n0 : H0 L = none) (f : Fr L H H') : StN N H0 H' := by
  obtain ⟨x, y, z, e, _⟩ := lf
  refine ⟨fun b o nb eb => f b o (fun w => by rw [w, n0] at eb; cases eb) (h.fr b o nb eb), fun p hp => ?_⟩
  obtain ⟨ps, h1, h2⟩ := h.tg p hp
  exact ⟨ps, f _ _ (fun w => by rw [w, e] at h1; cases h1) h1, h2⟩
theorem StN.sq {K : PySem.W.Frag} {N : List Addr} {a : Addr} {H0 H : Hp} {xs : List V} (h0 : ∀ x ∈ N, TabG H0 x) (h : StN N H0 H) (e : SqL K H0 a xs) : SqL K H a xs := by
  have k : ∀ {o : HO}, H0 a = some o → (∀ ps, o ≠ .tbl ps) → H a = some o := fun {o} ea nb => by
    refine h.fr a o (fun z => ?_) ea
    obtain ⟨ps, p1, _⟩ := h0 a z
    rw [p1] at ea; cases ea; exact nb _ rfl
  rcases e with (e | ⟨o, e⟩) | e
  · exact .inl (.inl (k e fun _ z => by cases z))
  · exact .inl (.inr ⟨o, k e fun _ z => by cases z⟩)
  · exact .inr e
theorem all3 {α : Type} {p : α → Prop} {a b c : α} (h1 : p a) (h2 : p b) (h3 : p c) : ∀ x ∈ [a, b, c], p x := fun x hx => by
  simp only [List.mem_cons, List.not_mem_nil, or_false] at hx
  rcases hx with rfl | rfl | rfl
  · exact h1
  · exact h2
  · exact h3
end My

set_option Elab.async false
set_option linter.all false
set_option maxRecDepth 100000
set_option maxHeartbeats 4000000
set_option pp.maxSteps 900
namespace My
open PySem PySem.Spec PyProof.Rows L2 GxR
theorem isw_back {H H' : Hp} {v : V} (k : KnD H 4 v) (t : Tst H H') (l : ∀ p us, H p = some (.lst us) → H' p = some (.lst us)) (h : IsW H' v) : IsW H v := by
  obtain ⟨n, ts, ⟨p, q, vs, rfl, ep, eq, hT⟩, hW⟩ := h
  have tup : ∀ {m : Nat} {r : Addr} {us : List V}, KnD H (m + 1) (.ref r) → H' r = some (.tup us) → H r = some (.tup us) ∧ ∀ u ∈ us, KnD H m u := fun {m r us} k e => by
    rcases k with k | ⟨p, us', e', h⟩ | ⟨p, us', e', h, _, kk⟩
    · cases k
    · cases e'
      rw [l _ _ h] at e; cases e
    · cases e'
      rw [t _ _ h] at e; cases e
      exact ⟨h, kk⟩
  obtain ⟨ep', k1⟩ := tup k ep
  obtain ⟨eq', k2⟩ := tup (k1 (.ref q) (by simp)) eq
  refine ⟨n, ts, ⟨p, q, vs, rfl, ep', eq', ?_⟩, hW⟩
  clear hW eq eq' ep' k1 ep
  induction vs generalizing ts with
  | nil =>
    cases ts with
    | nil => trivial
    | cons => exact hT.elim
  | cons u vs ih =>
    cases ts with
    | nil => exact hT.elim
    | cons x ts =>
      obtain ⟨⟨r, rfl, er⟩, hT⟩ := hT
      exact ⟨⟨r, rfl, (tup (k2 (.ref r) List.mem_cons_self) er).1⟩, ih ts hT fun u hu => k2 u (List.mem_cons_of_mem _ hu)⟩
theorem all2N {p : Addr → Prop} {a b : Addr} (h1 : p a) (h2 : p b) : ∀ x ∈ [a, b], p x := fun x hx => by
  simp only [List.mem_cons, List.not_mem_nil, or_false] at hx
  rcases hx with rfl | rfl
  · exact h1
  · exact h2
theorem bl_eqd {H : Hp} {m : Nat} {b c : Bool} (h : b = c) : Eqd (m + 1) H (.bl b) (.bl c) := .inl ⟨by rw [h], .inr (.inl ⟨b, rfl⟩)⟩
theorem kn_web {H : Hp} {v : V} {n : Nat} {ts : List (Int × Int)} (h : Web H v n ts) (l : ts.length ≤ 1000) : Kn H v := by
  obtain ⟨p, q, us, rfl, ep, eq, hT⟩ := h
  have kq : Kn H (.ref q) := Kn.tup eq (by rw [hT.len]; exact l) (kn_ties hT)
  exact Kn.tup ep (by show 2 ≤ 1000; decide) (by simp [kn_int, kq])
theorem cutTo (xs : List V) (j : Nat) : cutV xs none (some (j : Int)) = xs.take j := by
  unfold cutV
  rw [HT.sIx_nat, HT.sIx_none, List.drop_zero, Nat.sub_zero]
  by_cases h : j ≤ xs.length
  · rw [Nat.min_eq_left h]
  · rw [Nat.min_eq_right (by omega), List.take_length, List.take_of_length_le (by omega)]
theorem len144 {n : Nat} {ts : List (Int × Int)} (hn : n ≤ 12) (hW : WOk n ts) : ts.length ≤ 144 := by
  have h1 := nd_len (m := pup n n) (List.nodup_iff_pairwise_ne.mpr (hW.1.imp fun {s t} h e => by subst e; unfold ltT at h; omega)) fun t ht => (mem_pup (Nat.le_refl n)).mpr (by have := hW.2 t ht; omega)
  have := pup_len n n
  have := Nat.mul_le_mul hn hn
  omega
section
variable {P : Program} {w : World} {K : PySem.W.Frag} {mg : Str → Option Value} {base : Heap}
/-! ### law -/
abbrev s_law : Stmt := topS 23
abbrev N_law : List Str := ["_law_script", "_law_k", "_law_left_here", "_law_web_here", "_law_thing"]
theorem sc_law : FnScope N_law ["_law_script"] (defScope s_law) := ⟨rfl, rfl, rfl, by decide +kernel, rfl, by decide +kernel, by decide +kernel⟩
def sp_law (K : PySem.W.Frag) (P1 P2 : Addr) : Sp := fun vs H Q _ => ∃ (a : Addr) (ns : List Int), vs = [.ref a] ∧ SqL K H a (ns.map V.int) ∧ ns.length ≤ 63 ∧ TabG H P1 ∧ TabG H P2 ∧ ∀ H', Q (.bl true) H'
theorem ok_law {f : Addr} {fd : FuncData} {P1 P2 : Addr} (B : Bts mg) (F : Fun K "law" "law" s_law f fd) (c__law_left : Cl P w K mg base 1 "_law_left" (sp_left K)) (c__law_web : Cl P w K mg base 5 "_law_web" sp_web) (c_is_web : Cl P w K mg base 5 "is_web" (sp_webO P1 P2))
    (c__law_bent : Cl P w K mg base 20 "_law_bent" sp_bent01) (c__law_is_web : Cl P w K mg base 2 "_law_is_web" sp_lwebO) (c__law_same : Cl P w K mg base 5 "_law_same" (sp_same 5)) : TopRun P w K mg base f fd "_law_script" (sp_law K P1 P2) := by
  refine top_run (k := 29) F sc_law ⟨rfl, by decide, by decide⟩ fun cdv s H v Q E hr h => ?_
  obtain ⟨a, ns, e, hS, hl, t1, t2, q⟩ := h
  cases e
  refine ⟨_, (pss_cons (ps_for PassesOwn.never rfl (pi_range1 (by rfl) B.range (pa_cons (pe_op op_add pe_int (pe_callB call_len_seq (by rfl) B.len (by decide +kernel) (pa_cons (pe_slice sl_list (pv 0) po_none (po_some pe_int)) pa_nil))) pa_nil)) (pg_name (i := 1) sc_law.nd rfl (by first | exact Or.inl rfl | exact Or.inr rfl))
      (pss_cons (ps_set (i := 2) sc_law.nd rfl (by first | exact Or.inl rfl | exact Or.inr rfl) (pe_c c__law_left hr (by decide) (by rfl) (pa_cons (pv 0) (pa_cons (pv 1) pa_nil))))
      (pss_cons (ps_set (i := 3) sc_law.nd rfl (by first | exact Or.inl rfl | exact Or.inr rfl) (pe_c c__law_web hr (by decide) (by rfl) (pa_cons (pv 2) (pa_cons pe_int pa_nil))))
      (pss_cons (ps_if (pt_cmpR op_notBl (pe_c c_is_web hr (by decide) (by rfl) (pa_cons (pv 3) pa_nil)) pe_bl (nomark _)) (pss_one (ps_ret pe_bl)) pss_nil)
      (pss_cons (ps_for PassesOwn.never rfl (pi_list (pe_c c__law_bent hr (by decide) (by rfl) (pa_cons (pv 2) (pa_cons (pv 3) pa_nil)))) (pg_name (i := 4) sc_law.nd rfl (by first | exact Or.inl rfl | exact Or.inr rfl))
        (pss_one (ps_if (pt_not (pt_val (pe_c c__law_same hr (by decide) (by rfl) (pa_cons (pe_c c_is_web hr (by decide) (by rfl) (pa_cons (pv 4) pa_nil)) (pa_cons (pe_c c__law_is_web hr (by decide) (by rfl) (pa_cons (pv 4) pa_nil)) pa_nil))))) (pss_one (ps_ret pe_bl)) pss_nil)))
      (pss_one (ps_if (pt_not (pt_val (pe_c c__law_same hr (by decide) (by rfl) (pa_cons (pe_lst (pa_cons (pe_c c_is_web hr (by decide) (by rfl) (pa_cons (pe_tup (pa_cons pe_int (pa_cons (pe_tup pa_nil) pa_nil))) pa_nil)) (pa_cons (pe_c c_is_web hr (by decide) (by rfl) (pa_cons (pe_tup (pa_cons pe_int (pa_cons (pe_tup (pa_cons (pe_tup (pa_cons pe_int (pa_cons pe_int pa_nil))) pa_nil)) pa_nil))) pa_nil)) (pa_cons (pe_c c_is_web hr (by decide) (by rfl) (pa_cons (pe_tup pa_nil) pa_nil)) pa_nil)))) (pa_cons (pe_lst (pa_cons pe_bl (pa_cons pe_bl (pa_cons pe_bl pa_nil)))) pa_nil))))) (pss_one (ps_ret pe_bl)) pss_nil)))))))
    (pss_one (ps_ret pe_bl))), ?_⟩
  have tg0 : ∀ x ∈ [P1, P2], TabG H x := all2N t1 t2
  have e17 := oddC17
  refine ⟨_, rfl, _, rfl, a, _, rfl, hS, fun sl nsl => ?_⟩
  rw [show (some (8 : Int)) = some ((8 : Nat) : Int) from rfl, cutTo]
  refine ⟨sl, _, rfl, .inl (SqL.of upd_same), _, _, rfl, rfl, _, rfl, by omega, by rw [List.length_take]; omega, ?_⟩
  have tn : (1 + (((ns.map V.int).take 8).length : Int)).toNat ≤ 9 := by rw [List.length_take]; omega
  generalize (1 + (((ns.map V.int).take 8).length : Int)).toNat = turns at tn
  refine for_range (fun k σ H1 => ∃ y1 y2 y3 y4, σ = [some (.ref a), y1, y2, y3, y4] ∧ StN [P1, P2] H H1) ⟨none, none, none, none, rfl, (StN.refl tg0).same (same_new nsl)⟩ ?_ ?_
  · rintro k σ H1 hk ⟨y1, y2, y3, y4, rfl, S1⟩
    refine ⟨_, rfl, _, rfl, a, ns, _, rfl, S1.sq tg0 hS, by omega, by omega, fun L H2 nL s2 lf2 => ?_⟩
    have n0L : H L = none := S1.free nL
    refine ⟨_, rfl, L, 12, 0, rfl, lf2, by decide, by decide, fun v H3 n ts hn fr3 lf3 hWeb hW => ?_⟩
    have S3 : StN [P1, P2] H H3 := (S1.same s2).frL lf2 n0L fr3
    have hts : ts.length ≤ 200 := Nat.le_trans (len144 hn hW) (by decide)
    refine ⟨_, rfl, v, rfl, kn_web hWeb (by omega) 4, S3.tg _ (by simp), S3.tg _ (by simp), fun b H4 hb fr4 t41 t42 => ?_⟩
    obtain rfl : b = true := hb.mpr ⟨n, ts, hWeb, hW⟩
    refine ⟨true, true, rfl, rfl, false, rfl, iteF ?_⟩
    have tl4 := frM_lst2 fr4 (S3.tg _ (by simp)) (S3.tg _ (by simp))
    have S4 : StN [P1, P2] H H4 := S3.trans ⟨fr4, all2N t41 t42⟩
    have lf4 : Lf H4 L 200000 := by
      obtain ⟨x, y, z, e, k⟩ := lf3
      exact ⟨x, y, z, tl4.2 _ _ e, k⟩
    have hW4 := hWeb.mono tl4.1
    refine ⟨_, rfl, _, rfl, L, v, n, ts, _, rfl, lf4, hW4, hW, hn, hts, by decide, fun p xs H5 np5 fr5 lf5 e5 l5 kn5 => ⟨p, rfl, ⟨xs, SqL.of e5⟩, ?_⟩⟩
    have S5 : StN [P1, P2] H H5 := S4.frL lf4 n0L fr5
    refine for_it (walk_list (K := K) (a := p) (xs := xs)) (fun j σ HX => ∃ y4, σ = [some (.ref a), some (.int (0 + (k : Int))), some (.ref L), some v, y4] ∧ StN [P1, P2] H HX ∧ HX p = some (.lst xs) ∧ ∀ x ∈ xs, Kn HX x) ⟨_, rfl, S5, e5, kn5⟩ ?_ ?_ ?_
    · rintro j σ HX _ ⟨_, _, _, eX, _⟩
      exact SqL.of eX
    · rintro j x σ HX0 HX hj ⟨y4, rfl, SX, eX, kX⟩ ⟨rfl, hx⟩
      have kx := kX x (List.mem_of_getElem? hx)
      refine ⟨_, rfl, x, rfl, kx 4, SX.tg _ (by simp), SX.tg _ (by simp), fun b1 H6 hb1 fr6 t61 t62 => ?_⟩
      have tl6 := frM_lst2 fr6 (SX.tg _ (by simp)) (SX.tg _ (by simp))
      have l6 : LSt HX H6 := fun q us e => ⟨us, tl6.2 q us e⟩
      refine ⟨_, rfl, x, rfl, (kx.mono tl6.1 l6) 4, fun b2 H7 hb2 s7 => ?_⟩
      have e12 : b1 = b2 := by
        rw [Bool.eq_iff_iff, hb1, hb2]
        exact ⟨fun ⟨n', ts', h1, h2⟩ => ⟨n', ts', h1.mono tl6.1, h2⟩, isw_back (kx 4) tl6.1 tl6.2⟩
      refine ⟨_, _, rfl, bl_eqd e12, fun H8 s8 => ⟨true, rfl, iteF ?_⟩⟩
      have s68 := s7.trans s8
      exact ⟨_, rfl, (SX.trans ⟨fr6, all2N t61 t62⟩).same s68, s68 _ _ (tl6.2 _ _ eX), fun z hz => ((kX z hz).mono tl6.1 l6).mono (Same.tst s68) (LSt.same s68)⟩
    rintro σ HX ⟨y4, rfl, SX, eX, kX⟩
    clear eX kX kn5 l5 fr5
    have step : ∀ {HX HY : Hp} {b : Bool}, StN [P1, P2] H HX → FrM [P1, P2] HX HY → TabG HY P1 → TabG HY P2 → StN [P1, P2] H HY := fun S f a b => S.trans ⟨f, all2N a b⟩
    have kb0 : KB HX HX [] := .self (fun x hx => absurd hx List.not_mem_nil)
    refine ⟨ Nat.zero_le _, fun a2 na2 => ?_⟩
    have kb2 := kb0.newT (us := []) na2 (by show 0 ≤ 1000; decide) (by simp [flatO])
    have ea2 := upd_same (H := HX) (a := a2) (o := HO.tup [])
    have s2 := same_new (o := HO.tup []) na2
    generalize upd HX a2 _ = H2 at kb2 ea2 s2 ⊢
    refine ⟨ (by show 2 ≤ sizeLine; decide), fun a3 na3 => ?_⟩
    have kb3 := kb2.newT (us := [.int 0, .ref a2]) na3 (by show 2 ≤ 1000; decide) (by simp [flatO])
    have ea3 := upd_same (H := H2) (a := a3) (o := HO.tup [.int 0, .ref a2])
    have s3 := same_new (o := HO.tup [.int 0, .ref a2]) na3
    generalize upd H2 a3 _ = H3 at kb3 ea3 s3 ⊢
    have w1 : IsW H3 (.ref a3) := ⟨0, [], ⟨_, _, [], rfl, ea3, s3 _ _ ea2, trivial⟩, List.Pairwise.nil, fun t ht => absurd ht List.not_mem_nil⟩
    have SA := SX.same kb3.same
    refine ⟨_, rfl, kb3.kn (.ref a3) (by simp) 4, SA.tg _ (by simp), SA.tg _ (by simp), fun b1 HA hb1 frA tA1 tA2 => ?_⟩
    obtain rfl : b1 = true := hb1.mpr w1
    have SA' := SA.trans ⟨frA, all2N tA1 tA2⟩
    have kbA : KB HA HA [] := .self (fun x hx => absurd hx List.not_mem_nil)
    refine ⟨ (by show 2 ≤ sizeLine; decide), fun a4 na4 => ?_⟩
    have kb4 := kbA.newT (us := [.int 7, .int 299]) na4 (by show 2 ≤ 1000; decide) (by simp [flatO])
    have ea4 := upd_same (H := HA) (a := a4) (o := HO.tup [.int 7, .int 299])
    have s4 := same_new (o := HO.tup [.int 7, .int 299]) na4
    generalize upd HA a4 _ = H4 at kb4 ea4 s4 ⊢
    refine ⟨ (by show 1 ≤ sizeLine; decide), fun a5 na5 => ?_⟩
    have kb5 := kb4.newT (us := [.ref a4]) na5 (by show 1 ≤ 1000; decide) (by simp [flatO])
    have ea5 := upd_same (H := H4) (a := a5) (o := HO.tup [.ref a4])
    have s5 := same_new (o := HO.tup [.ref a4]) na5
    generalize upd H4 a5 _ = H5 at kb5 ea5 s5 ⊢
    refine ⟨ (by show 2 ≤ sizeLine; decide), fun a6 na6 => ?_⟩
    have kb6 := kb5.newT (us := [.int 300, .ref a5]) na6 (by show 2 ≤ 1000; decide) (by simp [flatO])
    have ea6 := upd_same (H := H5) (a := a6) (o := HO.tup [.int 300, .ref a5])
    have s6 := same_new (o := HO.tup [.int 300, .ref a5]) na6
    generalize upd H5 a6 _ = H6 at kb6 ea6 s6 ⊢
    have w2 : IsW H6 (.ref a6) := ⟨300, [(7, 299)], ⟨_, _, [.ref a4], rfl, ea6, s6 _ _ ea5, ⟨⟨_, rfl, s6 _ _ (s5 _ _ ea4)⟩, trivial⟩⟩, List.pairwise_singleton .., fun t ht => by rw [List.mem_singleton.mp ht]; decide⟩
    have SB := SA'.same kb6.same
    refine ⟨_, rfl, kb6.kn (.ref a6) (by simp) 4, SB.tg _ (by simp), SB.tg _ (by simp), fun b2 HB hb2 frB tB1 tB2 => ?_⟩
    obtain rfl : b2 = true := hb2.mpr w2
    have SB' := SB.trans ⟨frB, all2N tB1 tB2⟩
    have kbB : KB HB HB [] := .self (fun x hx => absurd hx List.not_mem_nil)
    refine ⟨ Nat.zero_le _, fun a7 na7 => ?_⟩
    have kb7 := kbB.newT (us := []) na7 (by show 0 ≤ 1000; decide) (by simp [flatO])
    have ea7 := upd_same (H := HB) (a := a7) (o := HO.tup [])
    have s7 := same_new (o := HO.tup []) na7
    generalize upd HB a7 _ = H7 at kb7 ea7 s7 ⊢
    have SC := SB'.same kb7.same
    refine ⟨_, rfl, kb7.kn (.ref a7) (by simp) 4, SC.tg _ (by simp), SC.tg _ (by simp), fun b3 HC hb3 frC tC1 tC2 => ?_⟩
    obtain rfl : b3 = false := Bool.eq_false_iff.mpr fun z => by
      obtain ⟨n', ts', ⟨p', q', us', e', h', _⟩, _⟩ := hb3.mp z
      cases e'
      rw [ea7] at h'; cases h'
    have SC' := SC.trans ⟨frC, all2N tC1 tC2⟩
    refine ⟨by show 3 ≤ sizeLine; decide, fun p1 np1 => ⟨by show 3 ≤ sizeLine; decide, fun p2 np2 => ?_⟩⟩
    have sp1 := same_new (o := .lst [.bl true, .bl true, .bl false]) np1
    have sp2 := same_new (o := .lst [.bl true, .bl true, .bl false]) np2
    have e1 := sp2 _ _ (upd_same (H := HC) (a := p1) (o := HO.lst [.bl true, .bl true, .bl false]))
    have e2 := upd_same (H := upd HC p1 (.lst [.bl true, .bl true, .bl false])) (a := p2) (o := HO.lst [.bl true, .bl true, .bl false])
    refine ⟨_, _, rfl, ?_, fun HD sD => ⟨true, rfl, iteF ⟨_, _, _, _, rfl, SC'.same (sp1.trans (sp2.trans sD))⟩⟩⟩
    refine .inr ⟨p1, p2, _, _, rfl, rfl, .inr ⟨e1, e2⟩, rfl, by show 3 ≤ 10000; decide, fun i v u ev eu => ?_⟩
    rw [ev] at eu
    cases eu
    match i, ev with
    | 0, ev => cases ev; exact bl_eqd rfl
    | 1, ev => cases ev; exact bl_eqd rfl
    | 2, ev => cases ev; exact bl_eqd rfl
  · rintro σ H1 ⟨y1, y2, y3, y4, rfl, S1⟩
    exact q _
end
end My

set_option Elab.async false
set_option linter.all false
set_option maxRecDepth 100000
set_option maxHeartbeats 8000000
namespace My
open PySem PySem.Spec PyProof.Rows L2 GxR
/-! ### the head -/
def d_is_number : He.DefD := ⟨("is_number", none), "is_number", "is_number", defArgs s_is_number, defBody s_is_number, defScope s_is_number, [], []⟩
def d_is_pair : He.DefD := ⟨("is_pair", none), "is_pair", "is_pair", defArgs s_is_pair, defBody s_is_pair, defScope s_is_pair, [], []⟩
def d_is_web : He.DefD := ⟨("is_web", none), "is_web", "is_web", defArgs s_is_web, defBody s_is_web, defScope s_is_web, [], []⟩
def d_is_tie : He.DefD := ⟨("is_tie", none), "is_tie", "is_tie", defArgs s_is_tie, defBody s_is_tie, defScope s_is_tie, [], []⟩
def d_is_rising : He.DefD := ⟨("is_rising", none), "is_rising", "is_rising", defArgs s_is_rising, defBody s_is_rising, defScope s_is_rising, [], []⟩
def d__law_mix : He.DefD := ⟨("_law_mix", none), "_law_mix", "_law_mix", defArgs s__law_mix, defBody s__law_mix, defScope s__law_mix, [], []⟩
def d__law_left : He.DefD := ⟨("_law_left", none), "_law_left", "_law_left", defArgs s__law_left, defBody s__law_left, defScope s__law_left, [], []⟩
def d__law_pick : He.DefD := ⟨("_law_pick", none), "_law_pick", "_law_pick", defArgs s__law_pick, defBody s__law_pick, defScope s__law_pick, [], []⟩
def d__law_pairs : He.DefD := ⟨("_law_pairs", none), "_law_pairs", "_law_pairs", defArgs s__law_pairs, defBody s__law_pairs, defScope s__law_pairs, [], []⟩
def d__law_any_web : He.DefD := ⟨("_law_any_web", none), "_law_any_web", "_law_any_web", defArgs s__law_any_web, defBody s__law_any_web, defScope s__law_any_web, [], []⟩
def d__law_row : He.DefD := ⟨("_law_row", none), "_law_row", "_law_row", defArgs s__law_row, defBody s__law_row, defScope s__law_row, [], []⟩
def d__law_row_web : He.DefD := ⟨("_law_row_web", none), "_law_row_web", "_law_row_web", defArgs s__law_row_web, defBody s__law_row_web, defScope s__law_row_web, [], []⟩
def d__law_ring_web : He.DefD := ⟨("_law_ring_web", none), "_law_ring_web", "_law_ring_web", defArgs s__law_ring_web, defBody s__law_ring_web, defScope s__law_ring_web, [], []⟩
def d__law_put_together : He.DefD := ⟨("_law_put_together", none), "_law_put_together", "_law_put_together", defArgs s__law_put_together, defBody s__law_put_together, defScope s__law_put_together, [], []⟩
def d__law_web : He.DefD := ⟨("_law_web", none), "_law_web", "_law_web", defArgs s__law_web, defBody s__law_web, defScope s__law_web, [], []⟩
def d__law_same : He.DefD := ⟨("_law_same", none), "_law_same", "_law_same", defArgs s__law_same, defBody s__law_same, defScope s__law_same, [], []⟩
def d__law_odd : He.DefD := ⟨("_law_odd", none), "_law_odd", "_law_odd", defArgs s__law_odd, defBody s__law_odd, defScope s__law_odd, [], []⟩
def d__law_is_number : He.DefD := ⟨("_law_is_number", none), "_law_is_number", "_law_is_number", defArgs s__law_is_number, defBody s__law_is_number, defScope s__law_is_number, [], []⟩
def d__law_is_web : He.DefD := ⟨("_law_is_web", none), "_law_is_web", "_law_is_web", defArgs s__law_is_web, defBody s__law_is_web, defScope s__law_is_web, [], []⟩
def d__law_bent : He.DefD := ⟨("_law_bent", none), "_law_bent", "_law_bent", defArgs s__law_bent, defBody s__law_bent, defScope s__law_bent, [], []⟩
def d_law : He.DefD := ⟨("law", none), "law", "law", defArgs s_law, defBody s_law, defScope s_law, [], []⟩
def fns : List He.DefD := [d_is_number, d_is_pair, d_is_web, d_is_tie, d_is_rising, d__law_mix, d__law_left, d__law_pick, d__law_pairs, d__law_any_web, d__law_row, d__law_row_web, d__law_ring_web, d__law_put_together, d__law_web, d__law_same, d__law_odd, d__law_is_number, d__law_is_web, d__law_bent, d_law]
def fas : List He.Fa := [.glo "is_number", .glo "is_pair", .glo "is_web", .glo "is_tie", .glo "is_rising", .glo "_law_mix", .glo "_law_left", .glo "_law_pick", .glo "_law_pairs", .glo "_law_any_web", .glo "_law_row", .glo "_law_row_web", .glo "_law_ring_web", .glo "_law_put_together", .glo "_law_web", .glo "_law_same", .glo "_law_odd", .glo "_law_is_number", .glo "_law_is_web", .glo "_law_bent", .glo "law", .free "len", .free "range", .free "tuple", .free "list", .free "int", .free "abs", .free "min", .free "sorted", .free "set", .free "all", .free "any", .free "enumerate", .free "zip", .free "isinstance", .free "bool", .free "str", .free "dict", .free "max", .free "reversed", .free "sum"]
def tfs : List He.Defn := [("is_web", none), ("is_rising", none)]
abbrev Rw : PySem.W.OpenRow := PySem.W.OpenLaw.row PySem.Challenge.rw_pointedties_k01_what_webs_are
def exf (K : PySem.W.Frag) : Bool := decide ((He.cT K ("is_web", none)).2 ≠ (He.cT K ("is_rising", none)).2)
abbrev hk : PySem.W.Hook := He.hookX 4 fas fns [] tfs exf
def ob (s : PySem.W.SharedT) : He.AlX := He.obsX 4 fas fns [] tfs exf (HandSHeadRun.getT s)
theorem ob_eq (s : PySem.W.SharedT) : ob s = hk.obs s.abs := He.obsX_eq (HandSHeadRun.getT_eq s)
abbrev others : List Str := [("is_number" : Str), ("is_pair" : Str), ("is_web" : Str), ("is_tie" : Str), ("is_rising" : Str), ("_law_mix" : Str), ("_law_left" : Str), ("_law_pick" : Str), ("_law_pairs" : Str), ("_law_any_web" : Str), ("_law_row" : Str), ("_law_row_web" : Str), ("_law_ring_web" : Str), ("_law_put_together" : Str), ("_law_web" : Str), ("_law_same" : Str), ("_law_odd" : Str), ("_law_is_number" : Str), ("_law_is_web" : Str), ("_law_bent" : Str)]
theorem run (w : World) : HandSHeadRun.RunEq Rw (PySem.W.view Rw.prog [23]) hk ob 4000 others w := by
  intro os; kernel_rfl

theorem code_of {K : PySem.W.Frag} {x q : Str} {st : Stmt} {p : He.Defn} {fd : FuncData} (F : Fun K x q st (He.fAd K p) fd) : fd.code = .ref (He.codeOf K p) := by
  obtain ⟨oc, od, kV, doc, pm, an, cdv, ct, osl, rfl, lk, hcd⟩ := F.ex
  cases cdv with
  | ref c => rw [He.codeOf_eq lk rfl]
  | _ => cases hcd
theorem law_ok {P : Program} {w : World} {K : PySem.W.Frag} {h : Heap} {mg : Str → Option Value} {f : Addr} (X : K.In h) (G : h.Ns mainGlobals mg) (hfa : mg ("law" : Str) = some (.ref f)) (c : He.SaysX fas fns [] tfs exf w h K) :
    ∃ fd : FuncData, (∀ (s : Shared) (v : Value), BindsTo s fd ⟨[v], []⟩ [("_law_script", v)]) ∧ ∀ base : Heap, K.In base → base.Ns mainGlobals mg → (∀ p ∈ tfs.map (He.cT K), LamX.TabB base mg p.1 p.2) →
      TopRun P w K mg base f fd "_law_script" (sp_law K (He.cT K ("is_web", none)).2 (He.cT K ("is_rising", none)).2) := by
    have cd := c.t.d
    obtain ⟨fd_is_number, F_is_number⟩ := cd.def_ 0 (d := d_is_number) rfl
    have b_is_number : Binds K fd_is_number ["thing"] [] := F_is_number.bindsN fun _ _ _ _ _ _ us hl => match us, hl with | [_], _ => rfl
    have g_is_number : mg "is_number" = some (.ref (He.ga K "is_number")) := He.glo_ok X G (cd.fact 0 (f := .glo "is_number") rfl)
    have U_is_number : Fun K "is_number" "is_number" s_is_number (He.ga K "is_number") fd_is_number := fun_of F_is_number
    obtain ⟨fd_is_pair, F_is_pair⟩ := cd.def_ 1 (d := d_is_pair) rfl
    have b_is_pair : Binds K fd_is_pair ["thing"] [] := F_is_pair.bindsN fun _ _ _ _ _ _ us hl => match us, hl with | [_], _ => rfl
    have g_is_pair : mg "is_pair" = some (.ref (He.ga K "is_pair")) := He.glo_ok X G (cd.fact 1 (f := .glo "is_pair") rfl)
    have U_is_pair : Fun K "is_pair" "is_pair" s_is_pair (He.ga K "is_pair") fd_is_pair := fun_of F_is_pair
    obtain ⟨fd_is_web, F_is_web⟩ := cd.def_ 2 (d := d_is_web) rfl
    have b_is_web : Binds K fd_is_web ["thing"] [] := F_is_web.bindsN fun _ _ _ _ _ _ us hl => match us, hl with | [_], _ => rfl
    have g_is_web : mg "is_web" = some (.ref (He.ga K "is_web")) := He.glo_ok X G (cd.fact 2 (f := .glo "is_web") rfl)
    have U_is_web : Fun K "is_web" "is_web" s_is_web (He.ga K "is_web") fd_is_web := fun_of F_is_web
    obtain ⟨fd_is_tie, F_is_tie⟩ := cd.def_ 3 (d := d_is_tie) rfl
    have b_is_tie : Binds K fd_is_tie ["many", "thing"] [] := F_is_tie.bindsN fun _ _ _ _ _ _ us hl => match us, hl with | [_, _], _ => rfl
    have g_is_tie : mg "is_tie" = some (.ref (He.ga K "is_tie")) := He.glo_ok X G (cd.fact 3 (f := .glo "is_tie") rfl)
    have U_is_tie : Fun K "is_tie" "is_tie" s_is_tie (He.ga K "is_tie") fd_is_tie := fun_of F_is_tie
    obtain ⟨fd_is_rising, F_is_rising⟩ := cd.def_ 4 (d := d_is_rising) rfl
    have b_is_rising : Binds K fd_is_rising ["row"] [] := F_is_rising.bindsN fun _ _ _ _ _ _ us hl => match us, hl with | [_], _ => rfl
    have g_is_rising : mg "is_rising" = some (.ref (He.ga K "is_rising")) := He.glo_ok X G (cd.fact 4 (f := .glo "is_rising") rfl)
    have U_is_rising : Fun K "is_rising" "is_rising" s_is_rising (He.ga K "is_rising") fd_is_rising := fun_of F_is_rising
    obtain ⟨fd__law_mix, F__law_mix⟩ := cd.def_ 5 (d := d__law_mix) rfl
    have b__law_mix : Binds K fd__law_mix ["_law_cell", "_law_k"] [] := F__law_mix.bindsN fun _ _ _ _ _ _ us hl => match us, hl with | [_, _], _ => rfl
    have g__law_mix : mg "_law_mix" = some (.ref (He.ga K "_law_mix")) := He.glo_ok X G (cd.fact 5 (f := .glo "_law_mix") rfl)
    have U__law_mix : Fun K "_law_mix" "_law_mix" s__law_mix (He.ga K "_law_mix") fd__law_mix := fun_of F__law_mix
    obtain ⟨fd__law_left, F__law_left⟩ := cd.def_ 6 (d := d__law_left) rfl
    have b__law_left : Binds K fd__law_left ["_law_script", "_law_k"] [] := F__law_left.bindsN fun _ _ _ _ _ _ us hl => match us, hl with | [_, _], _ => rfl
    have g__law_left : mg "_law_left" = some (.ref (He.ga K "_law_left")) := He.glo_ok X G (cd.fact 6 (f := .glo "_law_left") rfl)
    have U__law_left : Fun K "_law_left" "_law_left" s__law_left (He.ga K "_law_left") fd__law_left := fun_of F__law_left
    obtain ⟨fd__law_pick, F__law_pick⟩ := cd.def_ 7 (d := d__law_pick) rfl
    have b__law_pick : Binds K fd__law_pick ["_law_left_here", "_law_many"] [] := F__law_pick.bindsN fun _ _ _ _ _ _ us hl => match us, hl with | [_, _], _ => rfl
    have g__law_pick : mg "_law_pick" = some (.ref (He.ga K "_law_pick")) := He.glo_ok X G (cd.fact 7 (f := .glo "_law_pick") rfl)
    have U__law_pick : Fun K "_law_pick" "_law_pick" s__law_pick (He.ga K "_law_pick") fd__law_pick := fun_of F__law_pick
    obtain ⟨fd__law_pairs, F__law_pairs⟩ := cd.def_ 8 (d := d__law_pairs) rfl
    have b__law_pairs : Binds K fd__law_pairs ["_law_many"] [] := F__law_pairs.bindsN fun _ _ _ _ _ _ us hl => match us, hl with | [_], _ => rfl
    have g__law_pairs : mg "_law_pairs" = some (.ref (He.ga K "_law_pairs")) := He.glo_ok X G (cd.fact 8 (f := .glo "_law_pairs") rfl)
    have U__law_pairs : Fun K "_law_pairs" "_law_pairs" s__law_pairs (He.ga K "_law_pairs") fd__law_pairs := fun_of F__law_pairs
    obtain ⟨fd__law_any_web, F__law_any_web⟩ := cd.def_ 9 (d := d__law_any_web) rfl
    have b__law_any_web : Binds K fd__law_any_web ["_law_left_here", "_law_many"] [] := F__law_any_web.bindsN fun _ _ _ _ _ _ us hl => match us, hl with | [_, _], _ => rfl
    have g__law_any_web : mg "_law_any_web" = some (.ref (He.ga K "_law_any_web")) := He.glo_ok X G (cd.fact 9 (f := .glo "_law_any_web") rfl)
    have U__law_any_web : Fun K "_law_any_web" "_law_any_web" s__law_any_web (He.ga K "_law_any_web") fd__law_any_web := fun_of F__law_any_web
    obtain ⟨fd__law_row, F__law_row⟩ := cd.def_ 10 (d := d__law_row) rfl
    have b__law_row : Binds K fd__law_row ["_law_left_here", "_law_many"] [] := F__law_row.bindsN fun _ _ _ _ _ _ us hl => match us, hl with | [_, _], _ => rfl
    have g__law_row : mg "_law_row" = some (.ref (He.ga K "_law_row")) := He.glo_ok X G (cd.fact 10 (f := .glo "_law_row") rfl)
    have U__law_row : Fun K "_law_row" "_law_row" s__law_row (He.ga K "_law_row") fd__law_row := fun_of F__law_row
    obtain ⟨fd__law_row_web, F__law_row_web⟩ := cd.def_ 11 (d := d__law_row_web) rfl
    have b__law_row_web : Binds K fd__law_row_web ["_law_left_here", "_law_many"] [] := F__law_row_web.bindsN fun _ _ _ _ _ _ us hl => match us, hl with | [_, _], _ => rfl
    have g__law_row_web : mg "_law_row_web" = some (.ref (He.ga K "_law_row_web")) := He.glo_ok X G (cd.fact 11 (f := .glo "_law_row_web") rfl)
    have U__law_row_web : Fun K "_law_row_web" "_law_row_web" s__law_row_web (He.ga K "_law_row_web") fd__law_row_web := fun_of F__law_row_web
    obtain ⟨fd__law_ring_web, F__law_ring_web⟩ := cd.def_ 12 (d := d__law_ring_web) rfl
    have b__law_ring_web : Binds K fd__law_ring_web ["_law_left_here", "_law_many"] [] := F__law_ring_web.bindsN fun _ _ _ _ _ _ us hl => match us, hl with | [_, _], _ => rfl
    have g__law_ring_web : mg "_law_ring_web" = some (.ref (He.ga K "_law_ring_web")) := He.glo_ok X G (cd.fact 12 (f := .glo "_law_ring_web") rfl)
    have U__law_ring_web : Fun K "_law_ring_web" "_law_ring_web" s__law_ring_web (He.ga K "_law_ring_web") fd__law_ring_web := fun_of F__law_ring_web
    obtain ⟨fd__law_put_together, F__law_put_together⟩ := cd.def_ 13 (d := d__law_put_together) rfl
    have b__law_put_together : Binds K fd__law_put_together ["_law_left_here", "_law_many"] [] := F__law_put_together.bindsN fun _ _ _ _ _ _ us hl => match us, hl with | [_, _], _ => rfl
    have g__law_put_together : mg "_law_put_together" = some (.ref (He.ga K "_law_put_together")) := He.glo_ok X G (cd.fact 13 (f := .glo "_law_put_together") rfl)
    have U__law_put_together : Fun K "_law_put_together" "_law_put_together" s__law_put_together (He.ga K "_law_put_together") fd__law_put_together := fun_of F__law_put_together
    obtain ⟨fd__law_web, F__law_web⟩ := cd.def_ 14 (d := d__law_web) rfl
    have b__law_web : Binds K fd__law_web ["_law_left_here", "_law_most"] [] := F__law_web.bindsN fun _ _ _ _ _ _ us hl => match us, hl with | [_, _], _ => rfl
    have g__law_web : mg "_law_web" = some (.ref (He.ga K "_law_web")) := He.glo_ok X G (cd.fact 14 (f := .glo "_law_web") rfl)
    have U__law_web : Fun K "_law_web" "_law_web" s__law_web (He.ga K "_law_web") fd__law_web := fun_of F__law_web
    obtain ⟨fd__law_same, F__law_same⟩ := cd.def_ 15 (d := d__law_same) rfl
    have b__law_same : Binds K fd__law_same ["_law_found", "_law_due"] [] := F__law_same.bindsN fun _ _ _ _ _ _ us hl => match us, hl with | [_, _], _ => rfl
    have g__law_same : mg "_law_same" = some (.ref (He.ga K "_law_same")) := He.glo_ok X G (cd.fact 15 (f := .glo "_law_same") rfl)
    have U__law_same : Fun K "_law_same" "_law_same" s__law_same (He.ga K "_law_same") fd__law_same := fun_of F__law_same
    obtain ⟨fd__law_odd, F__law_odd⟩ := cd.def_ 16 (d := d__law_odd) rfl
    have b__law_odd : Binds K fd__law_odd ["_law_left_here", "_law_deep"] [] := F__law_odd.bindsN fun _ _ _ _ _ _ us hl => match us, hl with | [_, _], _ => rfl
    have g__law_odd : mg "_law_odd" = some (.ref (He.ga K "_law_odd")) := He.glo_ok X G (cd.fact 16 (f := .glo "_law_odd") rfl)
    have U__law_odd : Fun K "_law_odd" "_law_odd" s__law_odd (He.ga K "_law_odd") fd__law_odd := fun_of F__law_odd
    obtain ⟨fd__law_is_number, F__law_is_number⟩ := cd.def_ 17 (d := d__law_is_number) rfl
    have b__law_is_number : Binds K fd__law_is_number ["_law_thing"] [] := F__law_is_number.bindsN fun _ _ _ _ _ _ us hl => match us, hl with | [_], _ => rfl
    have g__law_is_number : mg "_law_is_number" = some (.ref (He.ga K "_law_is_number")) := He.glo_ok X G (cd.fact 17 (f := .glo "_law_is_number") rfl)
    have U__law_is_number : Fun K "_law_is_number" "_law_is_number" s__law_is_number (He.ga K "_law_is_number") fd__law_is_number := fun_of F__law_is_number
    obtain ⟨fd__law_is_web, F__law_is_web⟩ := cd.def_ 18 (d := d__law_is_web) rfl
    have b__law_is_web : Binds K fd__law_is_web ["_law_thing"] [] := F__law_is_web.bindsN fun _ _ _ _ _ _ us hl => match us, hl with | [_], _ => rfl
    have g__law_is_web : mg "_law_is_web" = some (.ref (He.ga K "_law_is_web")) := He.glo_ok X G (cd.fact 18 (f := .glo "_law_is_web") rfl)
    have U__law_is_web : Fun K "_law_is_web" "_law_is_web" s__law_is_web (He.ga K "_law_is_web") fd__law_is_web := fun_of F__law_is_web
    obtain ⟨fd__law_bent, F__law_bent⟩ := cd.def_ 19 (d := d__law_bent) rfl
    have b__law_bent : Binds K fd__law_bent ["_law_left_here", "_law_web_here"] [] := F__law_bent.bindsN fun _ _ _ _ _ _ us hl => match us, hl with | [_, _], _ => rfl
    have g__law_bent : mg "_law_bent" = some (.ref (He.ga K "_law_bent")) := He.glo_ok X G (cd.fact 19 (f := .glo "_law_bent") rfl)
    have U__law_bent : Fun K "_law_bent" "_law_bent" s__law_bent (He.ga K "_law_bent") fd__law_bent := fun_of F__law_bent
    obtain ⟨fd_law, F_law⟩ := cd.def_ 20 (d := d_law) rfl
    have b_law : Binds K fd_law ["_law_script"] [] := F_law.bindsN fun _ _ _ _ _ _ us hl => match us, hl with | [_], _ => rfl
    have g_law : mg "law" = some (.ref (He.ga K "law")) := He.glo_ok X G (cd.fact 20 (f := .glo "law") rfl)
    have bA_law := FunD.bindsA (ps := ["_law_script"]) F_law fun _ _ _ _ _ _ us hl => match us, hl with | [_], _ => rfl
    have U_law : Fun K "law" "law" s_law (He.ga K "law") fd_law := fun_of F_law
    have B : Bts mg := ⟨He.free_ok X G (cd.fact 21 (f := .free "len") rfl), He.free_ok X G (cd.fact 22 (f := .free "range") rfl), He.free_ok X G (cd.fact 23 (f := .free "tuple") rfl), He.free_ok X G (cd.fact 24 (f := .free "list") rfl), He.free_ok X G (cd.fact 25 (f := .free "int") rfl), He.free_ok X G (cd.fact 26 (f := .free "abs") rfl), He.free_ok X G (cd.fact 27 (f := .free "min") rfl), He.free_ok X G (cd.fact 28 (f := .free "sorted") rfl), He.free_ok X G (cd.fact 29 (f := .free "set") rfl), He.free_ok X G (cd.fact 30 (f := .free "all") rfl), He.free_ok X G (cd.fact 31 (f := .free "any") rfl), He.free_ok X G (cd.fact 32 (f := .free "enumerate") rfl), He.free_ok X G (cd.fact 33 (f := .free "zip") rfl), He.free_ok X G (cd.fact 34 (f := .free "isinstance") rfl), He.free_ok X G (cd.fact 35 (f := .free "bool") rfl), He.free_ok X G (cd.fact 36 (f := .free "str") rfl), He.free_ok X G (cd.fact 37 (f := .free "dict") rfl), He.free_ok X G (cd.fact 38 (f := .free "max") rfl), He.free_ok X G (cd.fact 39 (f := .free "reversed") rfl), He.free_ok X G (cd.fact 40 (f := .free "sum") rfl)⟩

    have e := hfa.symm.trans g_law
    cases e
    refine ⟨fd_law, fun s v => bA_law s [v] rfl, fun base _ _ hT => ?_⟩
    have T_is_web : GxR.TabB base mg (He.cT K ("is_web", none)).1 (He.cT K ("is_web", none)).2 := (fun t => ⟨t.code, t.bm, t.gP⟩) (hT _ (List.mem_map.mpr ⟨("is_web", none), by simp [tfs], rfl⟩))
    have h_is_web : fd_is_web.code = .ref (He.cT K ("is_web", none)).1 := code_of U_is_web
    have T_is_rising : GxR.TabB base mg (He.cT K ("is_rising", none)).1 (He.cT K ("is_rising", none)).2 := (fun t => ⟨t.code, t.bm, t.gP⟩) (hT _ (List.mem_map.mpr ⟨("is_rising", none), by simp [tfs], rfl⟩))
    have h_is_rising : fd_is_rising.code = .ref (He.cT K ("is_rising", none)).1 := code_of U_is_rising
    have k_same : Cl P w K mg base 5 "_law_same" (sp_same 5) := Cl.mk' U__law_same g__law_same b__law_same (ok_same B U__law_same g__law_same b__law_same 5)
    have k_mix : Cl P w K mg base 1 "_law_mix" sp_mix := Cl.mk' U__law_mix g__law_mix b__law_mix (ok_mix U__law_mix)
    have k_left : Cl P w K mg base 1 "_law_left" (sp_left K) := Cl.mk' U__law_left g__law_left b__law_left (ok_left B U__law_left)
    have k_pick : Cl P w K mg base 2 "_law_pick" sp_pick := Cl.mk' U__law_pick g__law_pick b__law_pick (ok_pick U__law_pick k_mix)
    have k_pairs : Cl P w K mg base 1 "_law_pairs" sp_pairs := Cl.mk' U__law_pairs g__law_pairs b__law_pairs (ok_pairs B U__law_pairs)
    have k_row : Cl P w K mg base 3 "_law_row" sp_row := Cl.mk' U__law_row g__law_row b__law_row (ok_row B U__law_row k_pick)
    have k_any : Cl P w K mg base 3 "_law_any_web" sp_gen := Cl.mk' U__law_any_web g__law_any_web b__law_any_web (ok_any_web B U__law_any_web k_pick k_pairs)
    have k_rw : Cl P w K mg base 4 "_law_row_web" sp_gen := Cl.mk' U__law_row_web g__law_row_web b__law_row_web (ok_row_web B U__law_row_web k_pick k_row)
    have k_ring : Cl P w K mg base 4 "_law_ring_web" sp_gen := Cl.mk' U__law_ring_web g__law_ring_web b__law_ring_web (ok_ring_web B U__law_ring_web k_pick k_row k_pairs)
    have k_put : Cl P w K mg base 4 "_law_put_together" sp_gen := Cl.mk' U__law_put_together g__law_put_together b__law_put_together (ok_put_together B U__law_put_together k_pick k_row)
    have k_web : Cl P w K mg base 5 "_law_web" sp_web := Cl.mk' U__law_web g__law_web b__law_web (ok_web B U__law_web k_pick k_any k_rw k_put k_ring)
    have k_num : Cl P w K mg base 1 "is_number" sp_numO := Cl.mk' U_is_number g_is_number b_is_number (ok_numO B U_is_number)
    have k_pair : Cl P w K mg base 2 "is_pair" sp_pairO := Cl.mk' U_is_pair g_is_pair b_is_pair (ok_pairO B U_is_pair k_num)
    have k_tieo : Cl P w K mg base 3 "is_tie" sp_tieO := Cl.mk' U_is_tie g_is_tie b_is_tie (ok_tieO B U_is_tie k_pair)
    have k_riso : Cl P w K mg base 2 "is_rising" (sp_risO (He.cT K ("is_rising", none)).2) := Cl.mk' U_is_rising g_is_rising b_is_rising (ok_risO B U_is_rising h_is_rising T_is_rising)
    have k_webo : Cl P w K mg base 5 "is_web" (sp_webO (He.cT K ("is_web", none)).2 (He.cT K ("is_rising", none)).2) := Cl.mk' U_is_web g_is_web b_is_web (ok_webO B U_is_web h_is_web T_is_web (of_decide_eq_true c.more) k_num k_tieo k_riso)
    have k_odd : Cl P w K mg base 19 "_law_odd" (sp_odd 17) := Cl.mk' U__law_odd g__law_odd b__law_odd (ok_odd B U__law_odd k_pick g__law_odd b__law_odd 17)
    have k_lnum : Cl P w K mg base 1 "_law_is_number" sp_lnumO := Cl.mk' U__law_is_number g__law_is_number b__law_is_number (ok_lnumO B U__law_is_number)
    have k_lwebo : Cl P w K mg base 2 "_law_is_web" sp_lwebO := Cl.mk' U__law_is_web g__law_is_web b__law_is_web (ok_lwebO B U__law_is_web k_lnum)
    have k_bent : Cl P w K mg base 20 "_law_bent" sp_bent01 := Cl.mk' U__law_bent g__law_bent b__law_bent (ok_bent01 B U__law_bent k_odd)
    exact ok_law B U_law k_left k_web k_webo k_bent k_lwebo k_same

end My
open PySem PySem.W PySem.Calls PyProof.Rows
set_option maxHeartbeats 0 in
theorem PySem.Challenge.cw_pointedties_k01_what_webs_are_holds : PySem.Challenge.rw_pointedties_k01_what_webs_are.Holds := by
  w_on; o_law
  refine HandSHeadRun.head_any (r := My.Rw) (q := view My.Rw.prog [23]) (H := My.hk) (ob := My.ob) (M := 4000) (loose := My.others) (d := HandSHeadRun.topDef My.Rw.prog 23) (kwd := []) My.ob_eq
    (by kernel_rfl) (fun s => by kernel_rfl) My.run (by kernel_rfl) (by kernel_rfl) (by kernel_rfl) (by rfl) (by first | assumption | decide +kernel) (by decide +kernel) ⟨rfl, rfl, rfl, rfl, rfl, by decide +kernel⟩ ?hw ?hc
  case hw => w_witness2
  case hc =>
    refine My.walk_top (l := PySem.Challenge.rw_pointedties_k01_what_webs_are) (n := 63) (y := "_law_script") rfl (by decide) (by kernel_rfl) ?F
    intro w mg fa h Y G hmg0
    obtain ⟨K, KX, c⟩ := Y
    have hmg : mg ("law" : PySem.Str) = some (.ref fa) := by
      have e : (HandSHeadRun.topDef My.Rw.prog 23).name = ("law" : PySem.Str) := by kernel_rfl
      rw [← e]; exact hmg0
    obtain ⟨fd, hb, hF⟩ := My.law_ok (P := (PySem.Challenge.rw_pointedties_k01_what_webs_are).prog) (w := w) KX G hmg c
    have inT : ∀ p ∈ My.tfs.map (He.cT K), ∃ q ∈ My.tfs, p = He.cT K q := fun p hp => by
      obtain ⟨q, hq, e⟩ := List.mem_map.mp hp
      exact ⟨q, hq, e.symm⟩
    refine ⟨K, KX, fd, My.tfs.map (He.cT K), _, fun p hp => ?_, fun p hp => ?_, fun p hp => ?_, hb, fun H a ns hl _ hT hS => ?_, hF⟩
    · obtain ⟨q, hq, rfl⟩ := inT p hp; exact c.empty q hq
    · obtain ⟨q, hq, rfl⟩ := inT p hp; exact c.out q hq
    · obtain ⟨q, hq, rfl⟩ := inT p hp; exact PySem.W.codeHd_of_K KX (c.hd q hq)
    · exact ⟨a, ns, rfl, hS, hl, ⟨_, hT _ (List.mem_map.mpr ⟨_, by simp [My.tfs], rfl⟩), True.intro⟩, ⟨_, hT _ (List.mem_map.mpr ⟨_, by simp [My.tfs], rfl⟩), True.intro⟩, fun _ => rfl⟩
