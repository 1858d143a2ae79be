import PyProof.Rows.All
import Wide.All
import OpenK.AllK
import Wide.FinOn
import HandS.ForMost
import HandS.More
import HandS.SortRule
import HandS.SortInts
import HandS.TupSets
import HandS.Deep
import HandS.IsInst
import HandS.DictComp
import HandS.Style
import HandS.Flow
import HandS.TupAny
import HandS.Walk
import HandS.AnyAll
import HandS.GenOver
import PyProof.GenQ
import PyProof.GenComp
import PyProof.ConsumeS
import HandS.Zip
import HandS.Defaults
import PySem.Challenge.RW_pointedties_k05_webs_put_for_places
import HandS.Conv
import KE.KStateDown
import HandS.Head0
import HandS.Head1
import HandS.Head2
import HandS.HeadEnd
import HandS.HeadHook1
import HandS.HeadHook2
import HandS.HeadHook3
import HandS.HeadHook4
import HandS.HeadWalk
set_option Elab.async false
set_option linter.all false
set_option maxRecDepth 100000
namespace My
open PySem PySem.Spec PyProof.Rows L2

/-! ### a def that may be called by its name -/
structure Cl (P : Program) (w : World) (K : PySem.W.Frag) (mg : Str → Option Value) (base : Heap)
    (k : Nat) (x : Str) (sp : Sp) : Prop where
  ex : ∃ (f : Addr) (fd : FuncData) (ps : List Str), FnOk P w K mg base CX0 k f fd ps sp ∧
    mg x = some (.ref f) ∧ PySem.W.keepIn K (.ref f) = true ∧ Binds K fd ps []
theorem Cl.mk' {P : Program} {w : World} {K : PySem.W.Frag} {mg : Str → Option Value} {base : Heap} {k : Nat} {x : Str} {sp : Sp}
    {st : Stmt} {f : Addr} {fd : FuncData} {ps : List Str} (F : Fun K x x st f fd) (hm : mg x = some (.ref f))
    (hb : Binds K fd ps []) (ok : FnOk P w K mg base CX0 k f fd ps sp) : Cl P w K mg base k x sp := ⟨f, fd, ps, ok, hm, F.kp, hb⟩
theorem pe_c {X : Cx} {k j : Nat} {x : Str} {sp : Sp} {p pos : Pos} {e : Expr} {es : List Expr} {t : TA}
    (c : Cl X.prog X.w X.K X.mg X.base k x sp) (hr : Room j X.A) (hk : k ≤ j) (hg : Gl X x) (ha : PA X (e :: es) t)
    (h1 : (x == ("__debug__" : Str)) = false := by decide)
    (h2 : starEach (e :: es) X.env = (false, eval e X.env) :: starEach es X.env := by rfl)
    (h3 : (backTo pos (starEach es X.env)).any (·.1) = false := by rfl) :
    PE X (.Call (.Name x p) (e :: es) [] pos) (tCall sp [] E0 t) := by
  obtain ⟨f, fd, ps, F, hm, kp, b⟩ := c.ex
  exact pe_call F (hr.mono hk) hg hm kp b .nil pass0 ha h1 h2 h3

/-! ### heaps: all stays but the list of draws at L -/
def Fr (L : Addr) (H H' : Hp) : Prop := ∀ b o, b ≠ L → H b = some o → H' b = some o
theorem Fr.refl (L : Addr) (H : Hp) : Fr L H H := fun _ _ _ h => h
theorem Fr.trans {L : Addr} {H H1 H2 : Hp} (a : Fr L H H1) (b : Fr L H1 H2) : Fr L H H2 :=
  fun c o n h => b c o n (a c o n h)
theorem Fr.of {L : Addr} {H H' : Hp} (a : Same H H') : Fr L H H' := fun b o _ h => a b o h
theorem same_new {H : Hp} {p : Addr} {o : HO} (h : H p = none) : Same H (upd H p o) := fun b x e => by
  rw [upd_ne (ne_of_none e h)]; exact e
theorem Fr.new {L : Addr} {H : Hp} {p : Addr} {o : HO} (h : H p = none) : Fr L H (upd H p o) := Fr.of (same_new h)
/-- what is new to the first heap may change -/
theorem Fr.put {L : Addr} {H H' : Hp} {p : Addr} {o : HO} (a : Fr L H H') (h : H p = none) : Fr L H (upd H' p o) :=
  fun b x n e => by rw [upd_ne (ne_of_none e h)]; exact a b x n e
theorem Same.put {H H' : Hp} {p : Addr} {o : HO} (a : Same H H') (h : H p = none) : Same H (upd H' p o) :=
  fun b x e => by rw [upd_ne (ne_of_none e h)]; exact a b x e
theorem Fr.putL {L : Addr} {H H' : Hp} {o : HO} (a : Fr L H H') : Fr L H (upd H' L o) :=
  fun b x n e => by rw [upd_ne n]; exact a b x n e

/-! ### the list of draws -/
def Lf (H : Hp) (L : Addr) (c : Int) : Prop :=
  ∃ x y z : Int, H L = some (.lst [.int x, .int y, .int z]) ∧ 0 ≤ x ∧ 0 ≤ z ∧ z ≤ c
theorem Lf.mono {H : Hp} {L : Addr} {c d : Int} (h : Lf H L c) (e : c ≤ d) : Lf H L d := by
  obtain ⟨x, y, z, h1, h2, h3, h4⟩ := h
  exact ⟨x, y, z, h1, h2, h3, Int.le_trans h4 e⟩
theorem Lf.same {H H' : Hp} {L : Addr} {c : Int} (h : Lf H L c) (e : Same H H') : Lf H' L c := by
  obtain ⟨x, y, z, h1, h2⟩ := h
  exact ⟨x, y, z, e _ _ h1, h2⟩
theorem Lf.new {H : Hp} {L p : Addr} {c : Int} {o : HO} (h : Lf H L c) (e : H p = none) : Lf (upd H p o) L c := h.same (same_new e)
theorem Lf.ne {H : Hp} {L p : Addr} {c : Int} (h : Lf H L c) (e : H p = none) : p ≠ L := by
  obtain ⟨x, y, z, h1, h2⟩ := h
  rintro rfl; rw [h1] at e; cases e
theorem Lf.put {H : Hp} {L p : Addr} {c : Int} {o : HO} (h : Lf H L c) (e : p ≠ L) : Lf (upd H p o) L c := by
  obtain ⟨x, y, z, h1, h2⟩ := h
  exact ⟨x, y, z, by rw [upd_ne (Ne.symm e)]; exact h1, h2⟩
theorem Lf.free {H H' : Hp} {L p : Addr} {c' : Int} (a : Fr L H H') (h' : Lf H' L c') (e : H' p = none) : H p = none := by
  have n := h'.ne e
  cases q : H p with
  | none => rfl
  | some o => rw [a p o n q] at e; cases e
theorem Lf.tup {H H' : Hp} {L p : Addr} {c : Int} {xs : List V} (a : Fr L H H') (h : Lf H L c) (e : H p = some (.tup xs)) : H' p = some (.tup xs) := by
  refine a p _ ?_ e
  obtain ⟨x, y, z, h1, h2⟩ := h
  rintro rfl; rw [h1] at e; cases e

/-! ### ties, rows of ties, webs -/
def Tie (H : Hp) (v : V) (t : Int × Int) : Prop := ∃ p, v = .ref p ∧ H p = some (.tup [.int t.1, .int t.2])
def Ties (H : Hp) : List V → List (Int × Int) → Prop
  | [], [] => True
  | v :: vs, t :: ts => Tie H v t ∧ Ties H vs ts
  | _, _ => False
/-- tuples stay -/
def Tst (H H' : Hp) : Prop := ∀ b xs, H b = some (.tup xs) → H' b = some (.tup xs)
theorem Tst.refl (H : Hp) : Tst H H := fun _ _ h => h
theorem Tst.trans {H H1 H2 : Hp} (a : Tst H H1) (b : Tst H1 H2) : Tst H H2 := fun c o h => b c o (a c o h)
theorem Same.tst {H H' : Hp} (a : Same H H') : Tst H H' := fun b xs h => a b _ h
theorem Lf.tst {H H' : Hp} {L : Addr} {c : Int} (h : Lf H L c) (a : Fr L H H') : Tst H H' := fun b xs e => Lf.tup a h e
theorem tst_new {H : Hp} {p : Addr} {o : HO} (h : H p = none) : Tst H (upd H p o) := Same.tst (same_new h)
theorem tst_put {H : Hp} {p : Addr} {o : HO} {xs : List V} (h : H p = some (.lst xs)) : Tst H (upd H p o) := fun b ys e => by
  rw [upd_ne]
  · exact e
  · rintro rfl; rw [h] at e; cases e
theorem Tie.mono {H H' : Hp} {v : V} {t : Int × Int} (a : Tst H H') (h : Tie H v t) : Tie H' v t := by
  obtain ⟨p, e, h⟩ := h
  exact ⟨p, e, a _ _ h⟩
theorem Ties.mono {H H' : Hp} (a : Tst H H') : ∀ {vs : List V} {ts : List (Int × Int)}, Ties H vs ts → Ties H' vs ts
  | [], [], _ => trivial
  | _ :: _, _ :: _, h => ⟨h.1.mono a, Ties.mono a h.2⟩
  | [], _ :: _, h => h.elim
  | _ :: _, [], h => h.elim
theorem Ties.app {H : Hp} : ∀ {vs : List V} {ts : List (Int × Int)} {us : List V} {rs : List (Int × Int)}, Ties H vs ts → Ties H us rs → Ties H (vs ++ us) (ts ++ rs)
  | [], [], _, _, _, k => k
  | _ :: _, _ :: _, _, _, h, k => ⟨h.1, Ties.app h.2 k⟩
  | [], _ :: _, _, _, h, _ => h.elim
  | _ :: _, [], _, _, h, _ => h.elim
theorem Ties.len {H : Hp} : ∀ {vs : List V} {ts : List (Int × Int)}, Ties H vs ts → vs.length = ts.length
  | [], [], _ => rfl
  | _ :: _, _ :: _, h => congrArg (· + 1) (Ties.len h.2)
  | [], _ :: _, h => h.elim
  | _ :: _, [], h => h.elim
theorem Ties.at {H : Hp} : ∀ {vs : List V} {ts : List (Int × Int)} {i : Nat} {v : V}, Ties H vs ts → vs[i]? = some v → ∃ t, ts[i]? = some t ∧ Tie H v t
  | [], [], _, _, _, e => by cases e
  | _ :: _, t :: _, 0, _, h, e => by cases e; exact ⟨t, rfl, h.1⟩
  | _ :: _, _ :: _, i + 1, _, h, e => Ties.at (i := i) h.2 e
  | [], _ :: _, _, _, h, _ => h.elim
  | _ :: _, [], _, _, h, _ => h.elim
theorem Ties.one {H : Hp} {v : V} {t : Int × Int} (h : Tie H v t) : Ties H [v] [t] := ⟨h, trivial⟩
theorem Tie.new {H : Hp} {p : Addr} {a b : Int} : Tie (upd H p (.tup [.int a, .int b])) (.ref p) (a, b) := ⟨p, rfl, upd_same⟩

/-! ### what a web is -/
def ltT (s t : Int × Int) : Prop := s.1 < t.1 ∨ (s.1 = t.1 ∧ s.2 < t.2)
def WOk (n : Nat) (ts : List (Int × Int)) : Prop := ts.Pairwise ltT ∧ ∀ t ∈ ts, 0 ≤ t.1 ∧ t.1 < t.2 ∧ t.2 < (n : Int)
def Web (H : Hp) (v : V) (n : Nat) (ts : List (Int × Int)) : Prop :=
  ∃ p q vs, v = .ref p ∧ H p = some (.tup [.int (n : Int), .ref q]) ∧ H q = some (.tup vs) ∧ Ties H vs ts
theorem Web.mono {H H' : Hp} {v : V} {n : Nat} {ts : List (Int × Int)} (a : Tst H H') (h : Web H v n ts) : Web H' v n ts := by
  obtain ⟨p, q, vs, e, h1, h2, h3⟩ := h
  exact ⟨p, q, vs, e, a _ _ h1, a _ _ h2, h3.mono a⟩

theorem sz {n : Nat} (h : n ≤ 100000) : n ≤ sizeLine := Nat.le_trans h (by decide)
theorem sz' {n : Nat} (h : n < 100000) : n < sizeLine := Nat.lt_of_lt_of_le h (by decide)

theorem bi (b : Bool) : -(2 ^ 64) < (if b = true then (1 : Int) else 0) ∧ (if b = true then (1 : Int) else 0) < 2 ^ 64 ∧ 0 ≤ (if b = true then (1 : Int) else 0) := by
  cases b <;> decide

theorem yes {σ : L2.St} {H : Hp} {R N : Hp → Prop} (h : R H) : tYes σ H (fun b H3 => if b = true then R H3 else N H3) := by
  show (if true = true then R H else N H)
  exact iteT h

/-! ### all pairs, rising -/
def prow (a : Nat) (j : Nat) : List (Int × Int) := (List.range j).map fun (i : Nat) => ((a : Int), (a : Int) + 1 + (i : Int))
def pup (n i : Nat) : List (Int × Int) := (List.range i).flatMap fun a => prow a (n - (a + 1))
theorem prow_succ (a j : Nat) : prow a (j + 1) = prow a j ++ [((a : Int), (a : Int) + 1 + (j : Int))] := by
  unfold prow; rw [List.range_succ, List.map_append]; rfl
theorem pup_succ (n i : Nat) : pup n (i + 1) = pup n i ++ prow i (n - (i + 1)) := by
  unfold pup; rw [List.range_succ, List.flatMap_append, List.flatMap_singleton]
theorem prow_len (a j : Nat) : (prow a j).length = j := by unfold prow; rw [List.length_map, List.length_range]
theorem mem_prow {a j : Nat} {t : Int × Int} : t ∈ prow a j ↔ t.1 = a ∧ (a : Int) < t.2 ∧ t.2 < (a : Int) + 1 + j := by
  unfold prow
  rw [List.mem_map]
  constructor
  · rintro ⟨i, hi, rfl⟩
    have := List.mem_range.mp hi
    refine ⟨rfl, ?_, ?_⟩ <;> dsimp only <;> omega
  · rintro ⟨h1, h2, h3⟩
    refine ⟨(t.2 - a - 1).toNat, List.mem_range.mpr (by omega), ?_⟩
    cases t with
    | mk x y =>
      dsimp only at h1 h2 h3
      rw [h1]
      congr 1
      omega
theorem mem_pup {n i : Nat} {t : Int × Int} (hi : i ≤ n) : t ∈ pup n i ↔ 0 ≤ t.1 ∧ t.1 < i ∧ t.1 < t.2 ∧ t.2 < n := by
  unfold pup
  rw [List.mem_flatMap]
  constructor
  · rintro ⟨a, ha, h⟩
    have := List.mem_range.mp ha
    have := mem_prow.mp h
    omega
  · rintro ⟨h1, h2, h3, h4⟩
    refine ⟨t.1.toNat, List.mem_range.mpr (by omega), mem_prow.mpr ?_⟩
    omega
theorem prow_pw (a : Nat) : ∀ j, (prow a j).Pairwise ltT
  | 0 => by exact List.Pairwise.nil
  | j + 1 => by
    rw [prow_succ, List.pairwise_append]
    refine ⟨prow_pw a j, List.pairwise_singleton _ _, fun s hs t ht => ?_⟩
    have h := mem_prow.mp hs
    have e := List.mem_singleton.mp ht
    subst e
    refine .inr ⟨h.1, ?_⟩
    show s.2 < (a : Int) + 1 + j
    omega
theorem pup_pw (n : Nat) : ∀ i, i ≤ n → (pup n i).Pairwise ltT
  | 0, _ => by exact List.Pairwise.nil
  | i + 1, h => by
    rw [pup_succ, List.pairwise_append]
    refine ⟨pup_pw n i (by omega), prow_pw i _, fun s hs t ht => ?_⟩
    have h1 := (mem_pup (by omega)).mp hs
    have h2 := mem_prow.mp ht
    refine .inl ?_
    omega
theorem pup_len (n : Nat) : ∀ i, (pup n i).length ≤ i * n
  | 0 => Nat.zero_le _
  | i + 1 => by
    rw [pup_succ, List.length_append, prow_len, Nat.succ_mul]
    have := pup_len n i
    omega
theorem pup_len' {n i : Nat} (hn : n ≤ 100) (hi : i ≤ n) : (pup n i).length ≤ 10000 :=
  Nat.le_trans (pup_len n i) (Nat.le_trans (Nat.mul_le_mul (Nat.le_trans hi hn) hn) (by decide))
theorem wok_sub {n : Nat} {ts : List (Int × Int)} (h : ts.Sublist (pup n n)) : WOk n ts :=
  ⟨(pup_pw n n (Nat.le_refl n)).sublist h, fun t ht => by
    have := (mem_pup (Nat.le_refl n)).mp (h.subset ht)
    omega⟩

/-! ### the numbers below n -/
def up (n : Nat) : List Int := (List.range n).map fun (i : Nat) => (i : Int)
theorem up_succ (n : Nat) : up (n + 1) = up n ++ [(n : Int)] := by unfold up; rw [List.range_succ, List.map_append]; rfl
theorem up_len (n : Nat) : (up n).length = n := by unfold up; rw [List.length_map, List.length_range]
theorem mem_up {n : Nat} {x : Int} : x ∈ up n ↔ 0 ≤ x ∧ x < n := by
  unfold up
  rw [List.mem_map]
  constructor
  · rintro ⟨i, hi, rfl⟩
    have := List.mem_range.mp hi
    omega
  · intro h
    exact ⟨x.toNat, List.mem_range.mpr (by omega), by omega⟩
theorem up_nodup (n : Nat) : (up n).Nodup := by
  unfold up
  rw [List.nodup_iff_pairwise_ne, List.pairwise_map]
  exact (List.nodup_iff_pairwise_ne.mp List.nodup_range).imp fun h e => h (by omega)
theorem ins_perm {α : Type} (l : List α) (x : α) (k : Nat) : (l.take k ++ [x] ++ l.drop k).Perm (l ++ [x]) := by
  have h : (l.take k ++ [x] ++ l.drop k).Perm (l.take k ++ (l.drop k ++ [x])) := by
    rw [List.append_assoc]
    exact List.Perm.append_left _ List.perm_append_comm
  refine h.trans ?_
  rw [← List.append_assoc, List.take_append_drop]

/-! ### where a number stands in a list -/
theorem all_flat (ns : List Int) : (ns.map V.int).all flatV = true := by
  rw [List.all_map, List.all_eq_true]; intro x _; rfl
theorem idx_at {ns : List Int} {x : Int} (h : x ∈ ns) : (ns.map V.int)[ns.idxOf x]? = some (.int x) := by
  have hl := List.idxOf_lt_length_of_mem h
  rw [List.getElem?_map, List.getElem?_eq_getElem hl, List.getElem_idxOf hl]; rfl
theorem idx_first {ns : List Int} {x : Int} : ∀ (m : Nat) (z : V), m < ns.idxOf x → (ns.map V.int)[m]? = some z → eqV z (.int x) = false := by
  intro m z hm hz
  rw [List.getElem?_map] at hz
  have hml : m < ns.length := Nat.lt_of_lt_of_le hm List.idxOf_le_length
  rw [List.getElem?_eq_getElem hml] at hz
  cases hz
  have : ns[m] ≠ x := fun e => by
    have := List.not_of_lt_findIdx (xs := ns) (p := fun y => y == x) hm
    rw [e] at this
    simp at this
  exact beq_eq_false_iff_ne.mpr this

/-! ### readings by name -/
abbrev rLenK (K : PySem.W.Frag) : List V → Hp → VK → Prop :=
  fun xs H Q => ∃ p ys, xs = [.ref p] ∧ (SqL K H p ys ∨ SqT K H p ys) ∧ Q (.int ys.length) H
abbrev rTupK (K : PySem.W.Frag) : List V → Hp → VK → Prop :=
  fun xs H Q => ∃ p ys, xs = [.ref p] ∧ ((SqL K H p ys ∧ ∀ l, H l = none → Q (.ref l) (upd H l (.tup ys))) ∨ (SqT K H p ys ∧ Q (.ref p) H))
abbrev rLstK (K : PySem.W.Frag) : List V → Hp → VK → Prop :=
  fun xs H Q => ∃ p ys, xs = [.ref p] ∧ (SqL K H p ys ∨ SqT K H p ys) ∧ ∀ l, H l = none → Q (.ref l) (upd H l (.lst ys))

/-! ### the built-in names -/
structure Bts (mg : Str → Option Value) : Prop where
  len : mg "len" = none
  range : mg "range" = none
  tuple : mg "tuple" = none
  list : mg "list" = none
  int : mg "int" = none
  abs : mg "abs" = none
  min : mg "min" = none
  sorted : mg "sorted" = none
  set : mg "set" = none
  all : mg "all" = none
  any : mg "any" = none
  enumerate : mg "enumerate" = none
  zip : mg "zip" = none
  isinstance : mg "isinstance" = none
  bool : mg "bool" = none
  str : mg "str" = none
  dict : mg "dict" = none
end My

set_option Elab.async false
set_option linter.all false
set_option maxRecDepth 100000
namespace My
open PySem PySem.Spec PyProof.Rows L2

/-! ### the pair that a value tells -/
theorem Tie.inj {H : Hp} {v : V} {s t : Int × Int} (h : Tie H v s) (k : Tie H v t) : s = t := by
  obtain ⟨p, rfl, h⟩ := h
  obtain ⟨q, e, k⟩ := k
  cases e
  rw [h] at k
  cases s; cases t
  cases k
  rfl
open Classical in
noncomputable def key (H : Hp) (v : V) : Int × Int := if h : ∃ t, Tie H v t then h.choose else (0, 0)
theorem key_of {H : Hp} {v : V} {t : Int × Int} (h : Tie H v t) : key H v = t := by
  unfold key
  rw [dif_pos ⟨t, h⟩]
  exact (Exists.choose_spec (⟨t, h⟩ : ∃ t, Tie H v t)).inj h
theorem Ties.key {H : Hp} : ∀ {vs : List V} {ts : List (Int × Int)}, Ties H vs ts → ts = vs.map (My.key H)
  | [], [], _ => rfl
  | _ :: _, _ :: _, h => by rw [List.map_cons, key_of h.1, ← Ties.key h.2]
  | [], _ :: _, h => h.elim
  | _ :: _, [], h => h.elim
theorem Ties.all {H : Hp} : ∀ {vs : List V} {ts : List (Int × Int)}, Ties H vs ts → ∀ v ∈ vs, Tie H v (My.key H v)
  | [], [], _, _, hv => by cases hv
  | _ :: _, _ :: _, h, v, hv => by
    rcases List.mem_cons.mp hv with rfl | hv
    · rw [key_of h.1]; exact h.1
    · exact Ties.all h.2 v hv
  | [], _ :: _, h, _, _ => h.elim
  | _ :: _, [], h, _, _ => h.elim
theorem ties_mk {H : Hp} : ∀ {vs : List V}, (∀ v ∈ vs, Tie H v (My.key H v)) → Ties H vs (vs.map (My.key H))
  | [], _ => trivial
  | v :: vs, h => ⟨h v List.mem_cons_self, ties_mk fun u hu => h u (List.mem_cons_of_mem _ hu)⟩

/-! ### a list of ties, sorted -/
theorem srt_ties {H : Hp} {xs ys : List V} {ts : List (Int × Int)} (hs : SrtO.Srtd (ltP (My.key H)) ys) (hb : ys.Perm xs) (hT : Ties H xs ts) :
    ∃ ts', Ties H ys ts' ∧ ts'.Perm ts ∧ ts'.Pairwise (fun s t => ¬ ltT t s) := by
  refine ⟨ys.map (My.key H), ties_mk fun v hv => hT.all v (hb.mem_iff.mp hv), ?_, ?_⟩
  · rw [hT.key]; exact hb.map _
  · rw [List.pairwise_map]
    refine hs.imp fun {a b} h l => ?_
    have : ltP (My.key H) b a = true := SrtO.lexB_iff.mpr l
    rw [this] at h
    cases h
theorem ltT_tri (s t : Int × Int) : ltT s t ∨ s = t ∨ ltT t s := by
  cases s with | mk a b =>
  cases t with | mk c d =>
  unfold ltT
  by_cases h1 : a < c
  · exact .inl (.inl h1)
  · by_cases h2 : c < a
    · exact .inr (.inr (.inl h2))
    · have e : a = c := by omega
      subst e
      by_cases h3 : b < d
      · exact .inl (.inr ⟨rfl, h3⟩)
      · by_cases h4 : d < b
        · exact .inr (.inr (.inr ⟨rfl, h4⟩))
        · have e : b = d := by omega
          subst e
          exact .inr (.inl rfl)
theorem ltT_irr {s : Int × Int} : ¬ ltT s s := by unfold ltT; omega
theorem ltT_tr {s t u : Int × Int} (h : ltT s t) (k : ltT t u) : ltT s u := by unfold ltT at *; omega
theorem pw_lt {ts : List (Int × Int)} (h : ts.Pairwise (fun s t => ¬ ltT t s)) (nd : ts.Nodup) : ts.Pairwise ltT := by
  refine (h.and (List.nodup_iff_pairwise_ne.mp nd)).imp ?_
  rintro s t ⟨h1, h2⟩
  rcases ltT_tri s t with h | h | h
  · exact h
  · exact absurd h h2
  · exact absurd h h1
/-- two rising lists with the same items are one -/
theorem pw_eq : ∀ {as bs : List (Int × Int)}, as.Pairwise ltT → bs.Pairwise ltT → (∀ t, t ∈ as ↔ t ∈ bs) → as = bs
  | [], [], _, _, _ => rfl
  | [], b :: bs, _, _, h => by have := (h b).mpr List.mem_cons_self; cases this
  | a :: as, [], _, _, h => by have := (h a).mp List.mem_cons_self; cases this
  | a :: as, b :: bs, ha, hb, h => by
    have ha' := List.pairwise_cons.mp ha
    have hb' := List.pairwise_cons.mp hb
    have e : a = b := by
      rcases List.mem_cons.mp ((h a).mp List.mem_cons_self) with e | m1
      · exact e
      · rcases List.mem_cons.mp ((h b).mpr List.mem_cons_self) with e | m2
        · exact e.symm
        · exact absurd (ltT_tr (ha'.1 b m2) (hb'.1 a m1)) ltT_irr
    subst e
    rw [pw_eq ha'.2 hb'.2 fun t => ⟨fun m => ?_, fun m => ?_⟩]
    · rcases List.mem_cons.mp ((h t).mp (List.mem_cons_of_mem _ m)) with e | m'
      · subst e; exact absurd (ha'.1 t m) ltT_irr
      · exact m'
    · rcases List.mem_cons.mp ((h t).mpr (List.mem_cons_of_mem _ m)) with e | m'
      · subst e; exact absurd (hb'.1 t m) ltT_irr
      · exact m'

/-! ### ties as data -/
def dT (t : Int × Int) : PyData := .tuple [.int t.1, .int t.2]
theorem Tie.dp {K : PySem.W.Frag} {H : Hp} {v : V} {t : Int × Int} (h : Tie H v t) : Dp K H v (dT t) := by
  obtain ⟨p, rfl, h⟩ := h
  exact .tup (Or.inl (Or.inl h)) (.cons (.int _) (.cons (.int _) .nil))
theorem Ties.dp {K : PySem.W.Frag} {H : Hp} : ∀ {vs : List V} {ts : List (Int × Int)}, Ties H vs ts → DpAll K H vs (ts.map dT)
  | [], [], _ => .nil
  | _ :: _, _ :: _, h => .cons h.1.dp (Ties.dp h.2)
  | [], _ :: _, h => h.elim
  | _ :: _, [], h => h.elim
theorem shaped_dT (t : Int × Int) : SeqAt.shaped (dT t) = true := rfl
theorem can_ties (ts : List (Int × Int)) : PyData.canLayAll0 (ts.map dT) = true := by
  induction ts with
  | nil => rfl
  | cons t ts ih => rw [List.map_cons, PyData.canLayAll0, ih]; rfl
theorem dep_ties (ts : List (Int × Int)) : PyData.depthAll (ts.map dT) ≤ 1 := by
  induction ts with
  | nil => exact Nat.zero_le _
  | cons t ts ih =>
    rw [List.map_cons, PyData.depthAll]
    exact Nat.max_le.mpr ⟨Nat.le_refl _, ih⟩
theorem shaped_ties (ts : List (Int × Int)) : SeqAt.shaped (.list (ts.map dT)) = true := by
  unfold SeqAt.shaped
  rw [Bool.and_eq_true, decide_eq_true_eq]
  refine ⟨can_ties ts, ?_⟩
  show PyData.depthAll (ts.map dT) + 1 ≤ 64
  have := dep_ties ts
  omega
theorem eqv_dT (s t : Int × Int) : PyData.eqv (dT s) (dT t) = decide (s = t) := by
  cases s with | mk a b =>
  cases t with | mk c d =>
  show ((a == c) && ((b == d) && true)) = _
  by_cases h : a = c <;> by_cases k : b = d <;> simp [h, k]
theorem two {A : Hp → Prop} {C : Prop} (R : Hp → Prop) (k : (∀ H, R H → A H) → C) (h : ∀ H, R H → A H) : C := k h
theorem at_mem {ns : List Int} {j : Int} (h1 : -(ns.length : Int) ≤ j) (h2 : j < ns.length) : ∃ x, atI (ns.map V.int) j = some (.int x) ∧ x ∈ ns := by
  unfold atI ixN
  rw [List.length_map]
  by_cases h0 : 0 ≤ j
  · have hl : j.toNat < ns.length := by omega
    rw [if_pos h0, if_pos h2]
    refine ⟨ns[j.toNat], ?_, List.getElem_mem hl⟩
    show (ns.map V.int)[j.toNat]? = _
    rw [List.getElem?_map, List.getElem?_eq_getElem hl]; rfl
  · have hl : (j + ns.length).toNat < ns.length := by omega
    rw [if_neg h0, if_pos h1]
    refine ⟨ns[(j + ns.length).toNat], ?_, List.getElem_mem hl⟩
    show (ns.map V.int)[(j + ns.length).toNat]? = _
    rw [List.getElem?_map, List.getElem?_eq_getElem hl]; rfl
theorem perm2 {ns : List Int} {x y : Int} (h : ns.Perm [x, y]) (s : ns.Pairwise (· ≤ ·)) : ns = [if x ≤ y then x else y, if x ≤ y then y else x] := by
  match ns, h.length_eq with
  | [a, b], _ =>
    have ab : a ≤ b := (List.pairwise_cons.mp s).1 b (List.mem_singleton.mpr rfl)
    have ha := h.mem_iff (a := a) |>.mp List.mem_cons_self
    have hb := h.mem_iff (a := b) |>.mp (List.mem_cons_of_mem _ List.mem_cons_self)
    have hx := h.mem_iff (a := x) |>.mpr List.mem_cons_self
    have hy := h.mem_iff (a := y) |>.mpr (List.mem_cons_of_mem _ List.mem_cons_self)
    simp only [List.mem_cons, List.not_mem_nil, or_false] at ha hb hx hy
    by_cases c : x ≤ y
    · rw [if_pos c, if_pos c]
      have : a = x ∧ b = y := by omega
      rw [this.1, this.2]
    · rw [if_neg c, if_neg c]
      have : a = y ∧ b = x := by omega
      rw [this.1, this.2]
/-! ### ties by their places, for sets -/
def prT (p : Addr × List Int) : Int × Int := (p.2.getD 0 0, p.2.getD 1 0)
theorem Ties.addr {H : Hp} : ∀ {vs : List V} {ts : List (Int × Int)}, Ties H vs ts → ∃ ks : List (Addr × List Int), vs = (ks.map fun p => V.ref p.1) ∧
    (∀ p ∈ ks, H p.1 = some (.tup (p.2.map V.int)) ∧ ∃ t ∈ ts, p.2 = [t.1, t.2]) ∧ ks.map prT = ts
  | [], [], _ => ⟨[], rfl, (fun _ h => by cases h), rfl⟩
  | v :: vs, t :: ts, h => by
    obtain ⟨ks, e1, e2, e3⟩ := Ties.addr h.2
    obtain ⟨p, rfl, hp⟩ := h.1
    refine ⟨(p, [t.1, t.2]) :: ks, by rw [e1]; rfl, fun q hq => ?_, by rw [List.map_cons, e3]; rfl⟩
    rcases List.mem_cons.mp hq with rfl | hq
    · exact ⟨hp, t, List.mem_cons_self, rfl⟩
    · obtain ⟨g1, t', g2, g3⟩ := e2 q hq
      exact ⟨g1, t', List.mem_cons_of_mem _ g2, g3⟩
  | [], _ :: _, h => h.elim
  | _ :: _, [], h => h.elim
theorem ties_addr {H : Hp} : ∀ {ks : List (Addr × List Int)}, (∀ p ∈ ks, H p.1 = some (.tup (p.2.map V.int)) ∧ ∃ t : Int × Int, p.2 = [t.1, t.2]) → Ties H (ks.map fun p => V.ref p.1) (ks.map prT)
  | [], _ => trivial
  | p :: ks, h => by
    refine ⟨?_, ties_addr fun q hq => h q (List.mem_cons_of_mem _ hq)⟩
    obtain ⟨g1, t, g2⟩ := h p List.mem_cons_self
    refine ⟨p.1, rfl, ?_⟩
    unfold prT
    rw [g1, g2]; rfl
theorem u65 {k : Nat} {A : Around} (r : Room k A) : A.units + 65 < cLine := by have := r.un; omega
end My

set_option Elab.async false
set_option linter.all false
set_option maxRecDepth 100000
namespace My
open PySem PySem.Spec PyProof.Rows L2

/-! ### lists side by side -/
def All2 {α : Type} (R : V → α → Prop) : List V → List α → Prop
  | [], [] => True
  | v :: vs, t :: ts => R v t ∧ All2 R vs ts
  | _, _ => False
section
variable {α : Type} {R S : V → α → Prop}
theorem All2.imp (a : ∀ v t, R v t → S v t) : ∀ {vs : List V} {ts : List α}, All2 R vs ts → All2 S vs ts
  | [], [], _ => trivial
  | _ :: _, _ :: _, h => ⟨a _ _ h.1, All2.imp a h.2⟩
  | [], _ :: _, h => h.elim
  | _ :: _, [], h => h.elim
theorem All2.app : ∀ {vs us : List V} {ts rs : List α}, All2 R vs ts → All2 R us rs → All2 R (vs ++ us) (ts ++ rs)
  | [], _, [], _, _, k => k
  | _ :: _, _, _ :: _, _, h, k => ⟨h.1, All2.app h.2 k⟩
  | [], _, _ :: _, _, h, _ => h.elim
  | _ :: _, _, [], _, h, _ => h.elim
theorem All2.len : ∀ {vs : List V} {ts : List α}, All2 R vs ts → vs.length = ts.length
  | [], [], _ => rfl
  | _ :: _, _ :: _, h => congrArg (· + 1) (All2.len h.2)
  | [], _ :: _, h => h.elim
  | _ :: _, [], h => h.elim
theorem All2.at : ∀ {vs : List V} {ts : List α} {i : Nat} {v : V}, All2 R vs ts → vs[i]? = some v → ∃ t, ts[i]? = some t ∧ R v t
  | [], [], _, _, _, e => by cases e
  | _ :: _, t :: _, 0, _, h, e => by cases e; exact ⟨t, rfl, h.1⟩
  | _ :: _, _ :: _, i + 1, _, h, e => All2.at (i := i) h.2 e
  | [], _ :: _, _, _, h, _ => h.elim
  | _ :: _, [], _, _, h, _ => h.elim
theorem All2.at' : ∀ {vs : List V} {ts : List α} {i : Nat} {t : α}, All2 R vs ts → ts[i]? = some t → ∃ v, vs[i]? = some v ∧ R v t
  | [], [], _, _, _, e => by cases e
  | v :: _, _ :: _, 0, _, h, e => by cases e; exact ⟨v, rfl, h.1⟩
  | _ :: _, _ :: _, i + 1, _, h, e => All2.at' (i := i) h.2 e
  | [], _ :: _, _, _, h, _ => h.elim
  | _ :: _, [], _, _, h, _ => h.elim
theorem All2.erase : ∀ {vs : List V} {ts : List α} (k : Nat), All2 R vs ts → All2 R (vs.eraseIdx k) (ts.eraseIdx k)
  | [], [], _, _ => trivial
  | _ :: _, _ :: _, 0, h => h.2
  | _ :: _, _ :: _, k + 1, h => ⟨h.1, All2.erase k h.2⟩
  | [], _ :: _, _, h => h.elim
  | _ :: _, [], _, h => h.elim
end

/-! ### pairs of places of unlike groups -/
def norm (a b : Int) : Int × Int := (if a ≤ b then a else b, if a ≤ b then b else a)
theorem norm_inj {a b c d : Int} (h : norm a b = norm c d) : (a = c ∧ b = d) ∨ (a = d ∧ b = c) := by
  unfold norm at h
  have h1 := congrArg Prod.fst h
  have h2 := congrArg Prod.snd h
  dsimp only at h1 h2
  by_cases x : a ≤ b <;> by_cases y : c ≤ d
  · rw [if_pos x, if_pos y] at h1 h2; omega
  · rw [if_pos x, if_neg y] at h1 h2; omega
  · rw [if_neg x, if_pos y] at h1 h2; omega
  · rw [if_neg x, if_neg y] at h1 h2; omega
def newA (g h : List Int) : List (Int × Int) := g.flatMap fun a => h.map fun b => norm a b
def newK (s : List (List Int)) (cd : Nat → Nat → Bool) (k j : Nat) : List (Int × Int) :=
  (List.range j).flatMap fun j => newA (if cd k j = true then s.getD k [] else []) (s.getD j [])
def news (s : List (List Int)) (cd : Nat → Nat → Bool) (m : Nat) : List (Int × Int) := (List.range m).flatMap fun k => newK s cd k k
theorem newA_app (g g' h : List Int) : newA (g ++ g') h = newA g h ++ newA g' h := by unfold newA; rw [List.flatMap_append]
theorem newA_one (a : Int) (h : List Int) : newA [a] h = h.map fun b => norm a b := by unfold newA; rw [List.flatMap_singleton]
theorem newK_succ (s : List (List Int)) (cd : Nat → Nat → Bool) (k j : Nat) : newK s cd k (j + 1) = newK s cd k j ++ newA (if cd k j = true then s.getD k [] else []) (s.getD j []) := by
  unfold newK; rw [List.range_succ, List.flatMap_append, List.flatMap_singleton]
theorem news_succ (s : List (List Int)) (cd : Nat → Nat → Bool) (m : Nat) : news s cd (m + 1) = news s cd m ++ newK s cd m m := by
  unfold news; rw [List.range_succ, List.flatMap_append, List.flatMap_singleton]
theorem mem_newA {g h : List Int} {t : Int × Int} : t ∈ newA g h ↔ ∃ a ∈ g, ∃ b ∈ h, t = norm a b := by
  unfold newA
  simp only [List.mem_flatMap, List.mem_map]
  constructor
  · rintro ⟨a, ha, b, hb, rfl⟩; exact ⟨a, ha, b, hb, rfl⟩
  · rintro ⟨a, ha, b, hb, rfl⟩; exact ⟨a, ha, b, hb, rfl⟩
theorem mem_newK {s : List (List Int)} {cd : Nat → Nat → Bool} {k j : Nat} {t : Int × Int} (h : t ∈ newK s cd k j) :
    ∃ j' < j, ∃ a ∈ s.getD k [], ∃ b ∈ s.getD j' [], t = norm a b := by
  unfold newK at h
  obtain ⟨j', hj, h⟩ := List.mem_flatMap.mp h
  obtain ⟨a, ha, b, hb, e⟩ := mem_newA.mp h
  refine ⟨j', List.mem_range.mp hj, a, ?_, b, hb, e⟩
  split at ha
  · exact ha
  · cases ha
theorem mem_news {s : List (List Int)} {cd : Nat → Nat → Bool} {m : Nat} {t : Int × Int} (h : t ∈ news s cd m) :
    ∃ k < m, ∃ j < k, ∃ a ∈ s.getD k [], ∃ b ∈ s.getD j [], t = norm a b := by
  unfold news at h
  obtain ⟨k, hk, h⟩ := List.mem_flatMap.mp h
  obtain ⟨j, hj, r⟩ := mem_newK h
  exact ⟨k, List.mem_range.mp hk, j, hj, r⟩
/-- a place is in one group alone -/
theorem grp_one {s : List (List Int)} (nd : s.flatten.Nodup) {a : Int} {i j : Nat} (hi : a ∈ s.getD i []) (hj : a ∈ s.getD j []) : i = j := by
  have li : i < s.length := by
    rcases Nat.lt_or_ge i s.length with h | h
    · exact h
    · rw [List.getD_eq_getElem?_getD, List.getElem?_eq_none h] at hi; cases hi
  have lj : j < s.length := by
    rcases Nat.lt_or_ge j s.length with h | h
    · exact h
    · rw [List.getD_eq_getElem?_getD, List.getElem?_eq_none h] at hj; cases hj
  rw [List.getD_eq_getElem?_getD, List.getElem?_eq_getElem li] at hi
  rw [List.getD_eq_getElem?_getD, List.getElem?_eq_getElem lj] at hj
  dsimp only [Option.getD_some] at hi hj
  have pw := (List.pairwise_flatten.mp (List.nodup_iff_pairwise_ne.mp nd)).2
  rw [List.pairwise_iff_getElem] at pw
  rcases Nat.lt_trichotomy i j with h | h | h
  · exact absurd rfl (pw i j li lj h a hi a hj)
  · exact h
  · exact absurd rfl (pw j i lj li h a hj a hi)
theorem grp_nd {s : List (List Int)} (nd : s.flatten.Nodup) (i : Nat) : (s.getD i []).Nodup := by
  rcases Nat.lt_or_ge i s.length with h | h
  · rw [List.getD_eq_getElem?_getD, List.getElem?_eq_getElem h]
    exact List.nodup_iff_pairwise_ne.mpr ((List.pairwise_flatten.mp (List.nodup_iff_pairwise_ne.mp nd)).1 _ (List.getElem_mem h))
  · rw [List.getD_eq_getElem?_getD, List.getElem?_eq_none h]; exact List.nodup_nil
theorem four_inj {s : List (List Int)} (nd : s.flatten.Nodup) {k j k' j' : Nat} {a b a' b' : Int} (hj : j < k) (hj' : j' < k') (ha : a ∈ s.getD k []) (hb : b ∈ s.getD j [])
    (ha' : a' ∈ s.getD k' []) (hb' : b' ∈ s.getD j' []) (e : norm a b = norm a' b') : k = k' ∧ j = j' ∧ a = a' ∧ b = b' := by
  rcases norm_inj e with ⟨rfl, rfl⟩ | ⟨rfl, rfl⟩
  · exact ⟨grp_one nd ha ha', grp_one nd hb hb', rfl, rfl⟩
  · have e1 := grp_one nd ha hb'
    have e2 := grp_one nd hb ha'
    omega
theorem news_nd {s : List (List Int)} (nd : s.flatten.Nodup) (cd : Nat → Nat → Bool) (m : Nat) : (news s cd m).Nodup := by
  unfold news
  rw [List.nodup_iff_pairwise_ne, List.pairwise_flatMap]
  refine ⟨fun k hk => ?_, ?_⟩
  · unfold newK
    rw [List.pairwise_flatMap]
    refine ⟨fun j hj => ?_, ?_⟩
    · have hj := List.mem_range.mp hj
      unfold newA
      rw [List.pairwise_flatMap]
      refine ⟨fun a ha => ?_, ?_⟩
      · rw [List.pairwise_map]
        refine (List.nodup_iff_pairwise_ne.mp (grp_nd nd j)).imp_of_mem fun {b b'} hb hb' ne e => ?_
        have ha : a ∈ s.getD k [] := by split at ha; exact ha; cases ha
        exact ne (four_inj nd hj hj ha hb ha hb' e).2.2.2
      · have nda : (if cd k j = true then s.getD k [] else []).Nodup := by split; exact grp_nd nd k; exact List.nodup_nil
        refine (List.nodup_iff_pairwise_ne.mp nda).imp_of_mem fun {a a'} ha ha' ne x hx y hy e => ?_
        have ha : a ∈ s.getD k [] := by split at ha; exact ha; cases ha
        have ha' : a' ∈ s.getD k [] := by split at ha'; exact ha'; cases ha'
        obtain ⟨b, hb, rfl⟩ := List.mem_map.mp hx
        obtain ⟨b', hb', rfl⟩ := List.mem_map.mp hy
        exact ne (four_inj nd hj hj ha hb ha' hb' e).2.2.1
    · refine (List.nodup_iff_pairwise_ne.mp List.nodup_range).imp_of_mem fun {j j'} hj hj' ne x hx y hy e => ?_
      have hj := List.mem_range.mp hj
      have hj' := List.mem_range.mp hj'
      obtain ⟨a, ha, b, hb, rfl⟩ := mem_newA.mp hx
      obtain ⟨a', ha', b', hb', rfl⟩ := mem_newA.mp hy
      have ha : a ∈ s.getD k [] := by split at ha; exact ha; cases ha
      have ha' : a' ∈ s.getD k [] := by split at ha'; exact ha'; cases ha'
      exact ne (four_inj nd hj hj' ha hb ha' hb' e).2.1
  · refine (List.nodup_iff_pairwise_ne.mp List.nodup_range).imp_of_mem fun {k k'} hk hk' ne x hx y hy e => ?_
    obtain ⟨j, hj, a, ha, b, hb, rfl⟩ := mem_newK hx
    obtain ⟨j', hj', a', ha', b', hb', rfl⟩ := mem_newK hy
    exact ne (four_inj nd hj hj' ha hb ha' hb' e).1

/-- what holds of groups and ties between two turns -/
structure PInv (n : Nat) (gs : List (List Int)) (ts : List (Int × Int)) : Prop where
  fl : gs.flatten.Perm (up n)
  nd : ts.Nodup
  bd : ∀ t ∈ ts, 0 ≤ t.1 ∧ t.1 < t.2 ∧ t.2 < (n : Int)
  one : ∀ t ∈ ts, ∃ g ∈ gs, t.1 ∈ g ∧ t.2 ∈ g
theorem nd_len {α : Type} [DecidableEq α] : ∀ {l m : List α}, l.Nodup → (∀ x ∈ l, x ∈ m) → l.length ≤ m.length
  | [], _, _, _ => Nat.zero_le _
  | a :: l, m, nd, h => by
    have nd' := List.nodup_cons.mp nd
    have ha := h a List.mem_cons_self
    have := nd_len (l := l) (m := m.erase a) nd'.2 fun x hx => (List.mem_erase_of_ne (fun (e : x = a) => nd'.1 (by rw [← e]; exact hx))).mpr (h x (List.mem_cons_of_mem _ hx))
    rw [List.length_erase_of_mem ha] at this
    have := List.length_pos_of_mem ha
    rw [List.length_cons]
    omega
theorem PInv.len {n : Nat} {gs : List (List Int)} {ts : List (Int × Int)} (h : PInv n gs ts) (hn : n ≤ 100) : ts.length ≤ 10000 := by
  refine Nat.le_trans (nd_len (m := pup n n) h.nd fun t ht => ?_) (pup_len' hn (Nat.le_refl n))
  have := h.bd t ht
  exact (mem_pup (Nat.le_refl n)).mpr (by omega)
theorem norm_ends {a b : Int} {g : List Int} (h1 : (norm a b).1 ∈ g) (h2 : (norm a b).2 ∈ g) : a ∈ g ∧ b ∈ g := by
  unfold norm at h1 h2
  dsimp only at h1 h2
  by_cases x : a ≤ b
  · rw [if_pos x] at h1 h2; exact ⟨h1, h2⟩
  · rw [if_neg x] at h1 h2; exact ⟨h2, h1⟩
theorem PInv.next {n : Nat} {gs s r : List (List Int)} {ts : List (Int × Int)} (h : PInv n gs ts) (pm : gs.Perm (s ++ r)) (cd : Nat → Nat → Bool) :
    PInv n (r ++ [s.flatten]) (ts ++ news s cd s.length) := by
  have pf : (s ++ r).flatten.Perm (up n) := pm.flatten.symm.trans h.fl
  have ndf : (s ++ r).flatten.Nodup := pf.nodup_iff.mpr (up_nodup n)
  have nds : s.flatten.Nodup := by
    rw [List.flatten_append] at ndf
    exact (List.nodup_append.mp ndf).1
  have gd : ∀ i, i < s.length → (s ++ r).getD i [] = s.getD i [] := fun i hi => by
    rw [List.getD_eq_getElem?_getD, List.getD_eq_getElem?_getD, List.getElem?_append_left hi]
  have inS : ∀ {a : Int} {k : Nat}, a ∈ s.getD k [] → a ∈ s.flatten ∧ k < s.length := fun {a k} ha => by
    rcases Nat.lt_or_ge k s.length with hk | hk
    · rw [List.getD_eq_getElem?_getD, List.getElem?_eq_getElem hk] at ha
      exact ⟨List.mem_flatten.mpr ⟨_, List.getElem_mem hk, ha⟩, hk⟩
    · rw [List.getD_eq_getElem?_getD, List.getElem?_eq_none hk] at ha; cases ha
  have bd : ∀ {a : Int}, a ∈ s.flatten → 0 ≤ a ∧ a < (n : Int) := fun {a} ha =>
    mem_up.mp (pf.mem_iff.mp (by rw [List.flatten_append]; exact List.mem_append_left _ ha))
  refine ⟨?_, ?_, ?_, ?_⟩
  · refine List.Perm.trans ?_ pf
    rw [List.flatten_append, List.flatten_append]
    have : [s.flatten].flatten = s.flatten := by simp
    rw [this]
    exact List.perm_append_comm
  · rw [List.nodup_append]
    refine ⟨h.nd, news_nd nds cd _, fun t ht t' ht' e => ?_⟩
    subst e
    obtain ⟨k, hk, j, hj, a, ha, b, hb, rfl⟩ := mem_news ht'
    obtain ⟨g, hg, g1, g2⟩ := h.one _ ht
    obtain ⟨ga, gb⟩ := norm_ends g1 g2
    obtain ⟨i, hi, e⟩ := List.getElem_of_mem (pm.mem_iff.mp hg)
    have gi : (s ++ r).getD i [] = g := by rw [List.getD_eq_getElem?_getD, List.getElem?_eq_getElem hi, e]; rfl
    have e1 := grp_one ndf (i := i) (j := k) (by rw [gi]; exact ga) (by rw [gd k hk]; exact ha)
    have e2 := grp_one ndf (i := i) (j := j) (by rw [gi]; exact gb) (by rw [gd j (by omega)]; exact hb)
    omega
  · intro t ht
    rcases List.mem_append.mp ht with ht | ht
    · exact h.bd t ht
    · obtain ⟨k, hk, j, hj, a, ha, b, hb, rfl⟩ := mem_news ht
      have b1 := bd (inS ha).1
      have b2 := bd (inS hb).1
      have ne : a ≠ b := fun e => by subst e; have := grp_one nds ha hb; omega
      unfold norm
      dsimp only
      split <;> omega
  · intro t ht
    rcases List.mem_append.mp ht with ht | ht
    · obtain ⟨g, hg, g1, g2⟩ := h.one t ht
      rcases List.mem_append.mp (pm.mem_iff.mp hg) with m | m
      · exact ⟨s.flatten, List.mem_append_right _ (List.mem_singleton.mpr rfl), List.mem_flatten.mpr ⟨g, m, g1⟩, List.mem_flatten.mpr ⟨g, m, g2⟩⟩
      · exact ⟨g, List.mem_append_left _ m, g1, g2⟩
    · obtain ⟨k, hk, j, hj, a, ha, b, hb, rfl⟩ := mem_news ht
      refine ⟨s.flatten, List.mem_append_right _ (List.mem_singleton.mpr rfl), ?_, ?_⟩
      · unfold norm; dsimp only; split
        · exact (inS ha).1
        · exact (inS hb).1
      · unfold norm; dsimp only; split
        · exact (inS hb).1
        · exact (inS ha).1
theorem flat_one : ∀ ns : List Int, (ns.map fun x => [x]).flatten = ns
  | [] => rfl
  | a :: l => by rw [List.map_cons, List.flatten_cons, flat_one l]; rfl
theorem erase_perm {α : Type} : ∀ {l : List α} {i : Nat} (h : i < l.length), (l[i] :: l.eraseIdx i).Perm l
  | _ :: _, 0, _ => .refl _
  | a :: l, i + 1, h => by
    show (l[i]'(Nat.lt_of_succ_lt_succ h) :: a :: l.eraseIdx i).Perm (a :: l)
    exact (List.Perm.swap _ _ _).trans ((erase_perm (Nat.lt_of_succ_lt_succ h)).cons a)
/-! ### lengths -/
theorem newA_len {g h : List Int} {x y : Nat} (hg : g.length ≤ x) (hh : h.length ≤ y) : (newA g h).length ≤ x * y := by
  have : ∀ g : List Int, (newA g h).length = g.length * h.length := by
    intro g
    induction g with
    | nil => simp [newA]
    | cons a g ih =>
      have e : newA (a :: g) h = newA [a] h ++ newA g h := newA_app [a] g h
      rw [e, List.length_append, ih, newA_one, List.length_map, List.length_cons, Nat.succ_mul, Nat.add_comm]
  rw [this]
  exact Nat.mul_le_mul hg hh
theorem newK_len {s : List (List Int)} {cd : Nat → Nat → Bool} {k : Nat} (hs : ∀ i, (s.getD i []).length ≤ 12) : ∀ j, (newK s cd k j).length ≤ j * 144
  | 0 => Nat.zero_le _
  | j + 1 => by
    rw [newK_succ, List.length_append]
    have h1 := newK_len (s := s) (cd := cd) (k := k) hs j
    have h2 : (newA (if cd k j = true then s.getD k [] else []) (s.getD j [])).length ≤ 12 * 12 := newA_len (by split; exact hs k; exact Nat.zero_le _) (hs j)
    omega
theorem news_len {s : List (List Int)} {cd : Nat → Nat → Bool} (hs : ∀ i, (s.getD i []).length ≤ 12) : ∀ m, m ≤ 10 → (news s cd m).length ≤ m * 1440
  | 0, _ => Nat.zero_le _
  | m + 1, h => by
    rw [news_succ, List.length_append]
    have h1 := news_len (s := s) (cd := cd) hs m (by omega)
    have h2 := newK_len (s := s) (cd := cd) (k := m) hs m
    omega
theorem grp_len {n : Nat} {s : List (List Int)} {r : List (List Int)} (h : (s ++ r).flatten.Perm (up n)) (i : Nat) : (s.getD i []).length ≤ n := by
  rcases Nat.lt_or_ge i s.length with hi | hi
  · rw [List.getD_eq_getElem?_getD, List.getElem?_eq_getElem hi]
    have e := h.length_eq
    rw [up_len, List.flatten_append, List.length_append] at e
    have : ∀ (l : List (List Int)) (g : List Int), g ∈ l → g.length ≤ l.flatten.length := by
      intro l g hg
      induction l with
      | nil => cases hg
      | cons x l ih =>
        rw [List.flatten_cons, List.length_append]
        rcases List.mem_cons.mp hg with rfl | hg
        · omega
        · have := ih hg; omega
    have := this s _ (List.getElem_mem hi)
    show s[i].length ≤ n
    omega
  · rw [List.getD_eq_getElem?_getD, List.getElem?_eq_none hi]; exact Nat.zero_le _
end My

set_option Elab.async false
set_option linter.all false
set_option maxRecDepth 100000
set_option maxHeartbeats 2000000
namespace My
open PySem PySem.Spec PyProof.Rows L2 GxR

/-! ### the frame of a generator expression -/
abbrev gcx (X : Cx) (A' : Around) (s : Shared) (H : Hp) (cenv : Env) (fp : List Addr) (pn : List (Addr × Obj)) : Cx :=
  { X with A := A', s_0 := s, H_0 := H, env := cenv, outer := X.stack, stack := cenv :: X.stack, ex := fp, fn := fun _ => false, calm := true, pn := pn, xe := fun _ _ => False }
structure GsOk (scope : Scope) : Prop where
  co : scope.isCoroutine = false
  cell : ∀ y ∈ scope.names, y.2 ≠ .cell
  dot : scope.names.lookup (".0" : Str) = some NameKind.local

section
variable {X : Cx} {pins : List (Addr × Obj)} {σ : L2.St} {H : Hp} {s : Shared}
abbrev gEnv (X : Cx) (scope : Scope) (C : Addr) (code : Value) : Env :=
  genEnv scope (cloFrom X.env.cells scope.names []) C code builtinsNs X.env
theorem gen_inv {scope : Scope} {own : List (Str × Nat)} {fp : List Addr} {A' : Around} {C : Addr} {code : Value} {s5 : Shared}
    {m : Str → Option Value} {pn : List (Addr × Obj)} (I : Inv X pins σ H s) (ok : BlkOk X.N X.env.scope scope own) (hN : X.N.Nodup)
    (S : GsOk scope) (hfp : ∀ b ∈ fp, FpOk X pins H b ∧ b < s.heap.objs.size) (hC : C = s.heap.objs.size) (hA : A'.handled = none)
    (hF : A'.frames = some (gEnv X scope C code :: X.stack)) (kp : ∀ b o, s.heap.get? b = some o → s5.heap.get? b = some o)
    (hns : s5.heap.Ns C m) (hos : s5.os = s.os) (hb : AllBare s5.gens)
    (hpn : ∀ p ∈ pn, s5.heap.get? p.1 = some p.2 ∧ s.heap.objs.size < p.1 ∧ ∀ v, p.2.data ≠ .cell v) :
    Inv (gcx X A' s H (gEnv X scope C code) fp pn) [] (wipe σ (own.map (·.2))) H s5 := by
  have cm : ∀ {y : Str} {c : Addr}, (cloFrom X.env.cells scope.names []).lookup y = some c → X.env.cells.lookup y = some c ∧ c < s.heap.objs.size := fun {y c} e => by
    rcases cloFrom_mem (PySem.mem_of_lookup e) with z | ⟨h1, rfl⟩
    · cases z
    · have : ∃ c, X.env.cells.lookup y = some c := by
        rcases ok.free _ h1 rfl with k | k
        · exact I.ok.has _ (.inl k)
        · exact I.ok.has _ (.inr k)
      obtain ⟨c, hc⟩ := this
      rw [hc]
      obtain ⟨w, z⟩ := I.cell _ _ hc
      exact ⟨rfl, z.lt⟩
  have look : ∀ {y : Str}, scope.names.lookup y = some .free → ∃ c, (cloFrom X.env.cells scope.names []).lookup y = some c ∧ X.env.cells.lookup y = some c := fun {y} hl => by
    obtain ⟨c, e⟩ := mem_lookup (cloFrom_has (cells := X.env.cells) (acc := []) (PySem.mem_of_lookup hl))
    exact ⟨c, e, (cm e).1⟩
  have hCs : s.heap.objs.size ≤ C := Nat.le_of_eq hC.symm
  have okB : (gcx X A' s H (gEnv X scope C code) fp pn).Ok := by
    refine ⟨I.ok.mod, ok.kind, I.ok.glob, rfl, hCs, fun y z c e1 e2 => I.ok.inj y z c (cm e1).1 (cm e2).1, fun y hy => ?_, (fun y c z e => by cases z), fun _ => hA, hF, .inr ⟨rfl, rfl⟩,
      fun b hb => ⟨?_, fun y c e => (hfp b hb).1.2.2.2.2.1 y c (cm e).1⟩, I.bs, Nat.le_trans I.ok.bsz I.sz, fun b o e hb => ?_, fun b hb z => ?_, I.stack, I.stkFree⟩
    · rcases hy with hy | hy
      · exact absurd rfl (S.cell _ (PySem.mem_of_lookup (show scope.names.lookup y = some .cell from hy)))
      · obtain ⟨c, e, _⟩ := look (show scope.names.lookup y = some .free from hy)
        exact ⟨c, e⟩
    · show b ≠ C
      rw [hC]; exact Nat.ne_of_lt (hfp b hb).2
    · rcases (hfp b hb).1.2.2.2.1 with z | z
      · exact I.ok.noex b o e z
      · exact absurd (Nat.lt_of_lt_of_le (Heap.lt_size e) (Nat.le_trans I.ok.bsz z)) (Nat.lt_irrefl _)
    · rcases List.mem_cons.mp (I.stkSub b z) with z | z
      · exact (hfp b hb).1.2.1 z
      · exact (hfp b hb).1.2.2.1 z
  refine ⟨okB, hos, hb, Un.kept kp, ⟨m, hns, fun i y v e1 e2 e3 => ?_⟩, fun y c e => ?_, ?_, fun y c e => I.freeC y c (cm e).1, fun p hp => ?_, I.hok.kept kp, by rw [wipe_length]; exact I.len⟩
  · obtain ⟨e2, hne⟩ := wipe_some e2
    have no : ∀ k, scope.names.lookup y = some k → ¬ (k = .local ∨ k = .cell) := fun k e hh => by
      rcases ok.own _ (PySem.mem_of_lookup e) hh with z | z
      · obtain ⟨p, hp, hpy⟩ := List.mem_map.mp z
        have e4 := ok.ix p hp
        have hpy : p.1 = y := hpy
        rw [hpy] at e4
        exact hne (List.mem_map.mpr ⟨p, hp, nodup_ix hN e4 e1⟩)
      · exact z (List.mem_of_getElem? e1)
    have e3 : Vis scope y := e3
    have fr : scope.names.lookup y = some .free := by
      rcases e3 with e3 | e3 | e3
      · exact absurd (.inl rfl) (no _ e3)
      · exact absurd (.inr rfl) (no _ e3)
      · exact e3
    obtain ⟨m', hn, hl⟩ := I.loc
    have k := ok.free _ (PySem.mem_of_lookup fr) rfl
    have hv : Vis X.env.scope y := by
      rcases k with k | k
      · exact .inr (.inl k)
      · exact .inr (.inr k)
    obtain ⟨w, r, q⟩ := hl i y v e1 e2 hv
    refine ⟨w, r, .inr ⟨.inr fr, ?_⟩⟩
    obtain ⟨c, h1, h2⟩ := look fr
    rcases q with ⟨z, _⟩ | ⟨_, c', e', z⟩
    · have z : X.env.scope.names.lookup y = some .local := z
      rcases k with k | k <;> (have k : X.env.scope.names.lookup y = _ := k; rw [k] at z; cases z)
    · rw [h2] at e'; cases e'
      exact ⟨c, h1, z.keeps kp⟩
  · obtain ⟨w, z⟩ := I.cell y c (cm e).1
    exact ⟨w, z.keeps kp⟩
  · exact I.hok.fresh hCs
  · rw [List.append_nil] at hp
    obtain ⟨h1, h2, h3⟩ := hpn p hp
    refine ⟨h1, I.hok.fresh (Nat.le_of_lt h2), ?_, fun z => ?_, h3⟩
    · show p.1 ≠ C
      rw [hC]; exact Nat.ne_of_gt h2
    · rcases List.mem_cons.mp (I.stkSub p.1 z) with z | z
      · have := I.lt
        rw [← z] at this
        exact absurd (Nat.lt_trans h2 this) (Nat.lt_irrefl _)
      · exact I.nofs (Nat.le_of_lt h2) z
theorem inv_gens {gs : Array GenState} (I : Inv X pins σ H s) (hb : AllBare gs) : Inv X pins σ H { s with gens := gs } :=
  ⟨I.ok, I.os, hb, I.base, I.loc, I.cell, I.free, I.freeC, I.pin, I.hok, I.len⟩
theorem inv_setGen {g : Nat} {x : GenState} (I : Inv X pins σ H s) (hx : x.bare = true) : Inv X pins σ H (s.setGen g x) := by
  refine inv_gens I fun y hy => ?_
  rcases Array.mem_or_eq_of_mem_setIfInBounds hy with h | h
  · exact I.bare y h
  · rw [h]; exact hx
end

/-! ### the loop of a generator expression -/
section
variable {prog : Program} {w : World} {A : Around}
/-- n: how many more may come; Yl m v s: v is handed out, fewer than m turns are left; St m s: ready for the next turn -/
def protoG (St : Nat → Shared → Prop) (Yl : Nat → Value → Shared → Prop) : Protocol := fun n _ v s kap =>
  (∃ m, m ≤ n ∧ Yl m v s) ∧ ∀ s'' m', m' < n → St m' s'' → kap (.send .none) s''
theorem seg_loopG {elt tg iter : Expr} {scope : Scope} {pos : Pos} {it : Addr} {cenv : Env} (hco : cenv.scope.isCoroutine = false)
    (St : Nat → Shared → Prop) (En : Shared → Prop) (Yl : Nat → Value → Shared → Prop)
    (turn : ∀ m s, St m s → wpAny (model prog w) (A.over (.compLoop (.GeneratorExp elt [⟨tg, iter, [], 0⟩] scope pos) 0 (.ref it) .none cenv) []) (pyNext (.ref it)) (fun r s1 => match r with
      | none => En s1
      | some u => wpAny (model prog w) (A.over (.compLoop (.GeneratorExp elt [⟨tg, iter, [], 0⟩] scope pos) 0 (.ref it) .none cenv) []) (letOwnedTupleGo tg (.ref it) u) (fun _ s2 =>
          wpAny (model prog w) (A.over (.compLoop (.GeneratorExp elt [⟨tg, iter, [], 0⟩] scope pos) 0 (.ref it) .none cenv) []) (assign tg cenv u) (fun _ s3 =>
            wpAny (model prog w) (A.over (.compLoop (.GeneratorExp elt [⟨tg, iter, [], 0⟩] scope pos) 0 (.ref it) .none cenv) []) (eval elt cenv) (fun v s4 => Yl m v s4) (fun _ _ => False) s3) (fun _ _ => False) s2) (fun _ _ => False) s1) (fun _ _ => False) s) :
    ∀ (n m : Nat) (s₀ s : Shared), m < n → St m s →
      Seg (model prog w) A (fun _ _ r s₁ => r = .ok .next ∧ En s₁) (protoG St Yl) n s₀
        (.compLoop (.GeneratorExp elt [⟨tg, iter, [], 0⟩] scope pos) 0 (.ref it) .none cenv)
        ((model prog w).den (.compLoop (.GeneratorExp elt [⟨tg, iter, [], 0⟩] scope pos) 0 (.ref it) .none cenv)) [] s := by
  intro n
  induction n with
  | zero => intro m _ _ h; exact absurd h (Nat.not_lt_zero _)
  | succ n ih =>
    intro m s₀ s hm hst
    show Seg _ A _ _ _ s₀ _ ((compTurn (.GeneratorExp elt [⟨tg, iter, [], 0⟩] scope pos) 0 (.ref it) .none cenv).onRaise (leaving cenv)) [] s
    rw [compTurn_gen, Sem.onRaise_eq_wrap]
    refine seg_bind_wrap (wpAny_standAt ?_)
    refine seg_bind_wrap (wpAny_mono (turn m s hst) (fun r s1 h1 => ?_) fun _ _ e => e.elim)
    cases r with
    | none => exact seg_end (.ok .next) ⟨rfl, h1⟩
    | some u =>
      refine seg_bind_wrap (wpAny_mono h1 (fun _ s2 h2 => ?_) fun _ _ e => e.elim)
      refine seg_bind_wrap (wpAny_mono h2 (fun _ s3 h3 => ?_) fun _ _ e => e.elim)
      refine seg_bind_wrap ?_
      simp only [List.forIn_nil]
      refine wpAny_pure ?_
      simp only [if_true]
      have hy : ∀ v, yieldOut cenv v = yieldValue v := fun v => by simp only [yieldOut, hco, Bool.false_eq_true, if_false]
      simp only [hy]
      rw [Sem.bind_eq_wrap', Sem.bind_eq_wrap', Sem.wrap_wrap, Sem.wrap_wrap]
      refine seg_wrap (wpAny_mono h3 (fun v s4 h4 => ?_) fun _ _ e => e.elim)
      refine seg_at (seg_yield rfl rfl rfl ⟨⟨m, Nat.le_of_lt_succ hm, h4⟩, fun s'' m' hm' hst' => ?_⟩)
      exact seg_again rfl (ih m' s'' s'' hm' hst')
end
end My

set_option Elab.async false
set_option linter.all false
set_option maxRecDepth 100000
set_option maxHeartbeats 2000000
namespace My
open PySem PySem.Spec PyProof.Rows L2 GxR GenW

abbrev genObj (g : Nat) (x y : Value) : Obj := { cls := .type "generator", data := .fields #[.int g 0, x, y] }
/-- a generator expression is made: what stands then -/
structure Made (X : Cx) (pins : List (Addr × Obj)) (σ : L2.St) (elt tg iter : Expr) (scope : Scope) (gpos : Pos) (P : Addr) (J : It) (H1 H2 : Hp)
    (it : Addr) (fp : List Addr) (tn : Nat → Heap → Prop) (s4 s5 : Shared) (C a : Addr) (code : Value) (g : Nat) (x y : Value) : Prop where
  tab : Tabbed P H1 H2
  inv : Inv X pins σ H2 s4
  tu : Turn X.prog X.w X.K tg J fp it tn
  st : tn 0 s4.heap
  fp : ∀ b ∈ fp, FpOk X pins H2 b ∧ b < s4.heap.objs.size
  c : C = s4.heap.objs.size
  kp : ∀ b o, s4.heap.get? b = some o → s5.heap.get? b = some o
  ns : s5.heap.Ns C (fun y => if y = (".0" : Str) then some (.ref it) else none)
  os : s5.os = s4.os
  bare : AllBare s5.gens
  obj : s5.heap.get? a = some (genObj g x y)
  lt : s4.heap.objs.size < a
  gs : s5.gens[g]? = some (.fresh (.compStart (.GeneratorExp elt [⟨tg, iter, [], 0⟩] scope gpos) 0 (.ref it) .none (gEnv X scope C code)))

section
variable {X : Cx} {pins : List (Addr × Obj)} {σ : L2.St} {H : Hp} {s : Shared}
theorem gen_mk {c P : Addr} {elt tg iter : Expr} {gpos : Pos} {scope : Scope} {own : List (Str × Nat)} {wi : TI} {k : Nat} {Q' : Value → Shared → Prop} {R : It → Hp → Prop}
    (hr : Room k X.A) (TB : TabB X.base X.mg c P) (hcode : X.env.code = .ref c) (S : GsOk scope) (ok : BlkOk X.N X.env.scope scope own) (hi : PI X tg iter wi)
    (hs : ∀ v, genFold iter X.env v = pure v) (I : Inv X pins σ H s) (h : wi σ H fun J H1 => TabG H1 P ∧ R J H1)
    (hQ : ∀ J H1 H2 it fp tn s4 s5 C a code g x y, R J H1 → Made X pins σ elt tg iter scope gpos P J H1 H2 it fp tn s4 s5 C a code g x y → Q' (.ref a) s5) :
    wpAny (model X.prog X.w) X.A (eval (.GeneratorExp elt [⟨tg, iter, [], 0⟩] scope gpos) X.env) Q' X.xe s := by
  have hfree : ∀ y ∈ scope.names, y.2 = .free → ∃ c, X.env.cells.lookup y.1 = some c := fun y hy e => (ok.free y hy e).elim (fun k => I.ok.has _ (.inl k)) fun k => I.ok.has _ (.inr k)
  refine wpAny_GeneratorExp_make S.co (closure_ok hfree) S.cell S.dot ok.kind (by have := hr.dp; omega) ?_ hs
  refine thn (hi.run pins s σ H _ I h) fun xv s1 hx => thn hx fun itv s2 h2 => ?_
  obtain ⟨it, fp, tn, J, H1, rfl, I2, T, st2, f2, ⟨ps, hP, ht⟩, q⟩ := h2
  have hPs : s2.heap.get? P = some { cls := .none, data := .fields ps } := I2.hok P _ hP
  have cd : PySem.W.CodeHd s2.heap c P := TB.code.keeps fun b u e => I2.bk b u e
  have cont : ∀ (code : Value) (h3 : Heap) (tk : Nat) (more : Array Value), Heap.ExtBut P s2.heap h3 → s2.heap.objs.size ≤ h3.objs.size → h3.get? P = some { cls := .none, data := .fields (ps ++ more) } → TriplesOk (ps ++ more).toList →
      wpAny (model X.prog X.w) X.A (builtinsFor X.env.globals X.env.builtins) (fun bi s₄ =>
        ∀ h', h'.Ns s₄.heap.objs.size (fun y => if y = ".0" then some (Value.ref it) else none) → Heap.SameBut s₄.heap.objs.size (s₄.heap.push { cls := .type "frame", data := .dict #[] }) h' →
          Q' (.ref h'.objs.size) { s₄ with
            gens := s₄.gens.push (.fresh (.compStart (.GeneratorExp elt [⟨tg, iter, [], 0⟩] scope gpos) 0 (.ref it) .none (genEnv scope (cloFrom X.env.cells scope.names []) s₄.heap.objs.size code bi X.env))),
            toks := s₄.toks + 1 + 1 + 1,
            heap := h'.push { cls := .type "generator", data := .fields #[.int s₄.gens.size 0, .str "<genexpr>" (s₄.toks + 1), .str (X.env.qual ++ "<genexpr>") (s₄.toks + 1 + 1)] } }) X.xe { s2 with heap := h3, toks := tk } := by
    intro code h3 tk more hx hsz hP3 ht3
    obtain ⟨bm, ob, e1, e2, e3, e4, e5, e6, e7, e8⟩ := TB.bm
    have keep3 : ∀ b u, b ≠ P → s2.heap.get? b = some u → h3.get? b = some u := fun b u hb e => hx b u hb e
    refine wpAny_builtinsFor (m := X.mg) (by rw [I2.ok.glob]; exact (I2.mod.glob.keeps I2.bk).extBut hx TB.gP) e1 e2 (keep3 _ _ e4 (I2.bk _ _ e5)) e6 e7 e8 ?_
    intro h' hns hsb
    have I4 := inv_tab (more := more) (h' := h3) (g' := s2.gens) (d' := s2.drawn) (t' := tk) I2 hP keep3 hP3 I2.bare
    have old : ∀ b u, h3.get? b = some u → h'.get? b = some u := fun b u e => hsb.extBut b u (Nat.ne_of_lt (Heap.lt_size e)) (Heap.get?_push_of_some _ e)
    have hsz' : h'.objs.size = h3.objs.size + 1 := by rw [hsb.1, Heap.size_push]
    refine hQ J H1 (upd H1 P (.tbl (ps ++ more))) it fp tn { s2 with heap := h3, toks := tk } _ h3.objs.size _ code s2.gens.size _ _ q
      ⟨⟨⟨_, upd_same, ht3⟩, fun b hb => upd_ne hb⟩, I4, T, ?_, fun b hb => ⟨?_, ?_⟩, rfl, fun b o e => Heap.get?_push_of_some _ (old b o e), hns.keeps fun b o e => Heap.get?_push_of_some _ e, rfl, I2.bare.push rfl, Heap.get?_push_size _ rfl, ?_, ?_⟩
    · refine T.keep _ _ _ st2 fun b hb o e => keep3 b o (fun z => ?_) e
      have z2 := (f2 b hb).1
      rw [z, hP] at z2; cases z2
    · refine ⟨?_, (f2 b hb).2⟩
      have nb : b ≠ P := fun z => by
        have z2 := (f2 b hb).1
        rw [z, hP] at z2; cases z2
      rw [upd_ne nb]; exact (f2 b hb).1
    · obtain ⟨o, e, _⟩ := T.obj _ _ st2 b hb
      exact Nat.lt_of_lt_of_le (Heap.lt_size e) hsz
    · show h3.objs.size < h'.objs.size
      omega
    · show (s2.gens.push _)[s2.gens.size]? = _
      rw [Array.getElem?_push_size]
  refine ⟨I2.nolimit, ?_⟩
  cases hf : codeAmong gpos ps.toList with
  | none =>
    refine wpAny_genexprCodeX hcode (cd.code hPs ht) (cd.tab hPs) hf fun c' h' tk hx hge hlt hco' _ htab' _ => ?_
    obtain ⟨o1, vs, f1, tf, fl, tg', inF, tx, tt, op, _, _, _, _, _, _, _, _, _, htr, _⟩ := hco'
    exact cont _ h' tk _ hx (Nat.le_trans hge (Nat.le_of_lt hlt)) htab'.2 htr
  | some cv =>
    refine wpAny_genexprCode_hit hcode (cd.code hPs ht) hf ?_
    have z : ps ++ #[] = ps := by simp
    exact cont cv s2.heap s2.toks #[] (Heap.ExtBut.refl _ _) (Nat.le_refl _) (by rw [z]; exact hPs) (by rw [z]; exact ht)
end

/-! ### all, any: one item after another -/
section
variable {prog : Program} {w : World} {A : Around} {R : Result → Shared → Prop} {a : Addr} {g : Nat} {St : Nat → Shared → Prop} {En : Shared → Prop} {Yl : Nat → Value → Shared → Prop}
theorem allG_loop (hh : A.handled = none) (hd : A.in1.depth < recursionLimit)
    (hen : ∀ s₁ h', En s₁ → (∀ b o, s₁.heap.get? b = some o → h'.get? b = some o) → R (.ok (.ret (.bool true))) { s₁.setGen g .finished with heap := h' })
    (hyl : ∀ m v s₁ gs', gs'.bare = true → Yl m v s₁ → (v = .bool false ∧ R (.ok (.ret (.bool false))) (s₁.setGen g gs')) ∨
      (v = .bool true ∧ (s₁.setGen g gs').heap.NoLimit ∧ (s₁.setGen g gs').heap.IsGen a g ∧ ∃ m', m' < m ∧ St m' ((s₁.setGen g gs').setGen g .running))) :
    ∀ (n : Nat) (s : Shared), s.heap.NoLimit → s.heap.IsGen a g →
      (∃ gs, s.gens[g]? = some gs ∧ gs.Goes (model prog w) A.in1.in1 (fun _ _ r s₁ => r = .ok .next ∧ En s₁) (protoG St Yl) n (.send .none) (s.setGen g .running)) →
      codeAny (model prog w) A (.builtin "all.loop" ⟨[.ref a], []⟩) R s := by
  intro n
  induction n with
  | zero =>
    rintro s hl hg ⟨gs, hgs, hgo⟩
    refine codeAny_builtin F.entry_all_loop ?_
    rw [Around.under_plainId F.plain_all_loop _]
    show wpAny _ A.in1 (pyNext (.ref a) >>= _) _ _ s
    refine wpAny_bind (wpAny_pyNext_genexpQ (P := fun _ _ s₁ => En s₁) hh hl hd hg hgs hgo (fun v s₁ gs' hb hY => ?_) (fun s₁ hP h' hk => ?_))
    · obtain ⟨⟨m, hm, hy⟩, _⟩ := hY
      rcases hyl m v s₁ gs' hb hy with ⟨rfl, hR⟩ | ⟨_, _, _, m', hm', _⟩
      · refine wpAny_bind (wpAny_holding (wpAny_truthy_bool ?_))
        refine wpAny_bind (wpAny_letGo ?_)
        simp only [Bool.false_eq_true, if_false]
        exact wpAny_bind (wpAny_rule (wpAny_pure hR))
      · omega
    · exact wpAny_bind (wpAny_rule (wpAny_pure (hen s₁ h' hP hk)))
  | succ n ih =>
    rintro s hl hg ⟨gs, hgs, hgo⟩
    refine codeAny_builtin F.entry_all_loop ?_
    rw [Around.under_plainId F.plain_all_loop _]
    show wpAny _ A.in1 (pyNext (.ref a) >>= _) _ _ s
    have hsz : g + 1 ≤ s.gens.size := by
      rcases Nat.lt_or_ge g s.gens.size with z | z
      · exact z
      · rw [Array.getElem?_eq_none z] at hgs; cases hgs
    refine wpAny_bind (wpAny_gsz hsz (wpAny_pyNext_genexpQ (P := fun _ _ s₁ => En s₁) hh hl hd hg hgs hgo (fun v s₁ gs' hb hY hn => ?_) (fun s₁ hP h' hk _ => ?_)))
    · obtain ⟨⟨m, hm, hy⟩, hres⟩ := hY
      rcases hyl m v s₁ gs' hb hy with ⟨rfl, hR⟩ | ⟨rfl, hl', hg', m', hm', hst⟩
      · refine wpAny_bind (wpAny_holding (wpAny_truthy_bool ?_))
        refine wpAny_bind (wpAny_letGo ?_)
        simp only [Bool.false_eq_true, if_false]
        exact wpAny_bind (wpAny_rule (wpAny_pure hR))
      · refine wpAny_bind (wpAny_holding (wpAny_truthy_bool ?_))
        refine wpAny_bind (wpAny_letGo ?_)
        simp only [if_true]
        have hm : m ≤ n := hm
        refine wpAny_pure ⟨plainId_quiet F.plain_all_loop _, ih _ hl' hg' ⟨gs', ?_, hres _ m' (by omega) hst⟩⟩
        have hn' : g < s₁.gens.size := by
          rw [setGen_size] at hn; exact hn
        show (s₁.gens.setIfInBounds g gs')[g]? = some gs'
        rw [Array.getElem?_setIfInBounds_self, if_pos hn']
    · exact wpAny_bind (wpAny_rule (wpAny_pure (hen s₁ h' hP hk)))
end
end My

set_option Elab.async false
set_option linter.all false
set_option maxRecDepth 100000
set_option maxHeartbeats 2000000
namespace My
open PySem PySem.Spec PyProof.Rows L2 GxR GenW

/-- the around of the generator's frame, asked for by all or any -/
abbrev gA (X : Cx) (elt tg iter : Expr) (scope : Scope) (gpos : Pos) (it : Addr) (C : Addr) (code : Value) : Around :=
  X.A.in1.in1.over (.compLoop (.GeneratorExp elt [⟨tg, iter, [], 0⟩] scope gpos) 0 (.ref it) .none (gEnv X scope C code)) []
theorem gA_room {X : Cx} {elt tg iter : Expr} {scope : Scope} {gpos : Pos} {it C : Addr} {code : Value} {k : Nat} (hr : Room (k + 1) X.A) : Room k (gA X elt tg iter scope gpos it C code) := by
  have h1 : (gA X elt tg iter scope gpos it C code).depth = X.A.depth + 1 := rfl
  have h2 : (gA X elt tg iter scope gpos it C code).units ≤ X.A.units + 16 := by
    show X.A.in1.in1.units + _ + _ ≤ _
    have : X.A.in1.in1.units ≤ X.A.units + 8 := by
      first
        | exact Nat.le_add_right _ _
        | (show X.A.units + _ + _ ≤ _; omega)
    show X.A.in1.in1.units + 0 + 3 ≤ _
    omega
  exact ⟨hr.hd, by have := hr.dp; omega, by have := hr.un; omega⟩
theorem gA_frames {X : Cx} {elt tg iter : Expr} {scope : Scope} {gpos : Pos} {it C : Addr} {code : Value} (h : X.A.frames = some X.stack) :
    (gA X elt tg iter scope gpos it C code).frames = some (gEnv X scope C code :: X.stack) := by
  have e : (gA X elt tg iter scope gpos it C code).frames = pushEnvs [gEnv X scope C code] (pushEnvs [] X.A.frames) := rfl
  rw [e, h]; rfl

/-- all(e for tg in iter) -/
def tAllG (P : Addr) (wi : TI) (g : TG) (te : TE) (vs : List Nat) : TE := fun σ H Q => wi σ H fun J H1 => TabG H1 P ∧ ∀ H2, Tabbed P H1 H2 →
  ∃ W : Nat → Nat → Hp → Prop, (∃ m, W 0 m H2) ∧ ∀ i m H, W i m H → (J.stop i H ∧ Q (.bl true) H) ∨
    (J.go i H ∧ ∃ Nx : Hp → Prop, (∀ H', Nx H' → ∃ m', m' < m ∧ W (i + 1) m' H') ∧ ∀ x H', J.yld i H x H' → g x (wipe σ vs) H' fun σ2 H2 => wipe σ2 vs = wipe σ vs ∧
      te σ2 H2 fun y H3 => ∃ b, y = .bl b ∧ if b = true then Nx H3 else Q (.bl false) H3)

section
variable {X : Cx}
theorem pe_allG {c P : Addr} {elt tg iter : Expr} {p pos gpos : Pos} {scope : Scope} {own : List (Str × Nat)} {wi : TI} {g : TG} {te : TE} {k : Nat}
    (hc : X.calm = true) (hN : X.N.Nodup) (hr : Room (k + 1) X.A) (hgl : Gl X "all") (hm : X.mg "all" = none) (TB : TabB X.base X.mg c P) (hcode : X.env.code = .ref c)
    (S : GsOk scope) (ok : BlkOk X.N X.env.scope scope own) (hi : PI X tg iter wi)
    (hg : ∀ A' s H C code fp pn, PG (gcx X A' s H (gEnv X scope C code) fp pn) tg g)
    (he : ∀ A' s H C code fp pn, Room k A' → PE (gcx X A' s H (gEnv X scope C code) fp pn) elt te)
    (hs : ∀ v, genFold iter X.env v = pure v := by intro _; rfl)
    (h1 : starEach [.GeneratorExp elt [⟨tg, iter, [], 0⟩] scope gpos] X.env = (false, eval (.GeneratorExp elt [⟨tg, iter, [], 0⟩] scope gpos) X.env) :: starEach [] X.env := by rfl) :
    PE X (.Call (.Name "all" p) [.GeneratorExp elt [⟨tg, iter, [], 0⟩] scope gpos] [] pos) (tAllG P wi g te (own.map (·.2))) := by
  refine ⟨fun pins s σ H Q I h => ?_⟩
  refine wpAny_Call_Name_kw (ld_blt I hgl hm boot_all ?_)
  refine PyProof.Rows.callWith_builtin1 ?_ h1 (by rfl)
  rw [h1]
  show wpAny _ _ (spliced ((false, eval (.GeneratorExp elt [⟨tg, iter, [], 0⟩] scope gpos) X.env) :: backTo pos (starEach [] X.env))) _ _ s
  refine Calls.spliced_cons (gen_mk hr TB hcode S ok hi hs I h fun J H1 H2 it fp tn s4 s5 C a code gi x y q M => ?_)
  refine Calls.spliced_nil ?_
  obtain ⟨W, ⟨m0, w0⟩, turn⟩ := q H2 M.tab
  have hX : X.A.handled = none := M.inv.ok.hd hc
  have I5 : Inv (gcx X (gA X elt tg iter scope gpos it C code) s4 H2 (gEnv X scope C code) fp [(a, genObj gi x y)]) [] (wipe σ (own.map (·.2))) H2 s5 :=
    gen_inv M.inv ok hN S M.fp M.c hX (gA_frames M.inv.ok.frames) M.kp M.ns M.os M.bare fun p hp => by
      rw [List.mem_singleton.mp hp]
      exact ⟨M.obj, M.lt, fun v e => by cases e⟩
  have pg := hg (gA X elt tg iter scope gpos it C code) s4 H2 C code fp [(a, genObj gi x y)]
  have pe := he (gA X elt tg iter scope gpos it C code) s4 H2 C code fp [(a, genObj gi x y)] (gA_room hr)
  have T := M.tu
  generalize hY : gcx X (gA X elt tg iter scope gpos it C code) s4 H2 (gEnv X scope C code) fp [(a, genObj gi x y)] = Y at I5 pg pe
  have stat : ∀ {σ' : L2.St} {H' : Hp} {s' : Shared}, Inv Y [] σ' H' s' → (∀ b ∈ fp, H' b = none) → ∀ b ∈ fp, FpOk Y [] H' b := fun {σ' H' s'} I' hn b hb => by
    subst hY
    refine ⟨hn b hb, (I'.ok.exf b hb).1, I'.ok.exfs b hb, .inl hb, fun x c e => (I'.ok.exf b hb).2 x c e, fun p hp => ?_⟩
    have hp : p ∈ [(a, genObj gi x y)] ++ ([] : List (Addr × Obj)) := hp
    rw [List.append_nil] at hp
    rw [List.mem_singleton.mp hp]
    have h2 := (M.fp b hb).2
    have h3 := M.lt
    exact Nat.ne_of_gt (Nat.lt_trans h2 h3)
  have obj : ∀ {σ' : L2.St} {H' : Hp} {s' : Shared}, Inv Y [] σ' H' s' → s'.heap.IsGen a gi := fun {σ' H' s'} I' => by
    subst hY
    exact ⟨_, x, y, (I'.pin (a, genObj gi x y) (List.mem_append_left _ (List.mem_singleton.mpr rfl))).1, rfl, rfl, rfl⟩
  have back : ∀ {σ' : L2.St} {H' : Hp} {s' : Shared}, Inv Y [] σ' H' s' → Inv X pins σ H' s' := fun {σ' H' s'} I' => by
    subst hY
    exact M.inv.call' (ch := fp) I'.os I'.base I'.hok I'.bare fun b hb => ⟨(M.fp b hb).1.2.2.2.1, (M.fp b hb).1.2.1, (M.fp b hb).1.2.2.2.2.1, (M.fp b hb).1.2.2.2.2.2⟩
  have seg := seg_loopG (prog := X.prog) (w := X.w) (A := X.A.in1.in1) (elt := elt) (tg := tg) (iter := iter) (scope := scope) (pos := gpos) (it := it) (cenv := gEnv X scope C code) S.co
    (fun m s => ∃ i H', Inv Y [] (wipe σ (own.map (·.2))) H' s ∧ tn i s.heap ∧ (∀ b ∈ fp, H' b = none) ∧ W i m H')
    (fun s => ∃ H', Inv Y [] (wipe σ (own.map (·.2))) H' s ∧ Q (.bl true) H')
    (fun m v s => ∃ i H' b, v = .bool b ∧ Inv Y [] (wipe σ (own.map (·.2))) H' s ∧ tn i s.heap ∧ (∀ b ∈ fp, H' b = none) ∧ if b = true then ∃ m', m' < m ∧ W i m' H' else Q (.bl false) H') ?_
  · have hl5 : s5.heap.NoLimit := I5.nolimit
    refine call_function_tree F.kind_all F.plain_all F.entry_all (F.args_all1 _) ?_
    unfold Builtin.«all»
    refine wpAny_bind (m := oneArg "all" _) (wpAny_pure ?_)
    refine wpAny_bind (wpAny_pyIter_gen (obj I5) ?_)
    refine wpAny_pure ⟨plainId_quiet F.plain_all_loop _, ?_⟩
    refine allG_loop (g := gi) (n := m0 + 1) (St := fun m s => ∃ i H', Inv Y [] (wipe σ (own.map (·.2))) H' s ∧ tn i s.heap ∧ (∀ b ∈ fp, H' b = none) ∧ W i m H')
      (En := fun s => ∃ H', Inv Y [] (wipe σ (own.map (·.2))) H' s ∧ Q (.bl true) H')
      (Yl := fun m v s => ∃ i H' b, v = .bool b ∧ Inv Y [] (wipe σ (own.map (·.2))) H' s ∧ tn i s.heap ∧ (∀ b ∈ fp, H' b = none) ∧ if b = true then ∃ m', m' < m ∧ W i m' H' else Q (.bl false) H')
      hX (by have := hr.dp; show X.A.depth < _; omega) ?_ ?_ s5 hl5 (obj I5) ⟨_, M.gs, rfl, ?_⟩
    · rintro s₁ h' ⟨H', I', qq⟩ hk
      have I6 := inv_setGen (g := gi) (x := .finished) I' rfl
      have I7 := (back I6).kept (t' := s₁.toks) hk
      exact ⟨.bl true, H', I7, rfl, qq⟩
    · rintro m v s₁ gs' hb ⟨i, H', b, rfl, I', st', n', q'⟩
      have I6 := inv_setGen (g := gi) I' hb
      cases b with
      | false => exact .inl ⟨rfl, .bl false, H', back I6, rfl, q'⟩
      | true =>
        obtain ⟨m', hm', w'⟩ : ∃ m', m' < m ∧ W i m' H' := q'
        exact .inr ⟨rfl, I6.nolimit, obj I6, m', hm', i, H', inv_setGen I6 rfl, st', n', w'⟩
    · -- the start
      have I6 : Inv Y [] (wipe σ (own.map (·.2))) H2 (s5.setGen gi .running) := inv_setGen I5 rfl
      have st5 : tn 0 (s5.setGen gi .running).heap := T.keep _ _ _ M.st fun b _ o e => M.kp b o e
      have loop := seg (m0 + 1) m0 (s5.setGen gi .running) (s5.setGen gi .running) (Nat.lt_succ_self _) ⟨0, H2, I6, st5, fun b hb => (M.fp b hb).1.1, w0⟩
      show Seg _ X.A.in1.in1 _ _ _ _ _ ((compStart (.GeneratorExp elt [⟨tg, iter, [], 0⟩] scope gpos) 0 (.ref it) .none (gEnv X scope C code)).onRaise (leaving (gEnv X scope C code))) [] _
      unfold compStart
      rw [Sem.onRaise_eq_wrap]
      show Seg _ X.A.in1.in1 _ _ _ _ _ ((ask >>= _).wrap _ _ _ _) [] _
      refine seg_bind_wrap (wpAny_askSetting ?_)
      split
      · exact seg_again rfl loop
      · refine seg_bind_wrap (wpAny_rule ?_)
        show Seg _ X.A.in1.in1 _ _ _ _ _ ((standAt iter.pos >>= _).wrap _ _ _ _) [] _
        exact seg_bind_wrap (wpAny_standAt (seg_bind_wrap (T.self _ 0 _ _ _ st5 (seg_again rfl loop))))
  · rintro m s6 ⟨i, H', I', st', n', w'⟩
    rcases turn i m H' w' with ⟨stop, qq⟩ | ⟨go, Nx, hNx, step⟩
    · have td := T.done Y (by subst hY; rfl) (by subst hY; rfl) (by subst hY; rfl) (by subst hY; rfl) i [] s6 _ H' (fun _ _ => False) I' (stat I' n') st' stop
      subst hY
      refine wpAny_mono td (fun r s7 ⟨hr7, I7⟩ => ?_) fun _ _ e => e
      subst hr7
      exact ⟨H', I7, qq⟩
    · have ti := T.item Y (by subst hY; rfl) (by subst hY; rfl) (by subst hY; rfl) (by subst hY; rfl) i [] s6 _ H' (fun _ _ => False) I' (stat I' n') st' go
      subst hY
      refine wpAny_mono ti (fun r s7 ⟨u, hr7, h7⟩ => ?_) fun _ _ e => e
      subst hr7
      refine wpAny_mono h7 (fun _ s8 ⟨xv, H8, I8, r8, y8, st8, n8⟩ => ?_) fun _ _ e => e
      have I8' := I8.pinned (stat I8 n8) (T.obj _ _ st8)
      refine wpAny_mono (pg.run _ s8 _ H8 xv u _ I8' r8 (step xv H8 y8)) (fun _ s9 ⟨σ9, H9, I9, hw9, q9⟩ => ?_) fun _ _ e => e
      refine wpAny_mono (pe.run _ s9 σ9 H9 _ I9 q9) (fun v s10 ⟨yv, H10, I10, r10, b, eb, q10⟩ => ?_) fun _ _ e => e
      subst eb
      cases r10
      have pin' : ∀ b ∈ fp, ∀ o, s8.heap.get? b = some o → s10.heap.get? b = some o ∧ H10 b = none := fun b hb o e =>
        let z := I10.pin (b, o) (List.mem_append_right _ (List.mem_append_right _ (mem_pinsAt hb e)))
        ⟨z.1, z.2.1⟩
      have hl : (wipe σ (own.map (·.2))).length = σ9.length := by rw [← hw9, wipe_length]
      refine ⟨i + 1, H10, b, rfl, (I10.unpinned (pins := [])).weak hl (fun j v e => ?_), T.keep _ _ _ st8 fun b hb o e => (pin' b hb o e).1, fun b hb => ?_, ?_⟩
      · rw [← hw9] at e
        exact (wipe_some e).1
      · obtain ⟨o, e, _⟩ := T.obj _ _ st8 b hb
        exact (pin' b hb o e).2
      · cases b with
        | true => exact hNx H10 q10
        | false => exact q10
end
end My

set_option Elab.async false
set_option linter.all false
set_option maxRecDepth 100000
namespace My
open PySem PySem.Spec PyProof.Rows L2 GxR

/-! ### a def whose code object is known -/
section
variable {P : Program} {w : World} {K : PySem.W.Frag} {mg : Str → Option Value} {base : Heap}
theorem okC {x qual : Str} {st : Stmt} {f c : Addr} {fd : FuncData} {N ps : List Str} {k : Nat} {sp : Sp} (F : Fun K x qual st f fd) (hc : fd.code = .ref c) (S : FnScope N ps (defScope st))
    (len : ∀ vs H Q E, sp vs H Q E → vs.length = ps.length)
    (hbody : ∀ (A : Around) (outer : List Env) (s : Shared) (H : Hp) (vs : List V) (Q : VK) (E : XK), Room k (A.deeper (envOfC qual (defScope st) s.heap.objs.size f (.ref c))) → sp vs H Q E →
      ∃ t, PSs (cxOf CX0 P w K mg base N qual (defScope st) f (.ref c) A outer s H E).nox (defBody st) t ∧ t { nx := fun _ H' => Q .non H', rt := Q } (start N vs) H) : FnOk P w K mg base CX0 (k + 1) f fd ps sp := by
  obtain ⟨oc, od, kV, doc, pm, an, cdv, ct, osl, rfl, lk, hcd⟩ := F.ex
  have e : cdv = .ref c := hc
  subst e
  refine fn_of lk hcd S len fun A outer s H vs Q E hr hsp => ?_
  obtain ⟨t, h, q⟩ := hbody A outer s H vs Q E hr hsp
  exact ⟨t, h.nox, q⟩
theorem fun_of {x qual : Str} {st : Stmt} {f : Addr} {fd : FuncData} {kws : List (Str × V)} (F : FunD K x qual (defArgs st) (defBody st) (defScope st) [] kws f fd) : Fun K x qual st f fd := by
  obtain ⟨oc, od, dV, kV, doc, pm, an, cdv, ct, osl, rfl, lk, hcd, hD, _⟩ := F.ex
  rcases hD with ⟨_, rfl⟩ | ⟨e, _⟩
  · exact ⟨⟨oc, od, kV, doc, pm, an, cdv, ct, osl, rfl, lk, hcd⟩, F.kp⟩
  · exact absurd rfl e
end

/-! ### a < b < c < d -/
section
variable {X : Cx} {a b c d : Expr} {ta tb tc td : TE} {pos : Pos}
def tChain3 (r1 r2 r3 : R2) (ta tb tc td : TE) : TE := fun σ H Q => ta σ H fun x H1 => tb σ H1 fun y H2 => r1 x y H2 fun z H3 => ∃ k, z = .bl k ∧
  (if k = true then tc σ H3 fun v H4 => r2 y v H4 fun z H5 => ∃ k, z = .bl k ∧ (if k = true then td σ H5 fun u H6 => r3 v u H6 Q else Q (.bl false) H5) else Q (.bl false) H3)
theorem pe_chain3 {o1 o2 o3 : CmpOp} {r1 r2 r3 : R2} (h1 : OpR X (compareOp o1) r1) (h2 : OpR X (compareOp o2) r2) (h3 : OpR X (compareOp o3) r3) (ha : PE X a ta) (hb : PE X b tb) (hc : PE X c tc) (hd : PE X d td)
    (hm : lastMarks [o1, o2, o3] [b, c, d] = false := by with_unfolding_all rfl) : PE X (.Compare a [o1, o2, o3] [b, c, d] pos) (tChain3 r1 r2 r3 ta tb tc td) := by
  refine ⟨fun pins s σ H Q I h => ?_⟩
  refine Compare_chain (thn (ha.run pins s σ H _ I h) fun v s1 ⟨x, H1, I1, q1, p1⟩ => chain_link (thn (hb.run pins s1 σ H1 _ I1 p1) fun u s2 ⟨y, H2, I2, q2, p2⟩ =>
    thn (h1 pins s2 σ H2 x y v u _ I2 q1 q2 p2) fun e s3 ⟨z, H3, I3, q3, k, ek, p3⟩ => ?_)) hm
  subst ek
  cases q3
  refine wpAny_truthy_bool ?_
  cases k with
  | false => exact ite_ff ⟨.bl false, H3, I3, rfl, p3⟩
  | true =>
    refine ite_tt (chain_link (thn (hc.run pins s3 σ H3 _ I3 p3) fun u4 s4 ⟨y4, H4, I4, q4, p4⟩ => thn (h2 pins s4 σ H4 y y4 u u4 _ I4 q2 q4 p4) fun e5 s5 ⟨z5, H5, I5, q5, k5, ek5, p5⟩ => ?_))
    subst ek5
    cases q5
    refine wpAny_truthy_bool ?_
    cases k5 with
    | false => exact ite_ff ⟨.bl false, H5, I5, rfl, p5⟩
    | true => exact ite_tt (chain_last (thn (hd.run pins s5 σ H5 _ I5 p5) fun u6 s6 ⟨y6, H6, I6, q6, p6⟩ => h3 pins s6 σ H6 y4 y6 u4 u6 Q I6 q4 q6 p6))
end

/-! ### all over what is walked -/
theorem allG_it {J : It} {n : Nat} {G : Hp → Prop} {Y : Nat → Hp → V → Hp → Prop} (w : Walk J n G Y) {g : TG} {te : TE} {vs : List Nat} {σ : L2.St} {H0 : Hp} {QT QF : Hp → Prop} (Pv : Nat → Hp → Prop) (h0 : Pv 0 H0) (hG : ∀ i H, i ≤ n → Pv i H → G H)
    (hs : ∀ i x H H', i < n → Pv i H → Y i H x H' → g x (wipe σ vs) H' fun σ2 H2 => wipe σ2 vs = wipe σ vs ∧ te σ2 H2 fun y H3 => ∃ b, y = .bl b ∧ if b = true then Pv (i + 1) H3 else QF H3)
    (hd : ∀ H, Pv n H → QT H) :
    ∃ W : Nat → Nat → Hp → Prop, (∃ m, W 0 m H0) ∧ ∀ i m H, W i m H → (J.stop i H ∧ QT H) ∨
      (J.go i H ∧ ∃ Nx : Hp → Prop, (∀ H', Nx H' → ∃ m', m' < m ∧ W (i + 1) m' H') ∧ ∀ x H', J.yld i H x H' → g x (wipe σ vs) H' fun σ2 H2 => wipe σ2 vs = wipe σ vs ∧
        te σ2 H2 fun y H3 => ∃ b, y = .bl b ∧ if b = true then Nx H3 else QF H3) := by
  refine ⟨fun i m H => m = n - i ∧ i ≤ n ∧ Pv i H, ⟨n, rfl, Nat.zero_le _, h0⟩, ?_⟩
  rintro i m H ⟨rfl, hi, p⟩
  have q := hG i H hi p
  by_cases hlt : i < n
  · exact .inr ⟨w.goes i H hlt q, Pv (i + 1), fun H' p' => ⟨n - (i + 1), by omega, rfl, hlt, p'⟩, fun x H' y => hs i x H H' hlt p (w.yields i H x H' hlt q y)⟩
  · have e : i = n := by omega
    subst e
    exact .inl ⟨w.stops H q, hd H p⟩
theorem walk_zipT {K : PySem.W.Frag} {a b : Addr} {xs ys : List V} {n : Nat} (hn : n = min xs.length ys.length) :
    Walk (RZ.ItzT K a b) n (fun H => SqT K H a xs ∧ SqT K H b ys) (YPair (fun i => xs[i]?) (fun i => ys[i]?)) := by
  subst hn
  refine ⟨fun i _ hi q => ?_, fun _ q => ⟨xs, ys, q.1, q.2, by omega⟩, fun i H v H' _ q y => ?_⟩
  · have h1 : i < xs.length := by omega
    have h2 : i < ys.length := by omega
    exact ⟨xs, ys, xs[i], ys[i], q.1, q.2, List.getElem?_eq_getElem h1, List.getElem?_eq_getElem h2⟩
  · obtain ⟨T, x, z, h1, h2, h3, h4, h5⟩ := y
    exact ⟨T, x, z, h1, h2, h3, h4 xs q.1, h5 ys q.2⟩
theorem cut1 (xs : List V) : cutV xs (some 1) none = xs.drop 1 := by
  unfold cutV
  rw [show HT.sIx xs.length 0 (some 1) = min 1 xs.length from HT.sIx_nat xs.length 0 1, HT.sIx_none]
  cases xs with
  | nil => rfl
  | cons x r =>
    rw [show min 1 (x :: r).length = 1 by rw [List.length_cons]; omega]
    show (List.take ((x :: r).length - 1) r) = r
    rw [List.length_cons, Nat.add_sub_cancel]
    exact List.take_length
theorem lex_of {s t : Int × Int} (h : ltT s t) : HT.lexLt [s.1, s.2] [t.1, t.2] = true := by
  rw [HT.lexLt_cons]
  rcases h with h | ⟨h, k⟩
  · rw [if_neg (by omega)]; exact decide_eq_true h
  · rw [if_pos h, HT.lexLt_cons, if_neg (by omega)]; exact decide_eq_true k
end My

set_option Elab.async false
set_option linter.all false
set_option maxRecDepth 100000
namespace My
open PySem PySem.Spec PyProof.Rows L2
def topS (i : Nat) : Stmt := PySem.Challenge.pw_pointedties_k05_webs_put_for_places.main.body.getD i (.Pass ⟨0, 0, 0, 0⟩)
section
variable {P : Program} {w : World} {K : PySem.W.Frag} {mg : Str → Option Value} {base : Heap}

/-! ### _law_mix -/
abbrev s__law_mix : Stmt := topS 11
abbrev N__law_mix : List Str := ["_law_cell", "_law_k", "_law_m"]
theorem sc__law_mix : FnScope N__law_mix ["_law_cell", "_law_k"] (defScope s__law_mix) := ⟨rfl, rfl, rfl, by decide +kernel, rfl, by decide +kernel, by decide +kernel⟩
def sp_mix : Sp := fun vs H Q _ => ∃ c k : Int, vs = [.int c, .int k] ∧ -(2 ^ 60) < k ∧ k < 2 ^ 60 ∧
  ∀ r : Int, 0 ≤ r → Q (.int r) H
theorem ok_mix {f : Addr} {fd : FuncData} (F : Fun K "_law_mix" "_law_mix" s__law_mix f fd) :
    FnOk P w K mg base CX0 1 f fd ["_law_cell", "_law_k"] sp_mix := by
  refine F.ok sc__law_mix (fun vs H Q E h => ?_) (fun cdv A outer s H vs Q E hr h => ?_)
  · obtain ⟨c, k, rfl, _⟩ := h; rfl
  · obtain ⟨c, k, rfl, h1, h2, q⟩ := h
    refine ⟨_, (pss_cons (ps_set (i := 2) sc__law_mix.nd rfl (by first | exact Or.inl rfl | exact Or.inr rfl) (pe_op op_mod (pe_op op_mul (pe_op op_add (pe_op op_add (pe_op op_mod (pv 0) pe_int) (pe_op op_mul (pe_op op_mul (pv 1) (pv 1)) pe_int)) pe_int) pe_int) pe_int))
    (pss_one (ps_ret (pe_op op_mod (pe_op op_mul (pv 2) (pv 2)) pe_int)))), ?_⟩
    refine ⟨_, rfl, _, _, rfl, rfl, (by decide : (0 : Int) < 2147483629), ?_⟩
    refine ⟨_, rfl, _, rfl, _, _, rfl, rfl, .inl ⟨by omega, by omega⟩, ?_⟩
    refine ⟨_, _, rfl, rfl, .inr ⟨by decide, by decide⟩, ?_⟩
    refine ⟨_, _, rfl, rfl, ?_⟩
    refine ⟨_, _, rfl, rfl, ?_⟩
    refine ⟨_, _, rfl, rfl, .inr ⟨by decide, by decide⟩, ?_⟩
    refine ⟨_, _, rfl, rfl, (by decide : (0 : Int) < 2147483647), ?_⟩
    have b1 : ∀ x : Int, 0 ≤ x % 2147483647 := fun x => Int.emod_nonneg _ (by decide)
    have b2 : ∀ x : Int, x % 2147483647 < 2147483647 := fun x => Int.emod_lt_of_pos _ (by decide)
    refine ⟨_, rfl, _, rfl, _, _, rfl, rfl, .inl ⟨by have := b1 (((c % 2147483629 + k * k * 7919) + 11) * 48271); omega, by have := b2 (((c % 2147483629 + k * k * 7919) + 11) * 48271); omega⟩, ?_⟩
    refine ⟨_, _, rfl, rfl, (by decide : (0 : Int) < 1999999973), ?_⟩
    exact q _ (Int.emod_nonneg _ (by decide))

/-! ### _law_left -/
abbrev s__law_left : Stmt := topS 12
abbrev N__law_left : List Str := ["_law_script", "_law_k", "_law_cell"]
theorem sc__law_left : FnScope N__law_left ["_law_script", "_law_k"] (defScope s__law_left) := ⟨rfl, rfl, rfl, by decide +kernel, rfl, by decide +kernel, by decide +kernel⟩
def sp_left (K : PySem.W.Frag) : Sp := fun vs H Q _ => ∃ (a : Addr) (ns : List Int) (k : Int), vs = [.ref a, .int k] ∧ SqL K H a (ns.map V.int) ∧ 0 ≤ k ∧ k < 2 ^ 60 ∧
  ∀ L H', H L = none → Same H H' → Lf H' L 0 → Q (.ref L) H'
theorem ok_left {f : Addr} {fd : FuncData} (B : Bts mg) (F : Fun K "_law_left" "_law_left" s__law_left f fd) :
    FnOk P w K mg base CX0 1 f fd ["_law_script", "_law_k"] (sp_left K) := by
  refine F.ok sc__law_left (fun vs H Q E h => ?_) (fun cdv A outer s H vs Q E hr h => ?_)
  · obtain ⟨c, k, _, rfl, _⟩ := h; rfl
  · obtain ⟨a, ns, k, rfl, hS, h1, h2, q⟩ := h
    refine ⟨_, (pss_cons (ps_set (i := 2) sc__law_left.nd rfl (by first | exact Or.inl rfl | exact Or.inr rfl) (pe_ifExp (pt_cmpR op_lt (pv 1) (pe_callB call_len_seq (by rfl) B.len (by decide +kernel) (pa_cons (pv 0) pa_nil)) (nomark _)) (pe_ix ix_list (pv 0) (pv 1) (fun _ _ => rfl)) pe_int))
    (pss_one (ps_ret (pe_lst (pa_cons (pe_op op_mul (pe_callB call_abs (by rfl) B.abs (by decide +kernel) (pa_cons (pv 2) pa_nil)) (pe_callTy call_int1 (by rfl) B.int (by decide +kernel) (pa_cons (pe_cmpR op_ge (pe_callB call_abs (by rfl) B.abs (by decide +kernel) (pa_cons (pv 2) pa_nil)) (pe_op op_pow pe_int pe_int) (nomark _)) pa_nil))) (pa_cons (pe_op op_add (pv 2) (pe_op op_mul pe_int (pv 1))) (pa_cons pe_int pa_nil))))))), ?_⟩
    have rest : ∀ x : Int, (tRet (tLst (tCons (tOp (rI CMul fun i j => .int (i * j)) (tCB (fun xs H Q => ∃ i, xs = [.int i] ∧ Q (.int (if i < 0 then -i else i)) H) (tCons (tVar 2) tNil)) (tCB (fun xs H Q => (∃ i, xs = [.int i] ∧ Q (.int i) H) ∨ ∃ k, xs = [.bl k] ∧ Q (.int (if k then 1 else 0)) H) (tCons (tOp (rI0 fun i j => .bl (decide (j ≤ i))) (tCB (fun xs H Q => ∃ i, xs = [.int i] ∧ Q (.int (if i < 0 then -i else i)) H) (tCons (tVar 2) tNil)) (tOp (rI CPow fun i j => .int (i ^ j.toNat)) (tC (.int 10)) (tC (.int 18)))) tNil))) (tCons (tOp (rI0 fun i j => .int (i + j)) (tVar 2) (tOp (rI CMul fun i j => .int (i * j)) (tC (.int 1000003)) (tVar 1))) (tCons (tC (.int 0)) tNil))))) { nx := fun _ H' => Q .non H', rt := Q } ((start N__law_left [.ref a, .int k]).set 2 (some (.int x))) H := by
      intro x
      refine ⟨_, rfl, _, rfl, ?_⟩
      refine ⟨_, rfl, _, rfl, ?_⟩
      refine ⟨_, _, rfl, rfl, ⟨by decide, by decide, by decide⟩, ?_⟩
      refine ⟨_, _, rfl, rfl, .inr ⟨_, rfl, ?_⟩⟩
      refine ⟨_, _, rfl, rfl, .inr ⟨?_, ?_⟩, ?_⟩
      · exact (bi _).1
      · exact (bi _).2.1
      refine ⟨_, rfl, _, rfl, _, _, rfl, rfl, .inl ⟨by decide, by decide⟩, ?_⟩
      refine ⟨_, _, rfl, rfl, ?_⟩
      refine ⟨by show 3 ≤ sizeLine; decide, fun p np => ?_⟩
      refine q p _ np (same_new np) ⟨_, _, _, upd_same, ?_, Int.le_refl _, Int.le_refl _⟩
      refine Int.mul_nonneg ?_ ?_
      · split <;> omega
      · exact (bi _).2.2
    refine ⟨_, rfl, _, rfl, a, _, rfl, .inl hS, _, _, rfl, rfl, _, rfl, ite2 (fun e => ?_) (fun e => ?_)⟩
    · have e := of_decide_eq_true e
      rw [List.length_map] at e
      have hk : k.toNat < ns.length := by omega
      have g : (ns.map V.int)[k.toNat]? = some (.int ns[k.toNat]) := by
        rw [List.getElem?_map, List.getElem?_eq_getElem hk]; rfl
      have g2 := atI_nat g
      rw [Int.toNat_of_nonneg h1] at g2
      refine ⟨_, rfl, _, rfl, a, _, k, _, rfl, rfl, hS, g2, ?_⟩
      exact rest _
    · exact rest 0

/-! ### _law_pick -/
abbrev s__law_pick : Stmt := topS 13
abbrev N__law_pick : List Str := ["_law_left_here", "_law_many", "_law_digit"]
theorem sc__law_pick : FnScope N__law_pick ["_law_left_here", "_law_many"] (defScope s__law_pick) := ⟨rfl, rfl, rfl, by decide +kernel, rfl, by decide +kernel, by decide +kernel⟩
def sp_pick : Sp := fun vs H Q _ => ∃ (L : Addr) (m c : Int), vs = [.ref L, .int m] ∧ Lf H L c ∧ 0 < m ∧ m < 1000000 ∧ c < 2 ^ 50 ∧
  ∀ (r : Int) (H' : Hp), 0 ≤ r → r < m → Fr L H H' → Lf H' L (c + 1) → Q (.int r) H'
theorem ok_pick {f : Addr} {fd : FuncData} (F : Fun K "_law_pick" "_law_pick" s__law_pick f fd) (c__law_mix : Cl P w K mg base 1 "_law_mix" sp_mix) :
    FnOk P w K mg base CX0 2 f fd ["_law_left_here", "_law_many"] sp_pick := by
  refine F.ok sc__law_pick (fun vs H Q E h => ?_) (fun cdv A outer s H vs Q E hr h => ?_)
  · obtain ⟨c, k, _, rfl, _⟩ := h; rfl
  · obtain ⟨L, m, c, rfl, ⟨x, y, z, hL, hx, hz, hzc⟩, h1, h2, h3, q⟩ := h
    refine ⟨_, (pss_cons (ps_asg (pe_op op_add (pe_ix ix_list (pv 0) pe_int (fun _ _ => rfl)) pe_int) (pg_sub (pv 0) pe_int set_list))
    (pss_cons (ps_if (pt_cmpR op_gt (pe_ix ix_list (pv 0) pe_int (fun _ _ => rfl)) pe_int (nomark _)) (pss_cons (ps_set (i := 2) sc__law_pick.nd rfl (by first | exact Or.inl rfl | exact Or.inr rfl) (pe_op op_mod (pe_ix ix_list (pv 0) pe_int (fun _ _ => rfl)) (pv 1)))
      (pss_cons (ps_asg (pe_op op_fdiv (pe_ix ix_list (pv 0) pe_int (fun _ _ => rfl)) (pv 1)) (pg_sub (pv 0) pe_int set_list))
      (pss_one (ps_ret (pv 2))))) pss_nil)
    (pss_one (ps_ret (pe_op op_mod (pe_op op_fdiv (pe_c c__law_mix hr (by decide) (by rfl) (pa_cons (pe_c c__law_mix hr (by decide) (by rfl) (pa_cons (pe_ix ix_list (pv 0) pe_int (fun _ _ => rfl)) (pa_cons (pe_ix ix_list (pv 0) pe_int (fun _ _ => rfl)) pa_nil))) (pa_cons (pe_op op_add (pe_ix ix_list (pv 0) pe_int (fun _ _ => rfl)) pe_int) pa_nil))) pe_int) (pv 1)))))), ?_⟩
    refine ⟨_, rfl, L, _, _, _, rfl, rfl, SqL.of hL, rfl, _, _, rfl, rfl, ?_⟩
    refine ⟨_, rfl, L, _, _, _, rfl, rfl, hL, rfl, ?_⟩
    refine ⟨_, rfl, L, _, _, _, rfl, rfl, SqL.of upd_same, rfl, _, _, rfl, rfl, _, rfl, ite2 (fun e => ?_) (fun e => ?_)⟩
    · refine ⟨_, rfl, L, _, _, _, rfl, rfl, SqL.of upd_same, rfl, _, rfl, _, _, rfl, rfl, h1, ?_⟩
      refine ⟨_, rfl, L, _, _, _, rfl, rfl, SqL.of upd_same, rfl, _, rfl, _, _, rfl, rfl, ⟨h1, by omega⟩, ?_⟩
      refine ⟨_, rfl, L, _, _, _, rfl, rfl, upd_same, rfl, ?_⟩
      refine ⟨_, rfl, ?_⟩
      refine q _ _ (Int.emod_nonneg _ (by omega)) (Int.emod_lt_of_pos _ h1) ((Fr.refl L H).putL.putL) ⟨_, _, _, upd_same, ?_, ?_, ?_⟩
      · exact Int.ediv_nonneg hx (Int.le_of_lt h1)
      · omega
      · omega
    · refine ⟨_, rfl, L, _, _, _, rfl, rfl, SqL.of upd_same, rfl, ?_⟩
      refine ⟨_, rfl, L, _, _, _, rfl, rfl, SqL.of upd_same, rfl, ?_⟩
      refine ⟨_, _, rfl, by omega, by omega, fun r hr0 => ?_⟩
      refine ⟨_, rfl, L, _, _, _, rfl, rfl, SqL.of upd_same, rfl, _, _, rfl, rfl, ?_⟩
      refine ⟨_, _, rfl, by omega, by omega, fun r2 hr2 => ?_⟩
      refine ⟨_, _, rfl, rfl, ⟨by decide, by decide⟩, ?_⟩
      refine ⟨_, rfl, _, _, rfl, rfl, h1, ?_⟩
      exact q _ _ (Int.emod_nonneg _ (by omega)) (Int.emod_lt_of_pos _ h1) (Fr.refl L H).putL ⟨_, _, _, upd_same, hx, by omega, by omega⟩
end
end My

set_option Elab.async false
set_option linter.all false
set_option maxRecDepth 100000
namespace My
open PySem PySem.Spec PyProof.Rows L2
section
variable {P : Program} {w : World} {K : PySem.W.Frag} {mg : Str → Option Value} {base : Heap}

/-! ### _law_pairs -/
abbrev s__law_pairs : Stmt := topS 14
abbrev N__law_pairs : List Str := ["_law_many", "_law_found", "_law_a", "_law_b"]
theorem sc__law_pairs : FnScope N__law_pairs ["_law_many"] (defScope s__law_pairs) := ⟨rfl, rfl, rfl, by decide +kernel, rfl, by decide +kernel, by decide +kernel⟩
def sp_pairs : Sp := fun vs H Q _ => ∃ n : Nat, vs = [.int (n : Int)] ∧ n ≤ 100 ∧
  ∀ p vs H', H p = none → Same H H' → H' p = some (.lst vs) → Ties H' vs (pup n n) → Q (.ref p) H'
theorem ok_pairs {f : Addr} {fd : FuncData} (B : Bts mg) (F : Fun K "_law_pairs" "_law_pairs" s__law_pairs f fd) :
    FnOk P w K mg base CX0 1 f fd ["_law_many"] sp_pairs := by
  refine F.ok sc__law_pairs (fun vs H Q E h => ?_) (fun cdv A outer s H vs Q E hr h => ?_)
  · obtain ⟨n, rfl, _⟩ := h; rfl
  · obtain ⟨n, rfl, hn, q⟩ := h
    refine ⟨_, (pss_cons (ps_set (i := 1) sc__law_pairs.nd rfl (by first | exact Or.inl rfl | exact Or.inr rfl) (pe_lst pa_nil))
    (pss_cons (ps_for PassesOwn.never rfl (pi_range1 (by rfl) B.range (pa_cons (pv 0) pa_nil)) (pg_name (i := 2) sc__law_pairs.nd rfl (by first | exact Or.inl rfl | exact Or.inr rfl))
      (pss_one (ps_expr (pe_bm PySem.F.plainAttrs_list PySem.F.slot_list_extend PySem.F.type_list_extend mt_extend (pv 1) (pa_cons (pe_lc (own := [("_law_b", 3)]) (g := (gName 3)) (tt := tYes) rfl sc__law_pairs.nd (pi_range2 (by rfl) B.range (pa_cons (pe_op op_add (pv 2) pe_int) (pa_cons (pv 0) pa_nil))) (blkOk_by (own := [("_law_b", 3)]) (N := N__law_pairs) (sc := defScope s__law_pairs) (by decide +kernel)) (fun _ _ _ _ _ => (pg_name (i := 3) sc__law_pairs.nd rfl (by first | exact Or.inl rfl | exact Or.inr rfl))) (fun _ _ _ _ _ => pts_nil) (fun _ _ _ _ _ => (pe_tup (pa_cons (pv 2) (pa_cons (pv 3) pa_nil))))) pa_nil)))))
    (pss_one (ps_ret (pv 1))))), ?_⟩
    refine ⟨Nat.zero_le _, fun o no => ?_⟩
    refine ⟨_, rfl, _, rfl, by omega, by omega, ?_⟩
    refine for_range (fun i σ H1 => ∃ vs y2 y3, σ = [some (.int (n : Int)), some (.ref o), y2, y3] ∧ Same H H1 ∧ H1 o = some (.lst vs) ∧ Ties H1 vs (pup n i)) ⟨[], none, none, rfl, same_new no, upd_same, trivial⟩ ?_ ?_
    · rintro i σ H1 hi ⟨vs, y2, y3, rfl, sm, eo, hT⟩
      have hi : i < n := by omega
      refine ⟨_, rfl, .inl ⟨rfl, _, SqL.of eo⟩, ?_⟩
      refine ⟨_, rfl, _, _, rfl, rfl, _, rfl, _, _, rfl, ⟨by omega, by omega, by omega, by omega⟩, fun D nD => ?_⟩
      refine lc_range (fun j H2 => ∃ us, Same H1 H2 ∧ H2 D = some (.lst us) ∧ Ties H2 us (prow i j)) ⟨[], same_new nD, upd_same, trivial⟩ ?_ ?_
      · rintro j H2 hj ⟨us, sm2, eD, hU⟩
        refine ⟨rfl, yes ?_⟩
        refine ⟨_, rfl, _, rfl, by show 2 ≤ sizeLine; decide, fun t nt => ?_⟩
        have nDt : D ≠ t := ne_of_none eD nt
        refine ⟨us, by rw [upd_ne nDt]; exact eD, sz' (by rw [hU.len, prow_len]; omega), us ++ [.ref t], ?_, upd_same, ?_⟩
        · exact Same.put (sm2.trans (same_new nt)) nD
        · rw [prow_succ]
          have a1 : Tst (upd H2 t (.tup [.int (0 + (i : Int)), .int (0 + (i : Int) + 1 + (j : Int))])) (upd (upd H2 t (.tup [.int (0 + (i : Int)), .int (0 + (i : Int) + 1 + (j : Int))])) D (.lst (us ++ [.ref t]))) := tst_put (by rw [upd_ne nDt]; exact eD)
          refine ((hU.mono (tst_new nt)).mono a1).app (Ties.one ?_)
          rw [Int.zero_add] at a1 ⊢
          exact Tie.new.mono a1
      · rintro H2 ⟨us, sm2, eD, hU⟩
        have e : ((n : Int) - (0 + (i : Int) + 1)).toNat = n - (i + 1) := by omega
        rw [e] at hU
        have eo2 := sm2 _ _ eo
        have l1 := pup_len' hn (Nat.le_of_lt hi)
        refine ⟨o, D, vs, us, rfl, rfl, eo2, eD, sz (by rw [hT.len, hU.len, prow_len]; omega), ?_⟩
        refine ⟨vs ++ us, _, y3, rfl, Same.put (sm.trans sm2) no, upd_same, ?_⟩
        rw [pup_succ]
        exact ((hT.mono (Same.tst sm2)).app hU).mono (tst_put eo2)
    · rintro σ H1 ⟨vs, y2, y3, rfl, sm, eo, hT⟩
      rw [Int.toNat_natCast] at hT
      exact ⟨_, rfl, q o vs H1 no sm eo hT⟩

/-! ### _law_row -/
abbrev s__law_row : Stmt := topS 16
abbrev N__law_row : List Str := ["_law_left_here", "_law_many", "_law_row_here", "_law_k"]
theorem sc__law_row : FnScope N__law_row ["_law_left_here", "_law_many"] (defScope s__law_row) := ⟨rfl, rfl, rfl, by decide +kernel, rfl, by decide +kernel, by decide +kernel⟩
def sp_row : Sp := fun vs H Q _ => ∃ (L : Addr) (n : Nat) (c : Int), vs = [.ref L, .int (n : Int)] ∧ Lf H L c ∧ n ≤ 100 ∧ c < 2 ^ 49 ∧
  ∀ (p : Addr) (ns : List Int) (H' : Hp), H p = none → Fr L H H' → Lf H' L (c + n) → H' p = some (.lst (ns.map V.int)) → ns.Perm (up n) → Q (.ref p) H'
theorem ok_row {f : Addr} {fd : FuncData} (B : Bts mg) (F : Fun K "_law_row" "_law_row" s__law_row f fd) (c__law_pick : Cl P w K mg base 2 "_law_pick" sp_pick) :
    FnOk P w K mg base CX0 3 f fd ["_law_left_here", "_law_many"] sp_row := by
  refine F.ok sc__law_row (fun vs H Q E h => ?_) (fun cdv A outer s H vs Q E hr h => ?_)
  · obtain ⟨L, n, c, rfl, _⟩ := h; rfl
  · obtain ⟨L, n, c, rfl, hL, hn, hc, q⟩ := h
    refine ⟨_, (pss_cons (ps_set (i := 2) sc__law_row.nd rfl (by first | exact Or.inl rfl | exact Or.inr rfl) (pe_lst pa_nil))
    (pss_cons (ps_for PassesOwn.never rfl (pi_range1 (by rfl) B.range (pa_cons (pv 1) pa_nil)) (pg_name (i := 3) sc__law_row.nd rfl (by first | exact Or.inl rfl | exact Or.inr rfl))
      (pss_one (ps_expr (pe_bm PySem.F.plainAttrs_list PySem.F.slot_list_insert PySem.F.type_list_insert mt_insert (pv 2) (pa_cons (pe_c c__law_pick hr (by decide) (by rfl) (pa_cons (pv 0) (pa_cons (pe_op op_add (pv 3) pe_int) pa_nil))) (pa_cons (pv 3) pa_nil))))))
    (pss_one (ps_ret (pv 2))))), ?_⟩
    refine ⟨Nat.zero_le _, fun o no => ?_⟩
    refine ⟨_, rfl, _, rfl, by omega, by omega, ?_⟩
    refine for_range (fun i σ H1 => ∃ (ns : List Int) (y3 : Option V), σ = [some (.ref L), some (.int (n : Int)), some (.ref o), y3] ∧ Fr L H H1 ∧ Lf H1 L (c + i) ∧ H1 o = some (.lst (ns.map V.int)) ∧ ns.Perm (up i)) ⟨[], none, rfl, Fr.new no, (hL.new no).mono (by omega), upd_same, .refl _⟩ ?_ ?_
    · rintro i σ H1 hi ⟨ns, y3, rfl, fr, lf, eo, hp⟩
      have hi : i < n := by omega
      have no' : o ≠ L := hL.ne no
      refine ⟨_, rfl, .inl ⟨rfl, _, SqL.of eo⟩, ?_⟩
      refine ⟨_, rfl, _, rfl, _, _, rfl, rfl, ?_⟩
      refine ⟨L, _, c + i, rfl, lf, by omega, by omega, by omega, fun r H2 r0 r1 fr2 lf2 => ?_⟩
      refine ⟨_, rfl, ?_⟩
      have eo2 := fr2 _ _ no' eo
      refine ⟨o, _, _, _, rfl, rfl, eo2, sz' ?_, r0, by omega, ?_⟩
      · rw [List.length_map, hp.length_eq, up_len]; omega
      · refine ⟨ns.take r.toNat ++ [(i : Int)] ++ ns.drop r.toNat, _, rfl, ?_, ?_, ?_, ?_⟩
        · exact (fr.trans fr2).put no
        · exact (lf2.mono (by omega)).put no'
        · rw [upd_same, List.map_append, List.map_append, List.map_take, List.map_drop, Int.zero_add]; rfl
        · rw [up_succ]
          exact (ins_perm _ _ _).trans (hp.append_right _)
    · rintro σ H1 ⟨ns, y3, rfl, fr, lf, eo, hp⟩
      rw [Int.toNat_natCast] at lf hp
      exact ⟨_, rfl, q o ns H1 no fr lf eo hp⟩
end
end My

set_option Elab.async false
set_option linter.all false
set_option maxRecDepth 100000
namespace My
open PySem PySem.Spec PyProof.Rows L2
section
variable {P : Program} {w : World} {K : PySem.W.Frag} {mg : Str → Option Value} {base : Heap}

def sp_gen : Sp := fun vs H Q _ => ∃ (L : Addr) (n : Nat) (c : Int), vs = [.ref L, .int (n : Int)] ∧ Lf H L c ∧ n ≤ 12 ∧ c < 2 ^ 48 ∧
  ∀ (v : V) (H' : Hp) (ts : List (Int × Int)), Fr L H H' → Lf H' L (c + 100000) → Web H' v n ts → WOk n ts → Q v H'

/-! ### _law_any_web -/
abbrev s__law_any_web : Stmt := topS 15
abbrev N__law_any_web : List Str := ["_law_left_here", "_law_many", "_law_often", "_law_tie"]
theorem sc__law_any_web : FnScope N__law_any_web ["_law_left_here", "_law_many"] (defScope s__law_any_web) := ⟨rfl, rfl, rfl, by decide +kernel, rfl, by decide +kernel, by decide +kernel⟩
theorem often4 {r : Int} (h0 : 0 ≤ r) (h1 : r < 4) : ∃ o : Int, atI [V.int 2, V.int 3, V.int 5, V.int 8] r = some (.int o) ∧ 0 < o ∧ o < 100 := by
  have : r = 0 ∨ r = 1 ∨ r = 2 ∨ r = 3 := by omega
  rcases this with rfl | rfl | rfl | rfl
  · exact ⟨2, rfl, by decide, by decide⟩
  · exact ⟨3, rfl, by decide, by decide⟩
  · exact ⟨5, rfl, by decide, by decide⟩
  · exact ⟨8, rfl, by decide, by decide⟩
theorem ok_any_web {f : Addr} {fd : FuncData} (B : Bts mg) (F : Fun K "_law_any_web" "_law_any_web" s__law_any_web f fd) (c__law_pick : Cl P w K mg base 2 "_law_pick" sp_pick) (c__law_pairs : Cl P w K mg base 1 "_law_pairs" sp_pairs) :
    FnOk P w K mg base CX0 3 f fd ["_law_left_here", "_law_many"] sp_gen := by
  refine F.ok sc__law_any_web (fun vs H Q E h => ?_) (fun cdv A outer s H vs Q E hr h => ?_)
  · obtain ⟨L, n, c, rfl, _⟩ := h; rfl
  · obtain ⟨L, n, c, rfl, hL, hn, hc, q⟩ := h
    refine ⟨_, (pss_cons (ps_set (i := 2) sc__law_any_web.nd rfl (by first | exact Or.inl rfl | exact Or.inr rfl) (pe_ix ix_list (pe_lst (pa_cons pe_int (pa_cons pe_int (pa_cons pe_int (pa_cons pe_int pa_nil))))) (pe_c c__law_pick hr (by decide) (by rfl) (pa_cons (pv 0) (pa_cons pe_int pa_nil))) (fun _ _ => rfl)))
    (pss_one (ps_ret (pe_tup (pa_cons (pv 1) (pa_cons (pe_callTy call_tuple_of (by rfl) B.tuple (by decide +kernel) (pa_cons (pe_lc (own := [("_law_tie", 3)]) (g := (gName 3)) rfl sc__law_any_web.nd (pi_list (pe_c c__law_pairs hr (by decide) (by rfl) (pa_cons (pv 1) pa_nil))) (blkOk_by (own := [("_law_tie", 3)]) (N := N__law_any_web) (sc := defScope s__law_any_web) (by decide +kernel)) (fun _ _ _ _ _ => (pg_name (i := 3) sc__law_any_web.nd rfl (by first | exact Or.inl rfl | exact Or.inr rfl))) (fun _ _ _ _ _ => (pts_one (pt_cmpR op_eq (pe_cmpR op_eq (pe_c c__law_pick hr (by decide) (by rfl) (pa_cons (pv 0) (pa_cons (pv 2) pa_nil))) pe_int (nomark _)) (pe_cmpR op_lt (pv 2) pe_int (nomark _)) (nomark _)))) (fun _ _ _ _ _ => (pv 3))) pa_nil)) pa_nil)))))), ?_⟩
    refine ⟨by show 4 ≤ sizeLine; decide, fun o no => ?_⟩
    refine ⟨_, rfl, L, _, c, rfl, hL.new no, by decide, by decide, by omega, fun r H1 r0 r1 fr1 lf1 => ?_⟩
    obtain ⟨oft, e1, o1, o2⟩ := often4 r0 r1
    have eo : H1 o = some (.lst [V.int 2, V.int 3, V.int 5, V.int 8]) := fr1 _ _ (hL.ne no) upd_same
    refine ⟨o, _, _, _, rfl, rfl, SqL.of eo, e1, ?_⟩
    have frA : Fr L H H1 := (Fr.new no).trans fr1
    refine ⟨_, rfl, ?_⟩
    refine ⟨_, rfl, n, rfl, by omega, fun p vs H2 np sm2 ep hT => ?_⟩
    refine ⟨p, rfl, ⟨_, SqL.of ep⟩, fun D nD => ?_⟩
    have lf2 := lf1.same sm2
    have npL : p ≠ L := lf1.ne np
    have nDL : D ≠ L := lf2.ne nD
    refine lc_list (K := K) (a := p) (xs := vs) (fun i H3 => ∃ us sub, Fr L H2 H3 ∧ Lf H3 L (c + 1 + i) ∧ H3 D = some (.lst us) ∧ Ties H3 us sub ∧ sub.Sublist ((pup n n).take i)) ⟨[], [], Fr.new nD, (lf2.new nD).mono (by omega), upd_same, trivial, List.nil_sublist _⟩ ?_ ?_ ?_
    · rintro i H3 hi ⟨us, sub, fr3, lf3, eD, hU, hs⟩
      exact SqL.of (fr3 _ _ npL ep)
    · rintro i x H3 hx ⟨us, sub, fr3, lf3, eD, hU, hs⟩
      obtain ⟨t, ht, hxt⟩ := hT.at hx
      have hi : i < vs.length := (List.getElem?_eq_some_iff.mp hx).1
      have l1 := pup_len' (n := n) (i := n) (by omega) (Nat.le_refl n)
      have l2 := hT.len
      have tk : (pup n n).take (i + 1) = (pup n n).take i ++ [t] := by rw [List.take_add_one, ht]; rfl
      refine ⟨rfl, ?_⟩
      refine ⟨_, rfl, _, rfl, ?_⟩
      refine ⟨L, _, c + 1 + i, rfl, lf3, by omega, by omega, by omega, fun r H4 r0 r1 fr4 lf4 => ?_⟩
      have eD4 := fr4 _ _ nDL eD
      have a4 : Tst H3 H4 := lf3.tst fr4
      refine ⟨rfl, _, rfl, _, _, rfl, rfl, rfl, _, rfl, ite2 (fun e => ?_) (fun e => ?_)⟩
      · refine ⟨x, rfl, us, eD4, sz' (by rw [hU.len]; have := hs.length_le; rw [List.length_take] at this; omega), us ++ [x], sub ++ [t], ?_, ?_, upd_same, ?_, ?_⟩
        · exact (fr3.trans fr4).put nD
        · exact (lf4.mono (by omega)).put nDL
        · refine Ties.mono (tst_put eD4) ((hU.mono a4).app (Ties.one ?_))
          exact (hxt.mono (lf2.tst fr3)).mono a4
        · rw [tk]; exact hs.append (List.Sublist.refl _)
      · refine ⟨us, sub, fr3.trans fr4, lf4.mono (by omega), eD4, hU.mono a4, ?_⟩
        rw [tk]; exact hs.trans (List.sublist_append_left _ _)
    · rintro H3 ⟨us, sub, fr3, lf3, eD, hU, hs⟩
      have l1 := pup_len' (n := n) (i := n) (by omega) (Nat.le_refl n)
      have l2 := hT.len
      refine ⟨D, us, rfl, .inl ⟨SqL.of eD, fun t nt => ?_⟩⟩
      refine ⟨by show 2 ≤ sizeLine; decide, fun u nu => ?_⟩
      refine q _ _ sub ?_ ?_ ⟨u, t, us, rfl, upd_same, ?_, ?_⟩ ?_
      · exact (frA.trans ((Fr.of sm2).trans fr3)).trans ((Fr.new nt).trans (Fr.new nu))
      · exact ((lf3.mono (by omega)).new nt).new nu
      · rw [upd_ne (ne_of_none upd_same nu)]; exact upd_same
      · exact (hU.mono (tst_new nt)).mono (tst_new nu)
      · exact wok_sub (hs.trans (List.take_sublist _ _))
end
end My

set_option Elab.async false
set_option linter.all false
set_option maxRecDepth 100000
namespace My
open PySem PySem.Spec PyProof.Rows L2
section
variable {P : Program} {w : World} {K : PySem.W.Frag} {mg : Str → Option Value} {base : Heap}

/-- rows of all places, each a list of its own, none of them at one of two places -/
def Rws (H : Hp) (n : Nat) (L D : Addr) (vs : List V) : Prop :=
  ∀ v ∈ vs, ∃ (p : Addr) (ns : List Int), v = .ref p ∧ p ≠ L ∧ p ≠ D ∧ H p = some (.lst (ns.map V.int)) ∧ ns.Perm (up n)

/-! ### _law_row_web -/
abbrev s__law_row_web : Stmt := topS 17
abbrev N__law_row_web : List Str := ["_law_left_here", "_law_many", "_law_rows", "_law_k", "_law_ties", "_law_a", "_law_b", "_law_ahead", "_law_row_here"]
theorem sc__law_row_web : FnScope N__law_row_web ["_law_left_here", "_law_many"] (defScope s__law_row_web) := ⟨rfl, rfl, rfl, by decide +kernel, rfl, by decide +kernel, by decide +kernel⟩
theorem ok_row_web {f : Addr} {fd : FuncData} (B : Bts mg) (F : Fun K "_law_row_web" "_law_row_web" s__law_row_web f fd) (c__law_pick : Cl P w K mg base 2 "_law_pick" sp_pick) (c__law_row : Cl P w K mg base 3 "_law_row" sp_row) :
    FnOk P w K mg base CX0 4 f fd ["_law_left_here", "_law_many"] sp_gen := by
  refine F.ok sc__law_row_web (fun vs H Q E h => ?_) (fun cdv A outer s H vs Q E hr h => ?_)
  · obtain ⟨L, n, c, rfl, _⟩ := h; rfl
  · obtain ⟨L, n, c, rfl, hL, hn, hc, q⟩ := h
    refine ⟨_, (pss_cons (ps_setLc (i := 2) (own := [("_law_k", 3)]) (g := (gName 3)) (tt := tYes) rfl sc__law_row_web.nd rfl rfl (sw_true rfl rfl rfl (by decide +kernel)) (pi_range1 (by rfl) B.range (pa_cons (pe_op op_add pe_int (pe_c c__law_pick hr (by decide) (by rfl) (pa_cons (pv 0) (pa_cons pe_int pa_nil)))) pa_nil)) (blkOk_by (own := [("_law_k", 3)]) (N := N__law_row_web) (sc := defScope s__law_row_web) (by decide +kernel)) (fun _ _ _ _ _ => (pg_name (i := 3) sc__law_row_web.nd rfl (by first | exact Or.inl rfl | exact Or.inr rfl))) (fun _ _ _ _ _ => pts_nil) (fun _ _ _ _ _ => (pe_c c__law_row hr (by decide) (by rfl) (pa_cons (pv 0) (pa_cons (pv 1) pa_nil)))))
    (pss_cons (ps_set (i := 4) sc__law_row_web.nd rfl (by first | exact Or.inl rfl | exact Or.inr rfl) (pe_lst pa_nil))
    (pss_cons (ps_for PassesOwn.never rfl (pi_range1 (by rfl) B.range (pa_cons (pv 1) pa_nil)) (pg_name (i := 5) sc__law_row_web.nd rfl (by first | exact Or.inl rfl | exact Or.inr rfl))
      (pss_one (ps_for PassesOwn.never rfl (pi_range2 (by rfl) B.range (pa_cons (pe_op op_add (pv 5) pe_int) (pa_cons (pv 1) pa_nil))) (pg_name (i := 6) sc__law_row_web.nd rfl (by first | exact Or.inl rfl | exact Or.inr rfl))
        (pss_cons (ps_setLc (i := 7) (own := [("_law_row_here", 8)]) (g := (gName 8)) (tt := tYes) (te := (tOp _ (tBM K "list" (rIndex K) _ _) (tBM K "list" (rIndex K) _ _))) rfl sc__law_row_web.nd rfl rfl (sw_true rfl rfl rfl (by decide +kernel)) (pi_list (pv 2)) (blkOk_by (own := [("_law_row_here", 8)]) (N := N__law_row_web) (sc := defScope s__law_row_web) (by decide +kernel)) (fun _ _ _ _ _ => (pg_name (i := 8) sc__law_row_web.nd rfl (by first | exact Or.inl rfl | exact Or.inr rfl))) (fun _ _ _ _ _ => pts_nil) (fun _ _ _ _ _ => (pe_cmpR op_lt (pe_bm PySem.F.plainAttrs_list PySem.F.slot_list_index PySem.F.type_list_index mt_index (pv 8) (pa_cons (pv 5) pa_nil)) (pe_bm PySem.F.plainAttrs_list PySem.F.slot_list_index PySem.F.type_list_index mt_index (pv 8) (pa_cons (pv 6) pa_nil)) (nomark _))))
        (pss_one (ps_if (PW.pt (pw_or (pt_val (pe_callB (cr_all rfl) (by rfl) B.all (by decide +kernel) (pa_cons (pv 7) pa_nil))) (pw_or1 (pt_not (pt_val (pe_callB (cr_any rfl) (by rfl) B.any (by decide +kernel) (pa_cons (pv 7) pa_nil))))))) (pss_one (ps_expr (pe_bm PySem.F.plainAttrs_list PySem.F.slot_list_append PySem.F.type_list_append mt_append (pv 4) (pa_cons (pe_tup (pa_cons (pv 5) (pa_cons (pv 6) pa_nil))) pa_nil)))) pss_nil))))))
    (pss_one (ps_ret (pe_tup (pa_cons (pv 1) (pa_cons (pe_callTy call_tuple_of (by rfl) B.tuple (by decide +kernel) (pa_cons (pv 4) pa_nil)) pa_nil)))))))), ?_⟩
    refine ⟨_, rfl, L, _, c, rfl, hL, by decide, by decide, by omega, fun r H1 r0 r1 fr1 lf1 => ?_⟩
    refine ⟨_, _, rfl, rfl, _, rfl, by omega, by omega, fun D nD => ?_⟩
    have nDL : D ≠ L := lf1.ne nD
    refine lc_range (fun i H2 => ∃ vs, Fr L H1 H2 ∧ Lf H2 L (c + 1 + 12 * i) ∧ H2 D = some (.lst vs) ∧ vs.length = i ∧ Rws H2 n L D vs) ⟨[], Fr.new nD, (lf1.new nD).mono (by omega), upd_same, rfl, fun v hv => by cases hv⟩ ?_ ?_
    · rintro i H2 hi ⟨vs, fr2, lf2, eD, hl, hR⟩
      refine ⟨rfl, yes ?_⟩
      refine ⟨_, rfl, _, rfl, ?_⟩
      refine ⟨L, n, _, rfl, lf2, by omega, by omega, fun p ns H3 np fr3 lf3 ep hp => ?_⟩
      have eD3 := fr3 _ _ nDL eD
      refine ⟨vs, eD3, sz' (by omega), vs ++ [.ref p], (fr2.trans fr3).put nD, (lf3.mono (by omega)).put nDL, upd_same, by rw [List.length_append, hl]; rfl, ?_⟩
      intro v hv
      rcases List.mem_append.mp hv with hv | hv
      · obtain ⟨p', ns', e, h1, h2, h3, h4⟩ := hR v hv
        exact ⟨p', ns', e, h1, h2, by rw [upd_ne h2]; exact fr3 _ _ h1 h3, h4⟩
      · rw [List.mem_singleton] at hv
        have npD : p ≠ D := fun e => by rw [e, eD] at np; cases np
        exact ⟨p, ns, hv, lf2.ne np, npD, by rw [upd_ne npD]; exact ep, hp⟩
    · rintro H2 ⟨rows, fr2, lf2, eD, hl, hR⟩
      have lf2' : Lf H2 L (c + 1000) := lf2.mono (by omega)
      have frA : Fr L H H2 := fr1.trans fr2
      refine ⟨Nat.zero_le _, fun o no => ?_⟩
      refine ⟨_, rfl, _, rfl, by omega, by omega, ?_⟩
      refine for_range (fun i σ H3 => ∃ (vs : List V) (sub : List (Int × Int)) (y3 y5 y6 y7 y8 : Option V), σ = [some (.ref L), some (.int (n : Int)), some (.ref D), y3, some (.ref o), y5, y6, y7, y8] ∧ Same H2 H3 ∧ H3 o = some (.lst vs) ∧ Ties H3 vs sub ∧ sub.Sublist (pup n i))
        ⟨[], [], none, none, none, none, none, rfl, same_new no, upd_same, trivial, List.nil_sublist _⟩ ?_ ?_
      · rintro i σ H3 hi ⟨vs, sub, y3, y5, y6, y7, y8, rfl, sm3, eo, hT, hS⟩
        have hi : i < n := by omega
        refine ⟨_, rfl, _, _, rfl, rfl, _, rfl, _, _, rfl, ⟨by omega, by omega, by omega, by omega⟩, ?_⟩
        refine for_range (fun j σ H4 => ∃ (vs : List V) (sub : List (Int × Int)) (y3 y6 y7 y8 : Option V), σ = [some (.ref L), some (.int (n : Int)), some (.ref D), y3, some (.ref o), some (.int (i : Int)), y6, y7, y8] ∧ Same H2 H4 ∧ H4 o = some (.lst vs) ∧ Ties H4 vs sub ∧ sub.Sublist (pup n i ++ prow i j))
          ⟨vs, sub, y3, y6, y7, y8, by rw [Int.zero_add]; rfl, sm3, eo, hT, by exact (List.append_nil (pup n i)).symm ▸ hS⟩ ?_ ?_
        · rintro j σ H4 hj ⟨vs, sub, y3, y6, y7, y8, rfl, sm4, eo4, hT4, hS4⟩
          have hj : j < n - (i + 1) := by omega
          refine ⟨_, rfl, D, rfl, ⟨_, SqL.of (sm4 _ _ eD)⟩, fun D2 nD2 => ?_⟩
          refine lc_list (K := K) (a := D) (xs := rows) (fun m H5 => ∃ bs : List Bool, Same H4 H5 ∧ H5 D2 = some (.lst (bs.map V.bl)) ∧ bs.length = m) ⟨[], same_new nD2, upd_same, rfl⟩ ?_ ?_ ?_
          · rintro m H5 _ ⟨bs, sm5, _⟩
            exact SqL.of (sm5 _ _ (sm4 _ _ eD))
          · rintro m x H5 hx ⟨bs, sm5, eD2, hb⟩
            have hm : m < rows.length := (List.getElem?_eq_some_iff.mp hx).1
            have hxm : x ∈ rows := List.mem_of_getElem? hx
            obtain ⟨p, ns, rfl, h1, h2, h3, h4⟩ := hR x hxm
            have ep := sm5 _ _ (sm4 _ _ h3)
            have ha : (i : Int) ∈ ns := h4.mem_iff.mpr (mem_up.mpr ⟨by omega, by omega⟩)
            have hb2 : (0 + (i : Int) + 1 + (j : Int)) ∈ ns := h4.mem_iff.mpr (mem_up.mpr ⟨by omega, by omega⟩)
            refine ⟨rfl, yes ?_⟩
            refine ⟨_, rfl, .inl ⟨rfl, _, SqL.of ep⟩, _, rfl, ?_⟩
            refine ⟨p, _, _, _, _, rfl, rfl, SqL.of ep, rfl, all_flat ns, idx_at ha, by simp [eqV], idx_first, ?_⟩
            refine ⟨_, rfl, .inl ⟨rfl, _, SqL.of ep⟩, _, rfl, ?_⟩
            refine ⟨p, _, _, _, _, rfl, rfl, SqL.of ep, rfl, all_flat ns, idx_at hb2, by simp [eqV], idx_first, ?_⟩
            refine ⟨_, _, rfl, rfl, ?_⟩
            refine ⟨_, eD2, sz' (by rw [List.length_map, hb]; omega), bs ++ [decide (((ns.idxOf (i : Int) : Nat) : Int) < ((ns.idxOf (0 + (i : Int) + 1 + (j : Int)) : Nat) : Int))], Same.put sm5 nD2, ?_, by rw [List.length_append, hb]; rfl⟩
            rw [upd_same, List.map_append]; rfl
          · rintro H5 ⟨bs, sm5, eD2, hb⟩
            have eo5 := sm5 _ _ eo4
            have sm25 : Same H2 H5 := sm4.trans sm5
            have skip : ∃ (vs : List V) (sub : List (Int × Int)) (z3 z6 z7 z8 : Option V), ((([some (V.ref L), some (.int (n : Int)), some (.ref D), y3, some (.ref o), some (.int (i : Int)), y6, y7, y8]).set 6 (some (.int (0 + (i : Int) + 1 + (j : Int))))).set 7 (some (.ref D2))) = [some (.ref L), some (.int (n : Int)), some (.ref D), z3, some (.ref o), some (.int (i : Int)), z6, z7, z8] ∧ Same H2 H5 ∧ H5 o = some (.lst vs) ∧ Ties H5 vs sub ∧ sub.Sublist (pup n i ++ prow i (j + 1)) :=
              ⟨vs, sub, y3, _, _, y8, rfl, sm25, eo5, hT4.mono (Same.tst sm5), by
                rw [prow_succ, ← List.append_assoc]; exact hS4.trans (List.sublist_append_left _ _)⟩
            have l1 := pup_len' (n := n) (i := i) (by omega) (by omega)
            have l2 := hS4.length_le
            rw [List.length_append, prow_len] at l2
            have take : tDrop (tBM K "list" rAppend (tVar 4) (tCons (tTup (tCons (tVar 5) (tCons (tVar 6) tNil))) tNil)) { nx := fun σ H5 => ∃ (vs : List V) (sub : List (Int × Int)) (y3 y6 y7 y8 : Option V), σ = [some (.ref L), some (.int (n : Int)), some (.ref D), y3, some (.ref o), some (.int (i : Int)), y6, y7, y8] ∧ Same H2 H5 ∧ H5 o = some (.lst vs) ∧ Ties H5 vs sub ∧ sub.Sublist (pup n i ++ prow i (j + 1)), rt := Q } ((([some (V.ref L), some (.int (n : Int)), some (.ref D), y3, some (.ref o), some (.int (i : Int)), y6, y7, y8]).set 6 (some (.int (0 + (i : Int) + 1 + (j : Int))))).set 7 (some (.ref D2))) H5 := by
              refine ⟨_, rfl, .inl ⟨rfl, _, SqL.of eo5⟩, ?_⟩
              refine ⟨_, rfl, _, rfl, by show 2 ≤ sizeLine; decide, fun t nt => ?_⟩
              have eo6 : (upd H5 t (.tup [.int (i : Int), .int (0 + (i : Int) + 1 + (j : Int))])) o = some (.lst vs) := by
                rw [upd_ne (ne_of_none eo5 nt)]; exact eo5
              refine ⟨o, _, _, rfl, rfl, eo6, sz' (by rw [hT4.len]; omega), ?_⟩
              refine ⟨vs ++ [.ref t], sub ++ [((i : Int), (i : Int) + 1 + (j : Int))], y3, _, _, y8, rfl, Same.put (sm25.trans (same_new nt)) no, upd_same, ?_, ?_⟩
              · have a5 := Same.tst sm5
                refine Ties.mono (tst_put eo6) (((hT4.mono a5).mono (tst_new nt)).app (Ties.one ?_))
                rw [Int.zero_add]
                exact Tie.new
              · rw [prow_succ, ← List.append_assoc]; exact hS4.append (List.Sublist.refl _)
            refine ⟨_, rfl, D2, bs, rfl, SqL.of eD2, _, rfl, ite2 (fun e => ?_) (fun e => ?_)⟩
            · exact iteT take
            · refine ⟨_, rfl, D2, bs, rfl, SqL.of eD2, _, rfl, ite2 (fun e => ?_) (fun e => ?_)⟩
              · exact take
              · exact skip
        · rintro σ H4 ⟨vs, sub, y3, y6, y7, y8, rfl, sm4, eo4, hT4, hS4⟩
          have e : ((n : Int) - (0 + (i : Int) + 1)).toNat = n - (i + 1) := by omega
          rw [e, ← pup_succ] at hS4
          exact ⟨vs, sub, y3, _, y6, y7, y8, rfl, sm4, eo4, hT4, hS4⟩
      · rintro σ H3 ⟨vs, sub, y3, y5, y6, y7, y8, rfl, sm3, eo, hT, hS⟩
        rw [Int.toNat_natCast] at hS
        refine ⟨_, rfl, _, rfl, o, vs, rfl, .inl ⟨SqL.of eo, fun t nt => ?_⟩⟩
        refine ⟨by show 2 ≤ sizeLine; decide, fun u nu => ?_⟩
        refine q _ _ sub ?_ ?_ ⟨u, t, vs, rfl, upd_same, ?_, ?_⟩ (wok_sub hS)
        · exact (frA.trans (Fr.of sm3)).trans ((Fr.new nt).trans (Fr.new nu))
        · exact ((((lf2'.same sm3)).mono (by omega)).new nt).new nu
        · rw [upd_ne (ne_of_none upd_same nu)]; exact upd_same
        · exact (hT.mono (tst_new nt)).mono (tst_new nu)
end
end My

set_option Elab.async false
set_option linter.all false
set_option maxRecDepth 100000
namespace My
open PySem PySem.Spec PyProof.Rows L2
section
variable {P : Program} {w : World} {K : PySem.W.Frag} {mg : Str → Option Value} {base : Heap}

/-! ### _law_ring_web -/
abbrev s__law_ring_web : Stmt := topS 18
abbrev N__law_ring_web : List Str := ["_law_left_here", "_law_many", "_law_row_here", "_law_ties", "_law_k", "_law_tie"]
theorem sc__law_ring_web : FnScope N__law_ring_web ["_law_left_here", "_law_many"] (defScope s__law_ring_web) := ⟨rfl, rfl, rfl, by decide +kernel, rfl, by decide +kernel, by decide +kernel⟩
theorem ok_ring_web {f : Addr} {fd : FuncData} (B : Bts mg) (F : Fun K "_law_ring_web" "_law_ring_web" s__law_ring_web f fd) (c__law_pick : Cl P w K mg base 2 "_law_pick" sp_pick) (c__law_row : Cl P w K mg base 3 "_law_row" sp_row) (c__law_pairs : Cl P w K mg base 1 "_law_pairs" sp_pairs) :
    FnOk P w K mg base CX0 4 f fd ["_law_left_here", "_law_many"] sp_gen := by
  refine F.ok sc__law_ring_web (fun vs H Q E h => ?_) (fun cdv A outer s H vs Q E hr h => ?_)
  · obtain ⟨L, n, c, rfl, _⟩ := h; rfl
  · obtain ⟨L, n, c, rfl, hL, hn, hc, q⟩ := h
    refine ⟨_, (pss_cons (ps_set (i := 2) sc__law_ring_web.nd rfl (by first | exact Or.inl rfl | exact Or.inr rfl) (pe_c c__law_row hr (by decide) (by rfl) (pa_cons (pv 0) (pa_cons (pv 1) pa_nil))))
    (pss_cons (ps_set (i := 3) sc__law_ring_web.nd rfl (by first | exact Or.inl rfl | exact Or.inr rfl) (pe_callB cr_sortedPO (by rfl) B.sorted (by decide +kernel) (pa_cons (pe_lc (own := [("_law_k", 4)]) (g := (gName 4)) (tt := tYes) (te := (tCB (rTupK K) (tCons (tCB (rSortedI K) (tCons (tLst (tCons (tOp (rIxL K) _ _) (tCons (tOp (rIxL K) _ _) tNil))) tNil)) tNil))) rfl sc__law_ring_web.nd (pi_range1 (by rfl) B.range (pa_cons (pv 1) pa_nil)) (blkOk_by (own := [("_law_k", 4)]) (N := N__law_ring_web) (sc := defScope s__law_ring_web) (by decide +kernel)) (fun _ _ _ _ _ => (pg_name (i := 4) sc__law_ring_web.nd rfl (by first | exact Or.inl rfl | exact Or.inr rfl))) (fun _ _ _ _ _ => pts_nil) (fun _ _ _ _ _ => (pe_callTy call_tuple_of (by rfl) B.tuple (by decide +kernel) (pa_cons (pe_callB cr_sortedI (by rfl) B.sorted (by decide +kernel) (pa_cons (pe_lst (pa_cons (pe_ix ix_list (pv 2) (pe_op op_sub (pv 4) pe_int) (fun _ _ => rfl)) (pa_cons (pe_ix ix_list (pv 2) (pv 4) (fun _ _ => rfl)) pa_nil))) pa_nil)) pa_nil)))) pa_nil)))
    (pss_cons (ps_if (PW.pt (pw_or (pt_cmpR op_lt (pv 1) pe_int (nomark _)) (pw_or1 (pt_cmpR op_gt (pe_c c__law_pick hr (by decide) (by rfl) (pa_cons (pv 0) (pa_cons pe_int pa_nil))) pe_int (nomark _))))) (pss_one (ps_ret (pe_tup (pa_cons (pv 1) (pa_cons (pe_callTy call_tuple_of (by rfl) B.tuple (by decide +kernel) (pa_cons (pe_callB (cr_sortedT rfl) (by rfl) B.sorted (by decide +kernel) (pa_cons (pe_callTy (cr_setOfT rfl hr.units) (by rfl) B.set (by decide +kernel) (pa_cons (pe_lc (own := [("_law_tie", 5)]) (g := (gName 5)) (tt := (tTest (tOp _ (tOp (rIxT K) _ _) (tOp (rIxT K) _ _)))) rfl sc__law_ring_web.nd (pi_list (pv 3)) (blkOk_by (own := [("_law_tie", 5)]) (N := N__law_ring_web) (sc := defScope s__law_ring_web) (by decide +kernel)) (fun _ _ _ _ _ => (pg_name (i := 5) sc__law_ring_web.nd rfl (by first | exact Or.inl rfl | exact Or.inr rfl))) (fun _ _ _ _ _ => (pts_one (pt_cmpR op_lt (pe_ix ix_tup (pv 5) pe_int (fun _ _ => rfl)) (pe_ix ix_tup (pv 5) pe_int (fun _ _ => rfl)) (nomark _)))) (fun _ _ _ _ _ => (pv 5))) pa_nil)) pa_nil)) pa_nil)) pa_nil))))) pss_nil)
    (pss_one (ps_ret (pe_tup (pa_cons (pv 1) (pa_cons (pe_callTy call_tuple_of (by rfl) B.tuple (by decide +kernel) (pa_cons (pe_lc (own := [("_law_tie", 5)]) (g := (gName 5)) (tt := (tTest (tOp (rNotInD K) _ _))) rfl sc__law_ring_web.nd (pi_list (pe_c c__law_pairs hr (by decide) (by rfl) (pa_cons (pv 1) pa_nil))) (blkOk_by (own := [("_law_tie", 5)]) (N := N__law_ring_web) (sc := defScope s__law_ring_web) (by decide +kernel)) (fun _ _ _ _ _ => (pg_name (i := 5) sc__law_ring_web.nd rfl (by first | exact Or.inl rfl | exact Or.inr rfl))) (fun _ _ _ _ _ => (pts_one (pt_cmpR (op_notInD (u65 hr)) (pv 5) (pv 3) (by rfl)))) (fun _ _ _ _ _ => (pv 5))) pa_nil)) pa_nil)))))))), ?_⟩
    refine ⟨_, rfl, _, rfl, L, n, c, rfl, hL, by omega, by omega, fun rw ns H1 nrw fr1 lf1 erw hp => ?_⟩
    have hnl : ns.length = n := by rw [hp.length_eq, up_len]
    refine ⟨_, rfl, _, rfl, by omega, by omega, fun D nD => ?_⟩
    refine lc_range (fun i H2 => ∃ us ts, Same H1 H2 ∧ H2 D = some (.lst us) ∧ Ties H2 us ts ∧ ts.length = i ∧ ∀ t ∈ ts, 0 ≤ t.1 ∧ t.1 ≤ t.2 ∧ t.2 < (n : Int)) ⟨[], [], same_new nD, upd_same, trivial, rfl, fun _ h => by cases h⟩ ?_ ?_
    · rintro i H2 hi ⟨us, ts, sm2, eD, hT, hl, hb⟩
      have hi : i < n := by omega
      have er2 := sm2 _ _ erw
      obtain ⟨x, ex, mx⟩ := at_mem (ns := ns) (j := 0 + (i : Int) - 1) (by omega) (by omega)
      obtain ⟨y, ey, my⟩ := at_mem (ns := ns) (j := 0 + (i : Int)) (by omega) (by omega)
      have bx := mem_up.mp (hp.mem_iff.mp mx)
      have bY := mem_up.mp (hp.mem_iff.mp my)
      refine ⟨rfl, yes ?_⟩
      refine ⟨_, rfl, _, rfl, _, _, rfl, rfl, rw, _, _, _, rfl, rfl, SqL.of er2, ex, ?_⟩
      refine ⟨_, rfl, _, rfl, rw, _, _, _, rfl, rfl, SqL.of er2, ey, ?_⟩
      refine ⟨by show 2 ≤ sizeLine; decide, fun l nl => ?_⟩
      refine ⟨l, [x, y], rfl, SqL.of upd_same, fun ns' p2 pm srt np2 => ?_⟩
      have e2 := perm2 pm srt
      subst e2
      refine ⟨p2, _, rfl, .inl ⟨SqL.of upd_same, fun t nt => ?_⟩⟩
      have s1 : Same H2 (upd H2 l (.lst [.int x, .int y])) := same_new nl
      have s2 := s1.trans (same_new (o := .lst (([if x ≤ y then x else y, if x ≤ y then y else x]).map V.int)) np2)
      have s3 := s2.trans (same_new (o := .tup (([if x ≤ y then x else y, if x ≤ y then y else x]).map V.int)) nt)
      refine ⟨us, s3 _ _ eD, sz' (by rw [hT.len]; omega), us ++ [.ref t], ts ++ [(if x ≤ y then x else y, if x ≤ y then y else x)], ?_, upd_same, ?_, by rw [List.length_append, hl]; rfl, ?_⟩
      · exact Same.put (sm2.trans s3) nD
      · refine Ties.mono (tst_put (s3 _ _ eD)) ((hT.mono (Same.tst s3)).app (Ties.one ?_))
        exact Tie.new
      · intro t' ht'
        rcases List.mem_append.mp ht' with h | h
        · exact hb t' h
        · rw [List.mem_singleton.mp h]
          dsimp only
          split <;> omega
    · rintro H2 ⟨us, ts, sm2, eD, hT, hl, hb⟩
      rw [Int.toNat_natCast] at hl
      refine ⟨D, us, My.key H2, rfl, SqL.of eD, hT.all, fun ys p hs hst np => ?_⟩
      obtain ⟨ts', hT', pm', _⟩ := srt_ties hs hst.perm hT
      have s3 : Same H2 (upd H2 p (.lst ys)) := same_new np
      have hT3 := hT'.mono (Same.tst s3)
      have ep : (upd H2 p (.lst ys)) p = some (.lst ys) := upd_same
      have hb' : ∀ t ∈ ts', 0 ≤ t.1 ∧ t.1 ≤ t.2 ∧ t.2 < (n : Int) := fun t ht => hb t (pm'.mem_iff.mp ht)
      have hl' : ts'.length = n := by rw [pm'.length_eq, hl]
      have fr3 : Fr L H (upd H2 p (.lst ys)) := fr1.trans ((Fr.of sm2).trans (Fr.of s3))
      have lf3 : Lf (upd H2 p (.lst ys)) L (c + 100) := ((lf1.same sm2).same s3).mono (by omega)
      have npL : p ≠ L := (lf1.same sm2).ne np
      generalize upd H2 p (.lst ys) = H3 at *
      apply two (fun H4 => Fr L H3 H4 ∧ Lf H4 L (c + 200))
      · intro ret
        refine ⟨_, rfl, _, _, rfl, rfl, _, rfl, ite2 (fun e => iteT (ret H3 ⟨Fr.refl _ _, lf3.mono (by omega)⟩)) (fun e => ?_)⟩
        refine ⟨_, rfl, L, _, c + 100, rfl, lf3, by decide, by decide, by omega, fun r H4 r0 r1 fr4 lf4 => ?_⟩
        refine ⟨_, _, rfl, rfl, _, rfl, ite2 (fun e => ret H4 ⟨fr4, lf4.mono (by omega)⟩) (fun e => ?_)⟩
        -- all pairs but those
        have ep4 := fr4 _ _ npL ep
        have hT4 := hT3.mono (lf3.tst fr4)
        refine ⟨_, rfl, ?_⟩
        refine ⟨_, rfl, n, rfl, by omega, fun p5 vs H5 np5 sm5 ep5 hV => ?_⟩
        refine ⟨p5, rfl, ⟨_, SqL.of ep5⟩, fun D5 nD5 => ?_⟩
        refine lc_list (K := K) (a := p5) (xs := vs) (fun i H6 => ∃ us sub, Same H5 H6 ∧ H6 D5 = some (.lst us) ∧ Ties H6 us sub ∧ sub.Sublist ((pup n n).take i)) ⟨[], [], same_new nD5, upd_same, trivial, List.nil_sublist _⟩ ?_ ?_ ?_
        · rintro i H6 hi ⟨us, sub, sm6, _⟩
          exact SqL.of (sm6 _ _ ep5)
        · rintro i x H6 hx ⟨us, sub, sm6, eD6, hU, hsub⟩
          obtain ⟨t, ht, hxt⟩ := hV.at hx
          have l1 := pup_len' (n := n) (i := n) (by omega) (Nat.le_refl n)
          have tk : (pup n n).take (i + 1) = (pup n n).take i ++ [t] := by rw [List.take_add_one, ht]; rfl
          have x6 := hxt.mono (Same.tst sm6)
          have hT6 := hT4.mono (Same.tst (sm5.trans sm6))
          have ep6 := sm6 _ _ (sm5 _ _ ep4)
          refine ⟨rfl, ?_⟩
          refine ⟨_, rfl, _, rfl, dT t, ts'.map dT, x6.dp, .lst (SqL.of ep6) hT6.dp, shaped_dT t, shaped_ties ts', _, rfl, ite2 (fun e => ?_) (fun e => ?_)⟩
          · refine ⟨x, rfl, us, eD6, sz' (by rw [hU.len]; have := hsub.length_le; rw [List.length_take] at this; omega), us ++ [x], sub ++ [t], Same.put sm6 nD5, upd_same, ?_, ?_⟩
            · exact Ties.mono (tst_put eD6) (hU.app (Ties.one x6))
            · rw [tk]; exact hsub.append (List.Sublist.refl _)
          · refine ⟨us, sub, sm6, eD6, hU, ?_⟩
            rw [tk]; exact hsub.trans (List.sublist_append_left _ _)
        · rintro H6 ⟨us, sub, sm6, eD6, hU, hsub⟩
          refine ⟨D5, us, rfl, .inl ⟨SqL.of eD6, fun t nt => ?_⟩⟩
          refine ⟨by show 2 ≤ sizeLine; decide, fun u nu => ?_⟩
          refine q _ _ sub ?_ ?_ ⟨u, t, us, rfl, upd_same, ?_, ?_⟩ ?_
          · exact ((fr3.trans fr4).trans (Fr.of (sm5.trans sm6))).trans ((Fr.new nt).trans (Fr.new nu))
          · exact ((((lf4.same (sm5.trans sm6))).mono (by omega)).new nt).new nu
          · rw [upd_ne (ne_of_none upd_same nu)]; exact upd_same
          · exact (hU.mono (tst_new nt)).mono (tst_new nu)
          · exact wok_sub (hsub.trans (List.take_sublist _ _))
      · rintro H4 ⟨fr4, lf4⟩
        have ep4 := fr4 _ _ npL ep
        have hT4 := hT3.mono (lf3.tst fr4)
        refine ⟨_, rfl, ?_⟩
        refine ⟨_, rfl, p, rfl, ⟨_, SqL.of ep4⟩, fun D5 nD5 => ?_⟩
        refine lc_list (K := K) (a := p) (xs := ys) (fun i H6 => ∃ us sub, Same H4 H6 ∧ H6 D5 = some (.lst us) ∧ Ties H6 us sub ∧ sub.length ≤ i ∧ ∀ t ∈ sub, 0 ≤ t.1 ∧ t.1 < t.2 ∧ t.2 < (n : Int)) ⟨[], [], same_new nD5, upd_same, trivial, Nat.le_refl _, fun _ h => by cases h⟩ ?_ ?_ ?_
        · rintro i H6 hi ⟨us, sub, sm6, _⟩
          exact SqL.of (sm6 _ _ ep4)
        · rintro i x H6 hx ⟨us, sub, sm6, eD6, hU, hsl, hsub⟩
          obtain ⟨t, ht, hxt⟩ := hT4.at hx
          have bt := hb' t (List.mem_of_getElem? ht)
          have hi : i < ys.length := (List.getElem?_eq_some_iff.mp hx).1
          have hyl := hT4.len
          have x6 := hxt.mono (Same.tst sm6)
          obtain ⟨px, rfl, epx⟩ := x6
          refine ⟨rfl, ?_⟩
          refine ⟨_, rfl, px, _, _, _, rfl, rfl, SqT.of epx, rfl, ?_⟩
          refine ⟨_, rfl, px, _, _, _, rfl, rfl, SqT.of epx, rfl, ?_⟩
          refine ⟨_, _, rfl, rfl, _, rfl, ite2 (fun e => ?_) (fun e => ?_)⟩
          · have e := of_decide_eq_true e
            refine ⟨_, rfl, us, eD6, sz' (by rw [hU.len]; omega), us ++ [.ref px], sub ++ [t], Same.put sm6 nD5, upd_same, ?_, ?_, ?_⟩
            · exact Ties.mono (tst_put eD6) (hU.app (Ties.one ⟨px, rfl, epx⟩))
            · rw [List.length_append]; exact Nat.succ_le_succ hsl
            · intro t' h'
              rcases List.mem_append.mp h' with h' | h'
              · exact hsub t' h'
              · rw [List.mem_singleton.mp h']; omega
          · exact ⟨us, sub, sm6, eD6, hU, by omega, hsub⟩
        · rintro H6 ⟨us, sub, sm6, eD6, hU, hsl, hsub⟩
          have hyl := hT4.len
          obtain ⟨ks, e1, e2, e3⟩ := hU.addr
          subst e1
          have kl : ks.length < 64 := by
            have := congrArg List.length e3
            rw [List.length_map] at this
            omega
          refine ⟨D5, ks, rfl, SqL.of eD6, fun p hp => SqT.of (e2 p hp).1, kl, fun a S na hS1 hS2 => ?_⟩
          have s7 : Same H6 (upd H6 a (SetTO P w a S)) := same_new na
          refine ⟨a, S, 2, 64, rfl, upd_same, fun p hp => SqT.of (s7 _ _ (e2 p (hS1 p hp)).1), by decide, fun p hp => ?_, fun L' p8 pm nd lt64 cd np8 => ?_⟩
          · obtain ⟨_, t, ht, et⟩ := e2 p (hS1 p hp)
            have := hsub t ht
            rw [et]
            refine ⟨rfl, fun m hm => ?_⟩
            simp only [List.mem_cons, List.not_mem_nil, or_false] at hm
            omega
          · have s8 := s7.trans (same_new (o := .lst (L'.map fun (q : Addr × List Int) => V.ref q.1)) np8)
            have hk : ∀ p ∈ L', p ∈ ks := fun p hp => hS1 p (pm.mem_iff.mp hp)
            refine ⟨p8, _, rfl, .inl ⟨SqL.of upd_same, fun t nt => ?_⟩⟩
            refine ⟨by show 2 ≤ sizeLine; decide, fun u nu => ?_⟩
            have s9 := (s8.trans (same_new (o := .tup (L'.map fun (q : Addr × List Int) => V.ref q.1)) nt)).trans (same_new (o := .tup [.int (n : Int), .ref t]) nu)
            refine q _ _ (L'.map prT) ?_ ?_ ⟨u, t, L'.map fun (q : Addr × List Int) => V.ref q.1, rfl, upd_same, ?_, ?_⟩ ⟨?_, ?_⟩
            · exact (fr3.trans fr4).trans (Fr.of (sm6.trans s9))
            · exact (lf4.mono (by omega)).same (sm6.trans s9)
            · rw [upd_ne (ne_of_none upd_same nu)]; exact upd_same
            · refine ties_addr fun p hp => ?_
              obtain ⟨g1, t', _, g3⟩ := e2 p (hk p hp)
              exact ⟨s9 _ _ g1, t', g3⟩
            · rw [List.pairwise_map]
              rw [List.nodup_iff_pairwise_ne, List.pairwise_map] at nd
              refine (cd.and nd).imp_of_mem fun {x y} hx hy h => ?_
              obtain ⟨_, t1, m1, g1⟩ := e2 x (hk x hx)
              obtain ⟨_, t2, m2, g2⟩ := e2 y (hk y hy)
              have b1 := hsub t1 m1
              have b2 := hsub t2 m2
              unfold prT
              rw [g1, g2] at h ⊢
              show ltT (t1.1, t1.2) (t2.1, t2.2)
              exact pair_lt h.1 h.2 (by omega) (by omega) (by omega) (by omega)
            · intro t' h'
              obtain ⟨x, hx, rfl⟩ := List.mem_map.mp h'
              obtain ⟨_, t1, m1, g1⟩ := e2 x (hk x hx)
              have b1 := hsub t1 m1
              unfold prT
              rw [g1]
              exact b1
end
end My

set_option Elab.async false
set_option linter.all false
set_option maxRecDepth 100000
namespace My
open PySem PySem.Spec PyProof.Rows L2

/-! ### heaps: all stays but what stands at some places -/
def FrM (M : List Addr) (H H' : Hp) : Prop := ∀ b o, b ∉ M → H b = some o → H' b = some o
theorem FrM.refl (M : List Addr) (H : Hp) : FrM M H H := fun _ _ _ h => h
theorem FrM.trans {M : List Addr} {H H1 H2 : Hp} (a : FrM M H H1) (b : FrM M H1 H2) : FrM M H H2 := fun c o n h => b c o n (a c o n h)
theorem FrM.same {M : List Addr} {H H' : Hp} (a : Same H H') : FrM M H H' := fun b o _ h => a b o h
theorem FrM.wk {M N : List Addr} {H H' : Hp} (a : FrM M H H') (h : ∀ x ∈ M, x ∈ N) : FrM N H H' := fun b o n e => a b o (fun m => n (h b m)) e
theorem FrM.put {M : List Addr} {H H' : Hp} {p : Addr} {o : HO} (a : FrM M H H') (h : p ∈ M) : FrM M H (upd H' p o) := fun b x n e => by
  rw [upd_ne (fun z => n (by rw [z]; exact h))]; exact a b x n e
theorem FrM.putN {M : List Addr} {H H' : Hp} {p : Addr} {o : HO} (a : FrM M H H') (h : H p = none) : FrM M H (upd H' p o) := fun b x n e => by
  rw [upd_ne (ne_of_none e h)]; exact a b x n e
theorem FrM.tst {M : List Addr} {H H' : Hp} (a : FrM M H H') (h : ∀ x ∈ M, ∃ xs, H x = some (.lst xs)) : Tst H H' := fun b xs e => by
  refine a b _ (fun m => ?_) e
  obtain ⟨ys, z⟩ := h b m
  rw [z] at e; cases e
theorem Fr.m {L : Addr} {M : List Addr} {H H' : Hp} (a : Fr L H H') (h : L ∈ M) : FrM M H H' := fun b o n e => a b o (fun z => n (by rw [z]; exact h)) e

/-- a list of numbers that stands at none of some places -/
def Gp (M : List Addr) (H : Hp) (v : V) (g : List Int) : Prop := ∃ p, v = .ref p ∧ p ∉ M ∧ H p = some (.lst (g.map V.int))
theorem Gp.mono {M N : List Addr} {H H' : Hp} {v : V} {g : List Int} (h : Gp M H v g) (a : FrM M H H') (s : ∀ x ∈ N, x ∈ M) : Gp N H' v g := by
  obtain ⟨p, e, n, h⟩ := h
  exact ⟨p, e, fun m => n (s p m), a p _ n h⟩
theorem Gp.new {M : List Addr} {H : Hp} {v : V} {g : List Int} {D : Addr} {o : HO} (h : Gp M H v g) (nD : H D = none) : Gp (D :: M) (upd H D o) v g := by
  obtain ⟨p, e, n, h⟩ := h
  have ne := ne_of_none h nD
  refine ⟨p, e, fun m => ?_, by rw [upd_ne ne]; exact h⟩
  rcases List.mem_cons.mp m with m | m
  · exact ne m
  · exact n m
theorem ixN_in {n : Nat} {i : Int} (h0 : 0 ≤ i) (h1 : i < n) : ixN n i = some i.toNat := by unfold ixN; rw [if_pos h0, if_pos h1]

section
variable {P : Program} {w : World} {K : PySem.W.Frag} {mg : Str → Option Value} {base : Heap}

/-! ### _law_put_together -/
abbrev s__law_put_together : Stmt := topS 19
abbrev N__law_put_together : List Str := ["_law_left_here", "_law_many", "_law_groups", "_law_p", "_law_ties", "_law_some", "_law_k", "_law_way", "_law_one", "_law_j", "_law_a", "_law_b", "_law_whole"]
theorem sc__law_put_together : FnScope N__law_put_together ["_law_left_here", "_law_many"] (defScope s__law_put_together) := ⟨rfl, rfl, rfl, by decide +kernel, rfl, by decide +kernel, by decide +kernel⟩
def cdb (way : Int) (k j : Nat) : Bool := decide (way < 2) || (decide (way = 2) && decide ((k : Int) - j = 1))
theorem cd_read {σ : L2.St} {H : Hp} {Q : VK} {way : Int} {k j : Nat} (h7 : σ[7]? = some (some (.int way))) (h6 : σ[6]? = some (some (.int (k : Int)))) (h9 : σ[9]? = some (some (.int (0 + (j : Int)))))
    (q : Q (.bl (cdb way k j)) H) : tOrV (tOp (rI0 fun i j => .bl (decide (i < j))) (tVar 7) (tC (.int 2))) (tAndV (tOp rEq (tVar 7) (tC (.int 2))) (tOp rEq (tOp (rI0 fun i j => .int (i - j)) (tVar 6) (tVar 9)) (tC (.int 1)))) σ H Q := by
  unfold cdb at q
  refine ⟨_, h7, _, _, rfl, rfl, _, rfl, ite2 (fun e => ?_) (fun e => ?_)⟩
  · have e := of_decide_eq_true e
    rw [decide_eq_true e, Bool.true_or] at q
    exact q
  · have e' : ¬ way < 2 := fun z => e (decide_eq_true z)
    rw [decide_eq_false e', Bool.false_or] at q
    refine ⟨_, h7, rfl, _, rfl, ite2 (fun e => ?_) (fun e => ?_)⟩
    · have e := V.int.inj (of_decide_eq_true e)
      rw [decide_eq_true e, Bool.true_and] at q
      refine ⟨_, h6, _, h9, _, _, rfl, rfl, rfl, ?_⟩
      have z : decide (V.int ((k : Int) - (0 + (j : Int))) = V.int 1) = decide ((k : Int) - (j : Int) = 1) := by
        rw [Int.zero_add]
        exact decide_eq_decide.mpr ⟨fun h => V.int.inj h, fun h => congrArg V.int h⟩
      rw [z]
      exact q
    · have e' : ¬ way = 2 := fun z => e (decide_eq_true (congrArg V.int z))
      rw [decide_eq_false e', Bool.false_and] at q
      exact q
theorem rep_b (b : Bool) (g : List Int) : (List.replicate (if b = true then (1 : Int) else 0).toNat (g.map V.int)).flatten = (if b = true then g else []).map V.int := by
  cases b
  · rfl
  · show (List.replicate 1 (g.map V.int)).flatten = _
    simp

theorem ok_put_together {f : Addr} {fd : FuncData} (B : Bts mg) (F : Fun K "_law_put_together" "_law_put_together" s__law_put_together f fd) (c__law_pick : Cl P w K mg base 2 "_law_pick" sp_pick) (c__law_row : Cl P w K mg base 3 "_law_row" sp_row) :
    FnOk P w K mg base CX0 4 f fd ["_law_left_here", "_law_many"] sp_gen := by
  refine F.ok sc__law_put_together (fun vs H Q E h => ?_) (fun cdv A outer s H vs Q E hr h => ?_)
  · obtain ⟨L, n, c, rfl, _⟩ := h; rfl
  · obtain ⟨L, n, c, rfl, hL, hn, hc, q⟩ := h
    refine ⟨_, (pss_cons (ps_set (i := 2) sc__law_put_together.nd rfl (by first | exact Or.inl rfl | exact Or.inr rfl) (pe_lc (own := [("_law_p", 3)]) (g := (gName 3)) (tt := tYes) rfl sc__law_put_together.nd (pi_list (pe_c c__law_row hr (by decide) (by rfl) (pa_cons (pv 0) (pa_cons (pv 1) pa_nil)))) (blkOk_by (own := [("_law_p", 3)]) (N := N__law_put_together) (sc := defScope s__law_put_together) (by decide +kernel)) (fun _ _ _ _ _ => (pg_name (i := 3) sc__law_put_together.nd rfl (by first | exact Or.inl rfl | exact Or.inr rfl))) (fun _ _ _ _ _ => pts_nil) (fun _ _ _ _ _ => (pe_lst (pa_cons (pv 3) pa_nil)))))
    (pss_cons (ps_set (i := 4) sc__law_put_together.nd rfl (by first | exact Or.inl rfl | exact Or.inr rfl) (pe_lst pa_nil))
    (pss_cons (ps_while PassesOwn.never (pt_cmpR op_gt (pe_callB call_len_seq (by rfl) B.len (by decide +kernel) (pa_cons (pv 2) pa_nil)) pe_int (nomark _))
      (pss_cons (ps_setLc (i := 5) (own := [("_law_k", 6)]) (g := (gName 6)) (tt := tYes) (te := (tBM K "list" rPopAt _ (tCons (tCall _ _ _ (tCons _ (tCons (tCB (rLenK K) _) tNil))) tNil))) rfl sc__law_put_together.nd rfl rfl (sw_true rfl rfl rfl (by decide +kernel)) (pi_range1 (by rfl) B.range (pa_cons (pe_callB (call_min2 rfl) (by rfl) B.min (by decide +kernel) (pa_cons (pe_callB call_len_seq (by rfl) B.len (by decide +kernel) (pa_cons (pv 2) pa_nil)) (pa_cons (pe_op op_add pe_int (pe_c c__law_pick hr (by decide) (by rfl) (pa_cons (pv 0) (pa_cons pe_int pa_nil)))) pa_nil))) pa_nil)) (blkOk_by (own := [("_law_k", 6)]) (N := N__law_put_together) (sc := defScope s__law_put_together) (by decide +kernel)) (fun _ _ _ _ _ => (pg_name (i := 6) sc__law_put_together.nd rfl (by first | exact Or.inl rfl | exact Or.inr rfl))) (fun _ _ _ _ _ => pts_nil) (fun _ _ _ _ _ => (pe_bm PySem.F.plainAttrs_list PySem.F.slot_list_pop PySem.F.type_list_pop mt_popAt (pv 2) (pa_cons (pe_c c__law_pick hr (by decide) (by rfl) (pa_cons (pv 0) (pa_cons (pe_callB call_len_seq (by rfl) B.len (by decide +kernel) (pa_cons (pv 2) pa_nil)) pa_nil))) pa_nil))))
      (pss_cons (ps_set (i := 7) sc__law_put_together.nd rfl (by first | exact Or.inl rfl | exact Or.inr rfl) (pe_c c__law_pick hr (by decide) (by rfl) (pa_cons (pv 0) (pa_cons pe_int pa_nil))))
      (pss_cons (ps_for PassesOwn.never rfl (pi_enum (by rfl) B.enumerate (pa_cons (pv 5) pa_nil)) (pg_tup rfl (pgs_cons (pg_name (i := 6) sc__law_put_together.nd rfl (by first | exact Or.inl rfl | exact Or.inr rfl)) (pgs_cons (pg_name (i := 8) sc__law_put_together.nd rfl (by first | exact Or.inl rfl | exact Or.inr rfl)) pgs_nil)))
        (pss_one (ps_for PassesOwn.never rfl (pi_range1 (by rfl) B.range (pa_cons (pv 6) pa_nil)) (pg_name (i := 9) sc__law_put_together.nd rfl (by first | exact Or.inl rfl | exact Or.inr rfl))
          (pss_one (ps_for PassesOwn.never rfl (pi_list (pe_op op_rep (pv 8) (pe_callTy call_int1 (by rfl) B.int (by decide +kernel) (pa_cons (pe_or (pe_cmpR op_lt (pv 7) pe_int (nomark _)) (pe_one (pe_and (pe_cmpR op_eq (pv 7) pe_int (nomark _)) (pe_one (pe_cmpR op_eq (pe_op op_sub (pv 6) (pv 9)) pe_int (nomark _)))))) pa_nil)))) (pg_name (i := 10) sc__law_put_together.nd rfl (by first | exact Or.inl rfl | exact Or.inr rfl))
            (pss_one (ps_expr (pe_bm PySem.F.plainAttrs_list PySem.F.slot_list_extend PySem.F.type_list_extend mt_extend (pv 4) (pa_cons (pe_lc (own := [("_law_b", 11)]) (g := (gName 11)) (tt := tYes) (te := (tCB (rTupK K) (tCons (tCB (rSortedI K) _) tNil))) rfl sc__law_put_together.nd (pi_list (pe_ix ix_list (pv 5) (pv 9) (fun _ _ => rfl))) (blkOk_by (own := [("_law_b", 11)]) (N := N__law_put_together) (sc := defScope s__law_put_together) (by decide +kernel)) (fun _ _ _ _ _ => (pg_name (i := 11) sc__law_put_together.nd rfl (by first | exact Or.inl rfl | exact Or.inr rfl))) (fun _ _ _ _ _ => pts_nil) (fun _ _ _ _ _ => (pe_callTy call_tuple_of (by rfl) B.tuple (by decide +kernel) (pa_cons (pe_callB cr_sortedI (by rfl) B.sorted (by decide +kernel) (pa_cons (pe_lst (pa_cons (pv 10) (pa_cons (pv 11) pa_nil))) pa_nil)) pa_nil)))) pa_nil)))))))))
      (pss_cons (ps_set (i := 12) sc__law_put_together.nd rfl (by first | exact Or.inl rfl | exact Or.inr rfl) (pe_lst pa_nil))
      (pss_cons (ps_for PassesOwn.never rfl (pi_list (pv 5)) (pg_name (i := 8) sc__law_put_together.nd rfl (by first | exact Or.inl rfl | exact Or.inr rfl))
        (pss_one (ps_expr (pe_bm PySem.F.plainAttrs_list PySem.F.slot_list_extend PySem.F.type_list_extend mt_extend (pv 12) (pa_cons (pv 8) pa_nil)))))
      (pss_one (ps_expr (pe_bm PySem.F.plainAttrs_list PySem.F.slot_list_append PySem.F.type_list_append mt_append (pv 2) (pa_cons (pv 12) pa_nil))))))))))
    (pss_one (ps_ret (pe_tup (pa_cons (pv 1) (pa_cons (pe_callTy call_tuple_of (by rfl) B.tuple (by decide +kernel) (pa_cons (pe_callB cr_sortedPO (by rfl) B.sorted (by decide +kernel) (pa_cons (pv 4) pa_nil)) pa_nil)) pa_nil)))))))), ?_⟩
    -- groups = [[p] for p in row]
    refine ⟨_, rfl, _, rfl, L, n, c, rfl, hL, by omega, by omega, fun rw ns H1 nrw fr1 lf1 erw hp => ?_⟩
    have hnl : ns.length = n := by rw [hp.length_eq, up_len]
    have nrwL : rw ≠ L := hL.ne nrw
    refine ⟨rw, rfl, ⟨_, SqL.of erw⟩, fun G nG => ?_⟩
    have nGL : G ≠ L := lf1.ne nG
    refine lc_list (K := K) (a := rw) (xs := ns.map V.int) (fun i H2 => ∃ vs, Same H1 H2 ∧ H2 G = some (.lst vs) ∧ All2 (Gp [L, G] H2) vs ((ns.take i).map fun x => [x])) ⟨[], same_new nG, upd_same, by exact trivial⟩ ?_ ?_ ?_
    · rintro i H2 _ ⟨vs, sm, _⟩
      exact SqL.of (sm _ _ erw)
    · rintro i x H2 hx ⟨vs, sm, eG, hV⟩
      have hil : i < ns.length := by
        have := (List.getElem?_eq_some_iff.mp hx).1
        rw [List.length_map] at this; exact this
      have ex : x = .int ns[i] := by
        rw [List.getElem?_map, List.getElem?_eq_getElem hil] at hx
        cases hx; rfl
      subst ex
      refine ⟨rfl, yes ?_⟩
      refine ⟨_, rfl, by show 1 ≤ sizeLine; decide, fun t nt => ?_⟩
      have nGt : G ≠ t := ne_of_none eG nt
      have tL : t ≠ L := (lf1.same sm).ne nt
      have eG2 : (upd H2 t (.lst [.int ns[i]])) G = some (.lst vs) := by rw [upd_ne nGt]; exact eG
      refine ⟨vs, eG2, sz' (by rw [hV.len, List.length_map, List.length_take]; omega), vs ++ [.ref t], Same.put (sm.trans (same_new nt)) nG, upd_same, ?_⟩
      rw [List.take_add_one, List.getElem?_eq_getElem hil]
      show All2 _ _ (((ns.take i) ++ [ns[i]]).map fun x => [x])
      rw [List.map_append]
      refine All2.app (hV.imp fun v g h => (h.mono (FrM.same (same_new nt)) (fun x hx => hx)).mono (FrM.put (FrM.refl _ _) (by simp)) (fun x hx => hx)) ⟨⟨t, rfl, by simp [tL, nGt.symm], ?_⟩, trivial⟩
      rw [upd_ne nGt.symm, upd_same]; rfl
    · rintro H2 ⟨vs0, sm2, eG, hV0⟩
      rw [List.length_map, List.take_length] at hV0
      have lf2 := lf1.same sm2
      -- ties = []
      refine ⟨Nat.zero_le _, fun O nO => ?_⟩
      have nGO : G ≠ O := ne_of_none eG nO
      have nOL : O ≠ L := lf2.ne nO
      have frH2 : Fr L H H2 := fr1.trans (Fr.of sm2)
      have HG : H G = none := Lf.free fr1 lf1 nG
      have HO' : H O = none := Lf.free frH2 lf2 nO
      have memL : L ∈ [L, G, O] := by simp
      have memG : G ∈ [L, G, O] := by simp
      have memO : O ∈ [L, G, O] := by simp
      -- the while
      refine while_by (fun σ H3 => ∃ (vs : List V) (gs : List (List Int)) (us : List V) (ts : List (Int × Int)) (y3 y5 y6 y7 y8 y9 y10 y11 y12 : Option V), σ = [some (.ref L), some (.int (n : Int)), some (.ref G), y3, some (.ref O), y5, y6, y7, y8, y9, y10, y11, y12] ∧
          Fr L H H3 ∧ Lf H3 L (c + 200 - 6 * gs.length) ∧ H3 G = some (.lst vs) ∧ All2 (Gp [L, G, O] H3) vs gs ∧ H3 O = some (.lst us) ∧ Ties H3 us ts ∧ PInv n gs ts ∧ gs.length ≤ 12)
        (fun _ H3 => match H3 G with | some (.lst vs) => vs.length | _ => 0) ?_ ?_ ?_
      · refine ⟨vs0, ns.map fun x => [x], [], [], none, none, none, none, none, none, none, none, none, rfl, frH2.trans (Fr.new nO), ?_, ?_, ?_, upd_same, trivial, ⟨?_, List.nodup_nil, (fun _ h => by cases h), (fun _ h => by cases h)⟩, ?_⟩
        · rw [List.length_map, hnl]; exact (lf2.new nO).mono (by omega)
        · rw [upd_ne nGO]; exact eG
        · refine hV0.imp fun v g h => (h.new nO).mono (FrM.refl _ _) (fun x hx => ?_)
          simp only [List.mem_cons, List.not_mem_nil, or_false] at hx ⊢
          rcases hx with h | h | h
          · exact .inr (.inl h)
          · exact .inr (.inr h)
          · exact .inl h
        · rw [flat_one]; exact hp
        · rw [List.length_map, hnl]; exact hn
      · rintro σ H3 ⟨vs, gs, us, ts, y3, y5, y6, y7, y8, y9, y10, y11, y12, rfl, fr3, lf3, eG3, hV, eO3, hT, hI, hg12⟩
        have hvl := hV.len
        have lts := hI.len (by omega)
        refine ⟨_, rfl, G, vs, rfl, .inl (SqL.of eG3), _, _, rfl, rfl, _, rfl, ite2 (fun e => ?_) (fun e => ?_)⟩
        · have hlen : 1 < vs.length := by have := of_decide_eq_true e; omega
          -- how many
          refine ⟨_, rfl, G, vs, rfl, .inl (SqL.of eG3), ?_⟩
          refine ⟨_, rfl, L, _, _, rfl, lf3, by decide, by decide, by omega, fun r0 Ha ra rb fra lfa => ?_⟩
          refine ⟨_, _, rfl, rfl, _, _, rfl, ?_⟩
          have hm : ∃ m : Nat, (if 2 + r0 < (vs.length : Int) then 2 + r0 else (vs.length : Int)) = (m : Int) ∧ 2 ≤ m ∧ m ≤ 4 ∧ m ≤ vs.length := by
            by_cases z : 2 + r0 < (vs.length : Int)
            · rw [if_pos z]; exact ⟨(2 + r0).toNat, by omega, by omega, by omega, by omega⟩
            · rw [if_neg z]; exact ⟨vs.length, rfl, by omega, by omega, Nat.le_refl _⟩
          obtain ⟨m, em, m2, m4, mv⟩ := hm
          rw [em]
          refine ⟨_, rfl, by omega, by omega, fun D nD => ?_⟩
          have eGa := fra _ _ nGL eG3
          have eOa := fra _ _ nOL eO3
          have nGD : G ≠ D := ne_of_none eGa nD
          have nOD : O ≠ D := ne_of_none eOa nD
          have nDL : D ≠ L := lfa.ne nD
          have hVa : All2 (Gp [L, G, O] Ha) vs gs := hV.imp fun v g h => h.mono (fra.m memL) fun x hx => hx
          have hTa : Ties Ha us ts := hT.mono (lf3.tst fra)
          refine lc_range (fun i Hb => ∃ (vs' : List V) (gs' : List (List Int)) (ss : List V) (sg : List (List Int)), FrM [L, G, D] Ha Hb ∧ Lf Hb L (c + 200 - 6 * gs.length + 1 + i) ∧ Hb G = some (.lst vs') ∧ Hb D = some (.lst ss) ∧ All2 (Gp [D, L, G, O] Hb) vs' gs' ∧ All2 (Gp [D, L, G, O] Hb) ss sg ∧ gs.Perm (sg ++ gs') ∧ sg.length = i)
            ⟨vs, gs, [], [], (FrM.refl _ _).putN nD, (lfa.new nD).mono (by omega), by rw [upd_ne nGD]; exact eGa, upd_same, hVa.imp fun v g h => h.new nD, trivial, .refl _, rfl⟩ ?_ ?_
          · rintro i Hb hi ⟨vs', gs', ss, sg, frb, lfb, eGb, eDb, hVb, hSb, pm, hsl⟩
            have hi : i < m := by omega
            have l1 := hVb.len
            have l2 := hSb.len
            have l3 := pm.length_eq
            rw [List.length_append] at l3
            refine ⟨rfl, yes ?_⟩
            refine ⟨_, rfl, .inl ⟨rfl, _, SqL.of eGb⟩, ?_⟩
            refine ⟨_, rfl, _, rfl, G, vs', rfl, .inl (SqL.of eGb), ?_⟩
            refine ⟨L, _, _, rfl, lfb, by omega, by omega, by omega, fun r Hc rc0 rc1 frc lfc => ?_⟩
            have eGc := frc _ _ nGL eGb
            have eDc := frc _ _ nDL eDb
            have hk : r.toNat < vs'.length := by omega
            have hk2 : r.toNat < gs'.length := by omega
            obtain ⟨g, eg, hg⟩ := hVb.at (List.getElem?_eq_getElem hk)
            have eg' : gs'[r.toNat] = g := by rw [List.getElem?_eq_getElem hk2] at eg; cases eg; rfl
            refine ⟨G, vs', r, r.toNat, vs'[r.toNat], rfl, rfl, eGc, by omega, by omega, (ixN_seq (ixN_in rc0 rc1)).1, List.getElem?_eq_getElem hk, ?_⟩
            have eDd : (upd Hc G (.lst (vs'.eraseIdx r.toNat))) D = some (.lst ss) := by rw [upd_ne nGD.symm]; exact eDc
            have frd : FrM [D, L, G, O] Hb (upd (upd Hc G (.lst (vs'.eraseIdx r.toNat))) D (.lst (ss ++ [vs'[r.toNat]]))) := ((frc.m (by simp)).put (by simp)).put (by simp)
            refine ⟨ss, eDd, sz' (by omega), vs'.eraseIdx r.toNat, gs'.eraseIdx r.toNat, ss ++ [vs'[r.toNat]], sg ++ [g], ?_, ?_, ?_, upd_same, ?_, ?_, ?_, ?_⟩
            · exact ((frb.trans (frc.m (by simp))).put (by simp)).put (by simp)
            · exact ((lfc.mono (by omega)).put nGL).put nDL
            · rw [upd_ne nGD, upd_same]
            · exact (hVb.imp fun v g h => h.mono frd fun x hx => hx).erase _
            · exact (hSb.imp fun v g h => h.mono frd fun x hx => hx).app ⟨hg.mono frd fun x hx => hx, trivial⟩
            · refine pm.trans ?_
              rw [List.append_assoc]
              refine List.Perm.append_left _ ?_
              have := erase_perm hk2
              rw [eg'] at this
              exact this.symm
            · rw [List.length_append, hsl]; rfl
          · rintro Hb ⟨vs', gs', ss, sg, frb, lfb, eGb, eDb, hVb, hSb, pm, hsl⟩
            rw [Int.toNat_natCast] at hsl lfb
            have l1 := hVb.len
            have l2 := hSb.len
            have l3 := pm.length_eq
            rw [List.length_append] at l3
            have eOb : Hb O = some (.lst us) := frb _ _ (by simp [nOL, nGO.symm, nOD]) eOa
            obtain ⟨xa, ya, za, eLa, _⟩ := id lfa
            have tab : Tst Ha Hb := fun b xs e => by
              refine frb b _ (fun mm => ?_) e
              simp only [List.mem_cons, List.not_mem_nil, or_false] at mm
              rcases mm with z | z | z
              · rw [z, eLa] at e; cases e
              · rw [z, eGa] at e; cases e
              · rw [z, nD] at e; cases e
            have hTb : Ties Hb us ts := hTa.mono tab
            have frHb : Fr L H Hb := fun b o nb e => by
              have e3 := fra b o nb (fr3 b o nb e)
              refine frb b o (fun mm => ?_) e3
              simp only [List.mem_cons, List.not_mem_nil, or_false] at mm
              rcases mm with z | z | z
              · exact nb z
              · rw [z, HG] at e; cases e
              · rw [z, nD] at e3; cases e3
            have HD : H D = none := by
              cases z : H D with
              | none => rfl
              | some o => rw [fra D o nDL (fr3 D o nDL z)] at nD; cases nD
            -- way
            refine ⟨_, rfl, L, _, _, rfl, lfb, by decide, by decide, by omega, fun way Hc wa wb frc lfc => ?_⟩
            have eGc := frc _ _ nGL eGb
            have eDc := frc _ _ nDL eDb
            have eOc := frc _ _ nOL eOb
            have hVc : All2 (Gp [D, L, G, O] Hc) vs' gs' := hVb.imp fun v g h => h.mono (frc.m (by simp)) fun x hx => hx
            have hSc : All2 (Gp [D, L, G, O] Hc) ss sg := hSb.imp fun v g h => h.mono (frc.m (by simp)) fun x hx => hx
            have hTc : Ties Hc us ts := hTb.mono (lfb.tst frc)
            have frHc : Fr L H Hc := frHb.trans frc
            have pf : (sg ++ gs').flatten.Perm (up n) := pm.flatten.symm.trans hI.fl
            have gl : ∀ i, (sg.getD i []).length ≤ 12 := fun i => Nat.le_trans (grp_len pf i) hn
            -- for k, one in enumerate(some)
            refine ⟨_, rfl, D, ss, rfl, SqL.of eDc, ?_⟩
            refine for_it (walk_enum (K := K) (a := D) (xs := ss)) (fun k σ H4 => ∃ (us4 : List V) (y6 y8 y9 y10 y11 y12 : Option V), σ = [some (.ref L), some (.int (n : Int)), some (.ref G), y3, some (.ref O), some (.ref D), y6, some (.int way), y8, y9, y10, y11, y12] ∧ FrM [O] Hc H4 ∧ H4 O = some (.lst us4) ∧ Ties H4 us4 (ts ++ news sg (cdb way) k))
              ⟨us, y6, y8, y9, y10, y11, y12, rfl, FrM.refl _ _, eOc, by exact (List.append_nil ts).symm ▸ hTc⟩ ?_ ?_ ?_
            · rintro k σ H4 _ ⟨us4, _, _, _, _, _, _, _, fr4, _⟩
              exact SqL.of (fr4 _ _ (by simp [nOD.symm]) eDc)
            · rintro k x σ H4 H4' hk ⟨us4, y6, y8, y9, y10, y11, y12, rfl, fr4, eO4, hT4⟩ ⟨T, x1, x2, rfl, nT, rfl, ex1, ex2⟩
              cases ex1
              obtain ⟨gk, egk, hgk⟩ := hSc.at ex2
              have hk5 : k < 4 := by omega
              have gdk : sg.getD k [] = gk := by rw [List.getD_eq_getElem?_getD, egk]; rfl
              have ln1 := news_len (cd := cdb way) gl k (by omega)
              refine ⟨T, _, rfl, SqT.of upd_same, rfl, _, _, rfl, _, _, rfl, rfl, ?_⟩
              -- for j in range(k)
              refine ⟨_, rfl, _, rfl, by omega, by omega, ?_⟩
              refine for_range (fun j σ H5 => ∃ (us5 : List V) (y9 y10 y11 y12 : Option V), σ = [some (.ref L), some (.int (n : Int)), some (.ref G), y3, some (.ref O), some (.ref D), some (.int (k : Int)), some (.int way), some x2, y9, y10, y11, y12] ∧ FrM [O] Hc H5 ∧ H5 O = some (.lst us5) ∧ Ties H5 us5 (ts ++ news sg (cdb way) k ++ newK sg (cdb way) k j))
                ⟨us4, y9, y10, y11, y12, rfl, fr4.trans (FrM.same (same_new nT)), by rw [upd_ne (ne_of_none eO4 nT)]; exact eO4, by exact (List.append_nil (ts ++ news sg (cdb way) k)).symm ▸ (hT4.mono (tst_new nT))⟩ ?_ ?_
              · rintro j σ H5 hj ⟨us5, y9, y10, y11, y12, rfl, fr5, eO5, hT5⟩
                have hj : j < k := by omega
                have ln2 := newK_len (cd := cdb way) (k := k) gl j
                obtain ⟨pk, rfl, npk, epk⟩ := hgk
                have epk5 := fr5 _ _ (fun z => npk (by simp at z; simp [z])) epk
                have hjs : j < ss.length := by omega
                obtain ⟨gj, egj, hgj⟩ := hSc.at (List.getElem?_eq_getElem hjs)
                have gdj : sg.getD j [] = gj := by rw [List.getD_eq_getElem?_getD, egj]; rfl
                -- for a in one * int(..)
                refine ⟨_, rfl, cd_read rfl rfl rfl (.inr ⟨_, rfl, ?_⟩)⟩
                have gkl : gk.length ≤ 12 := by rw [← gdk]; exact gl k
                have gjl : gj.length ≤ 12 := by rw [← gdj]; exact gl j
                refine ⟨pk, _, _, rfl, rfl, epk5, by have := (bi (cdb way k j)).2.2; omega, by have := (bi (cdb way k j)).2.1; omega, ?_, fun pr npr => ?_⟩
                · rw [List.length_map]
                  have : (if cdb way k j = true then (1 : Int) else 0).toNat ≤ 1 := by cases cdb way k j <;> decide
                  exact sz (Nat.le_trans (Nat.mul_le_mul gkl this) (by decide))
                rw [rep_b]
                generalize hg' : (if cdb way k j = true then gk else []) = g'
                have g'l : g'.length ≤ 12 := by rw [← hg']; split; exact gkl; exact Nat.zero_le _
                have nprO : pr ≠ O := fun z => by rw [z, eO5] at npr; cases npr
                refine ⟨pr, rfl, ⟨_, SqL.of upd_same⟩, ?_⟩
                refine for_list (K := K) (a := pr) (xs := g'.map V.int) (fun i σ H6 => ∃ (us6 : List V) (y10 y11 y12 : Option V), σ = [some (.ref L), some (.int (n : Int)), some (.ref G), y3, some (.ref O), some (.ref D), some (.int (k : Int)), some (.int way), some (.ref pk), some (.int (0 + (j : Int))), y10, y11, y12] ∧ FrM [O] Hc H6 ∧ H6 pr = some (.lst (g'.map V.int)) ∧ H6 O = some (.lst us6) ∧ Ties H6 us6 (ts ++ news sg (cdb way) k ++ newK sg (cdb way) k j ++ newA (g'.take i) gj))
                  ⟨us5, y10, y11, y12, rfl, fr5.trans (FrM.same (same_new npr)), upd_same, by rw [upd_ne nprO.symm]; exact eO5, ?_⟩ ?_ ?_ ?_
                · have : newA (g'.take 0) gj = [] := rfl
                  rw [this, List.append_nil]
                  exact hT5.mono (tst_new npr)
                · rintro i σ H6 _ ⟨_, _, _, _, _, _, epr, _⟩
                  exact SqL.of epr
                · rintro i x σ H6 hx ⟨us6, y10, y11, y12, rfl, fr6, epr, eO6, hT6⟩
                  have hil : i < g'.length := by
                    have := (List.getElem?_eq_some_iff.mp hx).1
                    rw [List.length_map] at this; exact this
                  have ex : x = .int g'[i] := by
                    rw [List.getElem?_map, List.getElem?_eq_getElem hil] at hx
                    cases hx; rfl
                  subst ex
                  have eD6 := fr6 _ _ (by simp [nOD.symm]) eDc
                  obtain ⟨pj, ej, npj, epj⟩ := id hgj
                  have epj6 := fr6 _ _ (fun z => npj (by simp at z; simp [z])) epj
                  have ln3 := newA_len (g := g'.take i) (h := gj) (x := 12) (y := 12) (by rw [List.length_take]; omega) gjl
                  refine ⟨_, rfl, .inl ⟨rfl, _, SqL.of eO6⟩, ?_⟩
                  refine ⟨_, rfl, _, rfl, D, ss, _, ss[j], rfl, rfl, SqL.of eD6, by rw [Int.zero_add]; exact atI_nat (List.getElem?_eq_getElem hjs), ?_⟩
                  rw [ej]
                  refine ⟨pj, rfl, ⟨_, SqL.of epj6⟩, fun E2 nE2 => ?_⟩
                  refine lc_list (K := K) (a := pj) (xs := gj.map V.int) (fun b H7 => ∃ us7 : List V, Same H6 H7 ∧ H7 E2 = some (.lst us7) ∧ Ties H7 us7 ((gj.take b).map fun y => norm g'[i] y)) ⟨[], same_new nE2, upd_same, by exact trivial⟩ ?_ ?_ ?_
                  · rintro b H7 _ ⟨_, sm7, _⟩
                    exact SqL.of (sm7 _ _ epj6)
                  · rintro b y H7 hy ⟨us7, sm7, eE7, hT7⟩
                    have hbl : b < gj.length := by
                      have := (List.getElem?_eq_some_iff.mp hy).1
                      rw [List.length_map] at this; exact this
                    have ey : y = .int gj[b] := by
                      rw [List.getElem?_map, List.getElem?_eq_getElem hbl] at hy
                      cases hy; rfl
                    subst ey
                    refine ⟨rfl, yes ?_⟩
                    refine ⟨_, rfl, _, rfl, by show 2 ≤ sizeLine; decide, fun l nl => ?_⟩
                    refine ⟨l, [g'[i], gj[b]], rfl, SqL.of upd_same, fun ns' p2 pm2 srt np2 => ?_⟩
                    have e2 := perm2 pm2 srt
                    subst e2
                    refine ⟨p2, _, rfl, .inl ⟨SqL.of upd_same, fun t nt => ?_⟩⟩
                    have s1 : Same H7 (upd H7 l (.lst [.int g'[i], .int gj[b]])) := same_new nl
                    have s2 := s1.trans (same_new (o := .lst (([(norm g'[i] gj[b]).1, (norm g'[i] gj[b]).2]).map V.int)) np2)
                    have s3 := s2.trans (same_new (o := .tup (([(norm g'[i] gj[b]).1, (norm g'[i] gj[b]).2]).map V.int)) nt)
                    refine ⟨us7, s3 _ _ eE7, sz' (by rw [hT7.len, List.length_map, List.length_take]; omega), us7 ++ [.ref t], ?_, upd_same, ?_⟩
                    · exact Same.put (sm7.trans s3) nE2
                    · rw [List.take_add_one, List.getElem?_eq_getElem hbl]
                      show Ties _ _ (((gj.take b) ++ [gj[b]]).map fun y => norm g'[i] y)
                      rw [List.map_append]
                      refine Ties.mono (tst_put (s3 _ _ eE7)) ((hT7.mono (Same.tst s3)).app (Ties.one ?_))
                      exact Tie.new
                  · rintro H7 ⟨us7, sm7, eE7, hT7⟩
                    rw [List.length_map, List.take_length] at hT7
                    have eO7 := sm7 _ _ eO6
                    refine ⟨O, E2, us6, us7, rfl, rfl, eO7, eE7, ?_, ?_⟩
                    · refine sz ?_
                      rw [hT6.len, hT7.len, List.length_map]
                      simp only [List.length_append]
                      omega
                    · refine ⟨us6 ++ us7, _, y11, y12, rfl, (fr6.trans (FrM.same sm7)).put (by simp), by rw [upd_ne nprO]; exact sm7 _ _ epr, upd_same, ?_⟩
                      rw [List.take_add_one, List.getElem?_eq_getElem hil]
                      show Ties _ _ (_ ++ newA (g'.take i ++ [g'[i]]) gj)
                      rw [newA_app, newA_one, ← List.append_assoc]
                      exact Ties.mono (tst_put eO7) ((hT6.mono (Same.tst sm7)).app hT7)
                · rintro σ H6 ⟨us6, y10, y11, y12, rfl, fr6, epr, eO6, hT6⟩
                  refine ⟨us6, _, y10, y11, y12, rfl, fr6, eO6, ?_⟩
                  rw [List.length_map, List.take_length] at hT6
                  rw [newK_succ, gdk, gdj, hg', ← List.append_assoc]
                  exact hT6
              · rintro σ H5 ⟨us5, y9, y10, y11, y12, rfl, fr5, eO5, hT5⟩
                refine ⟨us5, _, _, y9, y10, y11, y12, rfl, fr5, eO5, ?_⟩
                rw [Int.toNat_natCast] at hT5
                rw [news_succ, ← List.append_assoc]
                exact hT5
            · rintro σ H4 ⟨us4, y6, y8, y9, y10, y11, y12, rfl, fr4, eO4, hT4⟩
              rw [l2] at hT4
              -- whole
              refine ⟨Nat.zero_le _, fun W nW => ?_⟩
              have eD4 := fr4 _ _ (by simp [nOD.symm]) eDc
              have eG4 := fr4 _ _ (by simp [nGO]) eGc
              have lf4 : Lf H4 L (c + 200 - 6 * gs.length + 1 + m + 1) := by
                obtain ⟨x, y, z, h1, h2⟩ := lfc
                exact ⟨x, y, z, fr4 _ _ (by simp [nOL.symm]) h1, h2⟩
              have nWL : W ≠ L := lf4.ne nW
              have nWG : W ≠ G := fun z => by rw [z, eG4] at nW; cases nW
              have nWO : W ≠ O := fun z => by rw [z, eO4] at nW; cases nW
              have nWD : W ≠ D := fun z => by rw [z, eD4] at nW; cases nW
              refine ⟨_, rfl, D, rfl, ⟨_, SqL.of (by rw [upd_ne nWD.symm]; exact eD4)⟩, ?_⟩
              refine for_list (K := K) (a := D) (xs := ss) (fun i σ H5 => ∃ (y8 : Option V), σ = [some (.ref L), some (.int (n : Int)), some (.ref G), y3, some (.ref O), some (.ref D), y6, some (.int way), y8, y9, y10, y11, some (.ref W)] ∧ Same H4 H5 ∧ H5 W = some (.lst ((sg.take i).flatten.map V.int)))
                ⟨y8, rfl, same_new nW, upd_same⟩ ?_ ?_ ?_
              · rintro i σ H5 _ ⟨_, _, sm5, _⟩
                exact SqL.of (sm5 _ _ eD4)
              · rintro i x σ H5 hx ⟨y8, rfl, sm5, eW⟩
                obtain ⟨gi, egi, hgi⟩ := hSc.at hx
                obtain ⟨pi, rfl, npi, epi⟩ := hgi
                have epi5 := sm5 _ _ (fr4 _ _ (fun z => npi (by simp at z; simp [z])) epi)
                have fl : ((sg.take i).flatten).length ≤ n := by
                  have e1 := pf.length_eq
                  rw [up_len, List.flatten_append, List.length_append] at e1
                  have e2 : (sg.flatten).length = ((sg.take i).flatten).length + ((sg.drop i).flatten).length := by
                    rw [← List.length_append, ← List.flatten_append, List.take_append_drop]
                  omega
                have gil : gi.length ≤ 12 := by
                  have := gl i
                  rw [List.getD_eq_getElem?_getD, egi] at this
                  exact this
                refine ⟨_, rfl, .inl ⟨rfl, _, SqL.of eW⟩, _, rfl, ?_⟩
                refine ⟨W, pi, _, _, rfl, rfl, eW, epi5, sz (by rw [List.length_map, List.length_map]; omega), ?_⟩
                refine ⟨_, rfl, Same.put sm5 nW, ?_⟩
                rw [upd_same, List.take_add_one, egi]
                show some (HO.lst _) = some (.lst ((sg.take i ++ [gi]).flatten.map V.int))
                rw [List.flatten_append, List.map_append]
                simp
              · rintro σ H5 ⟨y8, rfl, sm5, eW⟩
                rw [l2, List.take_length] at eW
                have eG5 := sm5 _ _ eG4
                refine ⟨_, rfl, .inl ⟨rfl, _, SqL.of eG5⟩, _, rfl, ?_⟩
                refine ⟨G, vs', _, rfl, rfl, eG5, sz' (by omega), ?_⟩
                have nI := hI.next pm (cdb way)
                have all : ∀ v g, Gp [D, L, G, O] Hc v g → Gp [L, G, O] (upd H5 G (.lst (vs' ++ [.ref W]))) v g := fun v g h => by
                  obtain ⟨p, e, np, hh⟩ := h
                  refine ⟨p, e, fun z => np (List.mem_cons_of_mem _ z), ?_⟩
                  have : p ≠ G := fun z => np (by simp [z])
                  rw [upd_ne this]
                  exact sm5 _ _ (fr4 _ _ (fun z => np (by simp at z; simp [z])) hh)
                refine ⟨⟨vs' ++ [.ref W], gs' ++ [sg.flatten], us4, ts ++ news sg (cdb way) sg.length, y3, _, y6, _, y8, y9, y10, y11, _, rfl, ?_, ?_, upd_same, ?_, ?_, ?_, nI, ?_⟩, ?_⟩
                · refine Fr.put (fun b o nb e => sm5 _ _ (fr4 b o (fun z => ?_) (frHc b o nb e))) HG
                  simp only [List.mem_cons, List.not_mem_nil, or_false] at z
                  rw [z, HO'] at e; cases e
                · refine Lf.put ((lf4.same sm5).mono ?_) nGL
                  rw [List.length_append]
                  show _ ≤ c + 200 - 6 * ((gs'.length + 1 : Nat) : Int)
                  omega
                · refine (hVc.imp all).app ⟨⟨W, rfl, by simp [nWL, nWG, nWO], ?_⟩, trivial⟩
                  rw [upd_ne nWG]; exact eW
                · rw [upd_ne nGO.symm]; exact sm5 _ _ eO4
                · exact (hT4.mono (Same.tst sm5)).mono (tst_put eG5)
                · rw [List.length_append]
                  show gs'.length + 1 ≤ 12
                  omega
                · rw [upd_same, eG3]
                  show (vs' ++ [V.ref W]).length < vs.length
                  rw [List.length_append]
                  show vs'.length + 1 < vs.length
                  omega
        · -- the end: sorted
          refine ⟨_, rfl, _, rfl, O, us, My.key H3, rfl, SqL.of eO3, hT.all, fun ys p hs hst np => ?_⟩
          obtain ⟨ts', hT', pm', pw⟩ := srt_ties hs hst.perm hT
          refine ⟨p, ys, rfl, .inl ⟨SqL.of upd_same, fun t nt => ?_⟩⟩
          refine ⟨by show 2 ≤ sizeLine; decide, fun u nu => ?_⟩
          have s9 := ((same_new (H := H3) (o := .lst ys) np).trans (same_new (o := .tup ys) nt)).trans (same_new (o := .tup [.int (n : Int), .ref t]) nu)
          refine q _ _ ts' ?_ ?_ ⟨u, t, ys, rfl, upd_same, ?_, ?_⟩ ⟨?_, ?_⟩
          · exact fr3.trans (Fr.of s9)
          · exact (lf3.mono (by omega)).same s9
          · rw [upd_ne (ne_of_none upd_same nu)]; exact upd_same
          · exact hT'.mono (Same.tst s9)
          · exact pw_lt pw (pm'.nodup_iff.mpr hI.nd)
          · exact fun t' h' => hI.bd t' (pm'.mem_iff.mp h')
      · rintro σ H3 Q1 Q2 hQ ⟨v, hv, p, ys, e, hs, i, j, e1, e2, b, e3, qq⟩
        exact ⟨v, hv, p, ys, e, hs, i, j, e1, e2, b, e3, hQ _ _ qq⟩
end
end My

set_option Elab.async false
set_option linter.all false
set_option maxRecDepth 100000
namespace My
open PySem PySem.Spec PyProof.Rows L2
section
variable {P : Program} {w : World} {K : PySem.W.Frag} {mg : Str → Option Value} {base : Heap}

/-! ### _law_web -/
abbrev s__law_web : Stmt := topS 20
abbrev N__law_web : List Str := ["_law_left_here", "_law_most", "_law_many", "_law_way"]
theorem sc__law_web : FnScope N__law_web ["_law_left_here", "_law_most"] (defScope s__law_web) := ⟨rfl, rfl, rfl, by decide +kernel, rfl, by decide +kernel, by decide +kernel⟩
def sp_web : Sp := fun vs H Q _ => ∃ (L : Addr) (most : Nat) (c : Int), vs = [.ref L, .int (most : Int)] ∧ Lf H L c ∧ most ≤ 12 ∧ c < 2 ^ 47 ∧
  ∀ (v : V) (H' : Hp) (n : Nat) (ts : List (Int × Int)), n ≤ most → Fr L H H' → Lf H' L (c + 200000) → Web H' v n ts → WOk n ts → Q v H'
theorem ok_web {f : Addr} {fd : FuncData} (B : Bts mg) (F : Fun K "_law_web" "_law_web" s__law_web f fd) (c__law_pick : Cl P w K mg base 2 "_law_pick" sp_pick) (c__law_any_web : Cl P w K mg base 3 "_law_any_web" sp_gen)
    (c__law_row_web : Cl P w K mg base 4 "_law_row_web" sp_gen) (c__law_put_together : Cl P w K mg base 4 "_law_put_together" sp_gen) (c__law_ring_web : Cl P w K mg base 4 "_law_ring_web" sp_gen) :
    FnOk P w K mg base CX0 5 f fd ["_law_left_here", "_law_most"] sp_web := by
  refine F.ok sc__law_web (fun vs H Q E h => ?_) (fun cdv A outer s H vs Q E hr h => ?_)
  · obtain ⟨L, n, c, rfl, _⟩ := h; rfl
  · obtain ⟨L, most, c, rfl, hL, hm, hc, q⟩ := h
    refine ⟨_, (pss_cons (ps_set (i := 2) sc__law_web.nd rfl (by first | exact Or.inl rfl | exact Or.inr rfl) (pe_callB (call_min2 rfl) (by rfl) B.min (by decide +kernel) (pa_cons (pv 1) (pa_cons (pe_ix ix_list (pe_lst (pa_cons pe_int (pa_cons pe_int (pa_cons pe_int (pa_cons pe_int (pa_cons pe_int (pa_cons pe_int (pa_cons pe_int (pa_cons pe_int (pa_cons pe_int (pa_cons pe_int (pa_cons pe_int (pa_cons (pe_op op_add pe_int (pe_c c__law_pick hr (by decide) (by rfl) (pa_cons (pv 0) (pa_cons pe_int pa_nil)))) pa_nil))))))))))))) (pe_c c__law_pick hr (by decide) (by rfl) (pa_cons (pv 0) (pa_cons pe_int pa_nil))) (fun _ _ => rfl)) pa_nil))))
    (pss_cons (ps_set (i := 3) sc__law_web.nd rfl (by first | exact Or.inl rfl | exact Or.inr rfl) (pe_c c__law_pick hr (by decide) (by rfl) (pa_cons (pv 0) (pa_cons pe_int pa_nil))))
    (pss_cons (ps_if (pt_cmpR op_lt (pv 3) pe_int (nomark _)) (pss_one (ps_ret (pe_c c__law_any_web hr (by decide) (by rfl) (pa_cons (pv 0) (pa_cons (pv 2) pa_nil))))) pss_nil)
    (pss_cons (ps_if (pt_cmpR op_lt (pv 3) pe_int (nomark _)) (pss_one (ps_ret (pe_c c__law_row_web hr (by decide) (by rfl) (pa_cons (pv 0) (pa_cons (pv 2) pa_nil))))) pss_nil)
    (pss_cons (ps_if (pt_cmpR op_lt (pv 3) pe_int (nomark _)) (pss_one (ps_ret (pe_c c__law_put_together hr (by decide) (by rfl) (pa_cons (pv 0) (pa_cons (pv 2) pa_nil))))) pss_nil)
    (pss_one (ps_ret (pe_c c__law_ring_web hr (by decide) (by rfl) (pa_cons (pv 0) (pa_cons (pv 2) pa_nil)))))))))), ?_⟩
    refine ⟨_, rfl, ?_⟩
    refine ⟨_, rfl, L, _, c, rfl, hL, by decide, by decide, by omega, fun r0 H1 r00 r01 fr1 lf1 => ?_⟩
    refine ⟨_, _, rfl, rfl, by show 12 ≤ sizeLine; decide, fun p np => ?_⟩
    refine ⟨_, rfl, L, _, c + 1, rfl, lf1.new np, by decide, by decide, by omega, fun r1 H2 r10 r11 fr2 lf2 => ?_⟩
    have ep : H2 p = some (.lst (([0, 1, 2, 3, 4, 5, 6, 4, 5, 6, 5, 7 + r0] : List Int).map V.int)) := fr2 _ _ (lf1.ne np) upd_same
    obtain ⟨x, ex, mx⟩ := at_mem (ns := [0, 1, 2, 3, 4, 5, 6, 4, 5, 6, 5, 7 + r0]) (j := r1) (by show -(12 : Int) ≤ r1; omega) (by show r1 < (12 : Int); omega)
    have bx : 0 ≤ x ∧ x ≤ 12 := by
      simp only [List.mem_cons, List.not_mem_nil, or_false] at mx
      omega
    refine ⟨p, _, r1, _, rfl, rfl, SqL.of ep, ex, _, _, rfl, ?_⟩
    have hn : ∃ n : Nat, (if x < (most : Int) then x else (most : Int)) = (n : Int) ∧ n ≤ most := by
      by_cases z : x < (most : Int)
      · rw [if_pos z]; exact ⟨x.toNat, by omega, by omega⟩
      · rw [if_neg z]; exact ⟨most, rfl, Nat.le_refl _⟩
    obtain ⟨n, en, hn⟩ := hn
    rw [en]
    refine ⟨_, rfl, L, _, c + 1 + 1, rfl, lf2, by decide, by decide, by omega, fun way H3 wa wb fr3 lf3 => ?_⟩
    have frA : Fr L H H3 := ((fr1.trans (Fr.new np)).trans fr2).trans fr3
    have fin : ∀ (v : V) (H' : Hp) (ts : List (Int × Int)), Fr L H3 H' → Lf H' L (c + 1 + 1 + 1 + 100000) → Web H' v n ts → WOk n ts → Q v H' :=
      fun v H' ts a b c d => q v H' n ts hn (frA.trans a) (b.mono (by omega)) c d
    refine ⟨_, rfl, _, _, rfl, rfl, _, rfl, ite2 (fun e => ?_) (fun e => ?_)⟩
    · exact ⟨_, rfl, _, rfl, L, n, _, rfl, lf3, by omega, by omega, fin⟩
    refine ⟨_, rfl, _, _, rfl, rfl, _, rfl, ite2 (fun e => ?_) (fun e => ?_)⟩
    · exact ⟨_, rfl, _, rfl, L, n, _, rfl, lf3, by omega, by omega, fin⟩
    refine ⟨_, rfl, _, _, rfl, rfl, _, rfl, ite2 (fun e => ?_) (fun e => ?_)⟩
    · exact ⟨_, rfl, _, rfl, L, n, _, rfl, lf3, by omega, by omega, fin⟩
    · exact ⟨_, rfl, _, rfl, L, n, _, rfl, lf3, by omega, by omega, fin⟩
end
end My

set_option Elab.async false
set_option linter.all false
set_option maxRecDepth 100000
namespace My
open PySem PySem.Spec PyProof.Rows L2 GxR
section
variable {P : Program} {w : World} {K : PySem.W.Frag} {mg : Str → Option Value} {base : Heap}

/-! ### is_number, is_pair, is_tie -/
abbrev s_is_number : Stmt := topS 1
abbrev N_is_number : List Str := ["thing"]
theorem sc_is_number : FnScope N_is_number ["thing"] (defScope s_is_number) := ⟨rfl, rfl, rfl, by decide +kernel, rfl, by decide +kernel, by decide +kernel⟩
def sp_num : Sp := fun vs H Q _ => ∃ i : Int, vs = [.int i] ∧ Q (.bl true) H
theorem ok_number {f : Addr} {fd : FuncData} (B : Bts mg) (F : Fun K "is_number" "is_number" s_is_number f fd) : FnOk P w K mg base CX0 1 f fd ["thing"] sp_num := by
  refine F.ok sc_is_number (fun vs H Q E h => ?_) (fun cdv A outer s H vs Q E hr h => ?_)
  · obtain ⟨i, rfl, _⟩ := h; rfl
  · obtain ⟨i, rfl, q⟩ := h
    refine ⟨_, (pss_one (ps_ret (pe_and (pe_callB call_isi (by rfl) B.isinstance (by decide +kernel) (pa_cons (pv 0) (pa_cons (pe_bltn (v := .ty "int") (by rfl) B.int (by decide +kernel) rfl) pa_nil))) (pe_one (pe_not (pe_callB call_isi (by rfl) B.isinstance (by decide +kernel) (pa_cons (pv 0) (pa_cons (pe_bltn (v := .ty "bool") (by rfl) B.bool (by decide +kernel) rfl) pa_nil)))))))), ?_⟩
    refine ⟨_, rfl, _, _, _, _, true, rfl, .ty _, .base (.int i), kit_ty (by decide +kernel), true, rfl, iteT ?_⟩
    exact ⟨_, rfl, _, _, _, _, false, rfl, .ty _, .base (.int i), kit_ty (by decide +kernel), false, rfl, q⟩
abbrev s_is_pair : Stmt := topS 2
abbrev N_is_pair : List Str := ["thing"]
theorem sc_is_pair : FnScope N_is_pair ["thing"] (defScope s_is_pair) := ⟨rfl, rfl, rfl, by decide +kernel, rfl, by decide +kernel, by decide +kernel⟩
def sp_pair : Sp := fun vs H Q _ => ∃ v t, vs = [v] ∧ Tie H v t ∧ Q (.bl true) H
theorem ok_pair {f : Addr} {fd : FuncData} (B : Bts mg) (F : Fun K "is_pair" "is_pair" s_is_pair f fd) (c_is_number : Cl P w K mg base 1 "is_number" sp_num) : FnOk P w K mg base CX0 2 f fd ["thing"] sp_pair := by
  refine F.ok sc_is_pair (fun vs H Q E h => ?_) (fun cdv A outer s H vs Q E hr h => ?_)
  · obtain ⟨v, t, rfl, _⟩ := h; rfl
  · obtain ⟨v, t, rfl, ⟨p, rfl, ep⟩, q⟩ := h
    refine ⟨_, (pss_one (ps_ret (pe_and (pe_callB call_isi (by rfl) B.isinstance (by decide +kernel) (pa_cons (pv 0) (pa_cons (pe_bltn (v := .ty "tuple") (by rfl) B.tuple (by decide +kernel) rfl) pa_nil))) (pe_and (pe_cmpR op_eq (pe_callB call_len_seq (by rfl) B.len (by decide +kernel) (pa_cons (pv 0) pa_nil)) pe_int (nomark _)) (pe_and (pe_c c_is_number hr (by decide) (by rfl) (pa_cons (pe_ix ix_tup (pv 0) pe_int (fun _ _ => rfl)) pa_nil)) (pe_one (pe_c c_is_number hr (by decide) (by rfl) (pa_cons (pe_ix ix_tup (pv 0) pe_int (fun _ _ => rfl)) pa_nil)))))))), ?_⟩
    refine ⟨_, rfl, _, _, _, _, true, rfl, .ty _, .base (.tup ep), kit_ty (by decide +kernel), true, rfl, iteT ?_⟩
    refine ⟨_, rfl, p, _, rfl, .inr (SqT.of ep), rfl, true, rfl, iteT ?_⟩
    refine ⟨_, rfl, p, _, _, _, rfl, rfl, SqT.of ep, rfl, _, rfl, true, rfl, iteT ?_⟩
    exact ⟨_, rfl, p, _, _, _, rfl, rfl, SqT.of ep, rfl, _, rfl, q⟩
abbrev s_is_tie : Stmt := topS 5
abbrev N_is_tie : List Str := ["many", "thing"]
theorem sc_is_tie : FnScope N_is_tie ["many", "thing"] (defScope s_is_tie) := ⟨rfl, rfl, rfl, by decide +kernel, rfl, by decide +kernel, by decide +kernel⟩
def sp_tie : Sp := fun vs H Q _ => ∃ (n : Nat) (v : V) (t : Int × Int), vs = [.int (n : Int), v] ∧ Tie H v t ∧ 0 ≤ t.1 ∧ t.1 < t.2 ∧ t.2 < (n : Int) ∧ Q (.bl true) H
theorem ok_tie {f : Addr} {fd : FuncData} (B : Bts mg) (F : Fun K "is_tie" "is_tie" s_is_tie f fd) (c_is_pair : Cl P w K mg base 2 "is_pair" sp_pair) : FnOk P w K mg base CX0 3 f fd ["many", "thing"] sp_tie := by
  refine F.ok sc_is_tie (fun vs H Q E h => ?_) (fun cdv A outer s H vs Q E hr h => ?_)
  · obtain ⟨n, v, t, rfl, _⟩ := h; rfl
  · obtain ⟨n, v, t, rfl, hT, h1, h2, h3, q⟩ := h
    have hT' := hT
    obtain ⟨p, rfl, ep⟩ := hT'
    refine ⟨_, (pss_one (ps_ret (pe_and (pe_c c_is_pair hr (by decide) (by rfl) (pa_cons (pv 1) pa_nil)) (pe_one (pe_chain3 op_le op_lt op_lt pe_int (pe_ix ix_tup (pv 1) pe_int (fun _ _ => rfl)) (pe_ix ix_tup (pv 1) pe_int (fun _ _ => rfl)) (pv 0)))))), ?_⟩
    refine ⟨_, rfl, _, t, rfl, hT, true, rfl, iteT ?_⟩
    refine ⟨_, rfl, p, _, _, _, rfl, rfl, SqT.of ep, rfl, _, _, rfl, rfl, _, rfl, ?_⟩
    rw [decide_eq_true h1]
    refine iteT ⟨_, rfl, p, _, _, _, rfl, rfl, SqT.of ep, rfl, _, _, rfl, rfl, _, rfl, ?_⟩
    rw [decide_eq_true h2]
    refine iteT ⟨_, rfl, _, _, rfl, rfl, ?_⟩
    show Q (.bl (decide (t.2 < (n : Int)))) H
    rw [decide_eq_true h3]
    exact q

/-! ### is_rising -/
abbrev s_is_rising : Stmt := topS 6
abbrev N_is_rising : List Str := ["row", "one", "later"]
theorem sc_is_rising : FnScope N_is_rising ["row"] (defScope s_is_rising) := ⟨rfl, rfl, rfl, by decide +kernel, rfl, by decide +kernel, by decide +kernel⟩
def sp_rising (PT : Addr) : Sp := fun vs H Q _ => ∃ (q : Addr) (us : List V) (ts : List (Int × Int)), vs = [.ref q] ∧ H q = some (.tup us) ∧ Ties H us ts ∧ ts.Pairwise ltT ∧ ts.length ≤ 10000 ∧ TabG H PT ∧
  ∀ H', FrM [PT] H H' → TabG H' PT → Q (.bl true) H'
theorem tabG_new {H : Hp} {P p : Addr} {o : HO} (h : TabG H P) (e : H p = none) : TabG (upd H p o) P := by
  obtain ⟨ps, h1, h2⟩ := h
  exact ⟨ps, by rw [upd_ne (ne_of_none h1 e)]; exact h1, h2⟩
theorem tb_frM {H H' : Hp} {P : Addr} (h : Tabbed P H H') : FrM [P] H H' := fun b o n e => by
  rw [h.2 b (fun z => n (by rw [z]; exact List.mem_singleton.mpr rfl))]; exact e
theorem tb_tst {H H' : Hp} {P : Addr} (h : Tabbed P H H') (hP : TabG H P) : Tst H H' := fun b xs e => by
  refine tb_frM h b _ (fun z => ?_) e
  obtain ⟨ps, h1, _⟩ := hP
  rw [List.mem_singleton.mp z, h1] at e; cases e
theorem ok_rising {f c PT : Addr} {fd : FuncData} (B : Bts mg) (F : Fun K "is_rising" "is_rising" s_is_rising f fd) (hc : fd.code = .ref c) (TB : TabB base mg c PT) :
    FnOk P w K mg base CX0 2 f fd ["row"] (sp_rising PT) := by
  refine okC F hc sc_is_rising (fun vs H Q E h => ?_) (fun A outer s H vs Q E hr h => ?_)
  · obtain ⟨v, us, t, rfl, _⟩ := h; rfl
  · obtain ⟨qa, us, ts, rfl, eq, hT, pw, hl, tg, q⟩ := h
    refine ⟨_, (pss_one (ps_ret (pe_allG (own := [("one", 1), ("later", 2)]) (g := (gTup K 2 (gCons (gName 1) (gCons (gName 2) gNil)))) (te := (tOp (rLtT K) _ _)) rfl sc_is_rising.nd hr (by rfl) B.all TB rfl ⟨rfl, by decide +kernel, rfl⟩ (blkOk_by (own := [("one", 1), ("later", 2)]) (N := N_is_rising) (sc := defScope s_is_rising) (by decide +kernel)) (RZ.pi_zipA (by rfl) B.zip (pa_cons (pv 0) (pa_cons (pe_slice sl_tupA (pv 0) (po_some pe_int) po_none) pa_nil))) (fun _ _ _ _ _ _ _ => (pg_tup rfl (pgs_cons (pg_name (i := 1) sc_is_rising.nd rfl (by first | exact Or.inl rfl | exact Or.inr rfl)) (pgs_cons (pg_name (i := 2) sc_is_rising.nd rfl (by first | exact Or.inl rfl | exact Or.inr rfl)) pgs_nil)))) (fun _ _ _ _ _ _ _ hr => (pe_cmpR (op_ltT hr.units0) (pv 1) (pv 2) (nomark _)))))), ?_⟩
    have key : ∀ (b : Addr) (H1 : Hp), Same H H1 → TabG H1 PT → H1 b = some (.tup (us.drop 1)) →
        (fun J H2 => TabG H2 PT ∧ ∀ H3, Tabbed PT H2 H3 → ∃ W : Nat → Nat → Hp → Prop, (∃ m, W 0 m H3) ∧ ∀ i m H, W i m H → (J.stop i H ∧ Q (.bl true) H) ∨
          (J.go i H ∧ ∃ Nx : Hp → Prop, (∀ H', Nx H' → ∃ m', m' < m ∧ W (i + 1) m' H') ∧ ∀ x H', J.yld i H x H' → (gTup K 2 (gCons (gName 1) (gCons (gName 2) gNil))) x (wipe (start N_is_rising [V.ref qa]) [1, 2]) H' fun σ2 H2 => wipe σ2 [1, 2] = wipe (start N_is_rising [V.ref qa]) [1, 2] ∧
            (tOp (rLtT K) (tVar 1) (tVar 2)) σ2 H2 fun y H3 => ∃ b, y = .bl b ∧ if b = true then Nx H3 else Q (.bl false) H3)) (RZ.ItzT K qa b) H1 := by
      intro b H1 sm tg1 eb
      refine ⟨tg1, fun H3 tb => ?_⟩
      have t3 : Tst H H3 := (Same.tst sm).trans (tb_tst tb tg1)
      refine allG_it (walk_zipT (K := K) (a := qa) (b := b) (xs := us) (ys := us.drop 1) rfl) (fun i H4 => FrM [PT] H H4 ∧ TabG H4 PT ∧ Tst H H4 ∧ H4 b = some (.tup (us.drop 1)))
        ⟨(FrM.same sm).trans (tb_frM tb), tb.1, t3, tb_tst tb tg1 _ _ eb⟩ ?_ ?_ ?_
      · rintro i H4 _ ⟨_, _, t4, e4⟩
        exact ⟨SqT.of (t4 _ _ eq), SqT.of e4⟩
      · rintro i x H4 H5 hi ⟨fr4, tg4, t4, e4⟩ ⟨T, x1, x2, rfl, nT, rfl, ex1, ex2⟩
        dsimp only at ex1 ex2
        obtain ⟨s1, es1, hs1⟩ := (hT.mono t4).at ex1
        rw [List.getElem?_drop] at ex2
        obtain ⟨s2, es2, hs2⟩ := (hT.mono t4).at ex2
        have lt : ltT s1 s2 := by
          have h1 := (List.getElem?_eq_some_iff.mp es1)
          have h2 := (List.getElem?_eq_some_iff.mp es2)
          obtain ⟨l1, e1⟩ := h1
          obtain ⟨l2, e2⟩ := h2
          have := (List.pairwise_iff_getElem.mp pw) i (1 + i) l1 l2 (by omega)
          rw [e1, e2] at this
          exact this
        have a5 := tst_new (o := .tup [x1, x2]) nT
        obtain ⟨p1, rfl, ep1⟩ := hs1.mono a5
        obtain ⟨p2, rfl, ep2⟩ := hs2.mono a5
        refine ⟨T, _, rfl, SqT.of upd_same, rfl, _, _, rfl, _, _, rfl, rfl, rfl, ?_⟩
        refine ⟨_, rfl, _, rfl, p1, p2, [s1.1, s1.2], [s2.1, s2.2], rfl, rfl, SqT.of ep1, SqT.of ep2, _, rfl, ?_⟩
        rw [lex_of lt]
        refine iteT ⟨fr4.trans (FrM.same (same_new nT)), tabG_new tg4 nT, t4.trans a5, ?_⟩
        exact a5 _ _ e4
      · rintro H4 ⟨fr4, tg4, _⟩
        exact q H4 fr4 tg4
    refine ⟨_, rfl, _, rfl, _, rfl, qa, us, rfl, SqT.of eq, fun hw => ?_, fun hw b nb => ?_⟩
    · -- the empty tuple is its own slice
      have e0 : us = [] := by
        cases us with
        | nil => rfl
        | cons a r =>
          have h1 := hw.1
          rw [show HT.sIx (a :: r).length 0 (some 1) = min 1 (a :: r).length from HT.sIx_nat _ 0 1, List.length_cons] at h1
          omega
      subst e0
      exact ⟨qa, qa, _, _, rfl, .inr ⟨SqT.of eq, SqT.of eq, key qa H (Same.refl H) tg eq⟩⟩
    · rw [cut1]
      have sm := same_new (o := .tup (us.drop 1)) nb
      exact ⟨qa, b, _, _, rfl, .inr ⟨SqT.of (sm _ _ eq), SqT.of upd_same, key b _ sm (tabG_new tg nb) upd_same⟩⟩

/-! ### is_web -/
abbrev s_is_web : Stmt := topS 4
abbrev N_is_web : List Str := ["thing", "many", "ties", "tie"]
theorem sc_is_web : FnScope N_is_web ["thing"] (defScope s_is_web) := ⟨rfl, rfl, rfl, by decide +kernel, rfl, by decide +kernel, by decide +kernel⟩
def sp_is_web (P1 P2 : Addr) : Sp := fun vs H Q _ => ∃ (v : V) (n : Nat) (ts : List (Int × Int)), vs = [v] ∧ Web H v n ts ∧ WOk n ts ∧ ts.length ≤ 10000 ∧ TabG H P1 ∧ TabG H P2 ∧
  ∀ H', FrM [P1, P2] H H' → TabG H' P1 → TabG H' P2 → Q (.bl true) H'
theorem ok_is_web {f c P1 P2 : Addr} {fd : FuncData} (B : Bts mg) (F : Fun K "is_web" "is_web" s_is_web f fd) (hc : fd.code = .ref c) (TB : TabB base mg c P1) (hne : P1 ≠ P2)
    (c_is_number : Cl P w K mg base 1 "is_number" sp_num) (c_is_tie : Cl P w K mg base 3 "is_tie" sp_tie) (c_is_rising : Cl P w K mg base 2 "is_rising" (sp_rising P2)) :
    FnOk P w K mg base CX0 5 f fd ["thing"] (sp_is_web P1 P2) := by
  refine okC F hc sc_is_web (fun vs H Q E h => ?_) (fun A outer s H vs Q E hr h => ?_)
  · obtain ⟨v, us, t, rfl, _⟩ := h; rfl
  · obtain ⟨v, n, ts, rfl, ⟨p, qa, us, rfl, ep, eq, hT⟩, hW, hl, tg1, tg2, q⟩ := h
    refine ⟨_, (pss_cons (ps_if (PW.pt (pw_or (pt_not (pt_val (pe_callB call_isi (by rfl) B.isinstance (by decide +kernel) (pa_cons (pv 0) (pa_cons (pe_bltn (v := .ty "tuple") (by rfl) B.tuple (by decide +kernel) rfl) pa_nil))))) (pw_or1 (pt_cmpR op_ne (pe_callB call_len_seq (by rfl) B.len (by decide +kernel) (pa_cons (pv 0) pa_nil)) pe_int (nomark _))))) (pss_one (ps_ret pe_bl)) pss_nil)
    (pss_cons (ps_asg (pv 0) (pg_tup rfl (pgs_cons (pg_name (i := 1) sc_is_web.nd rfl (by first | exact Or.inl rfl | exact Or.inr rfl)) (pgs_cons (pg_name (i := 2) sc_is_web.nd rfl (by first | exact Or.inl rfl | exact Or.inr rfl)) pgs_nil))))
    (pss_cons (ps_if (PW.pt (pw_or (pt_not (pt_val (pe_c c_is_number hr (by decide) (by rfl) (pa_cons (pv 1) pa_nil)))) (pw_or (pt_cmpR op_lt (pv 1) pe_int (nomark _)) (pw_or1 (pt_not (pt_val (pe_callB call_isi (by rfl) B.isinstance (by decide +kernel) (pa_cons (pv 2) (pa_cons (pe_bltn (v := .ty "tuple") (by rfl) B.tuple (by decide +kernel) rfl) pa_nil))))))))) (pss_one (ps_ret pe_bl)) pss_nil)
    (pss_one (ps_ret (pe_and (pe_allG (own := [("tie", 3)]) (g := (gName 3)) rfl sc_is_web.nd hr (by rfl) B.all TB rfl ⟨rfl, by decide +kernel, rfl⟩ (blkOk_by (own := [("tie", 3)]) (N := N_is_web) (sc := defScope s_is_web) (by decide +kernel)) (pi_tup (pv 2)) (fun _ _ _ _ _ _ _ => (pg_name (i := 3) sc_is_web.nd rfl (by first | exact Or.inl rfl | exact Or.inr rfl))) (fun _ _ _ _ _ _ _ hr => (pe_c c_is_tie hr (by decide) (by rfl) (pa_cons (pv 1) (pa_cons (pv 3) pa_nil))))) (pe_one (pe_c c_is_rising hr (by decide) (by rfl) (pa_cons (pv 2) pa_nil))))))))), ?_⟩
    refine ⟨_, rfl, _, _, _, _, true, rfl, .ty _, .base (.tup ep), kit_ty (by decide +kernel), true, rfl, iteF ?_⟩
    refine ⟨_, rfl, p, _, rfl, .inr (SqT.of ep), rfl, _, rfl, ?_⟩
    refine iteF ?_
    refine ⟨_, rfl, p, _, rfl, SqT.of ep, rfl, _, _, rfl, _, _, rfl, rfl, ?_⟩
    refine ⟨_, rfl, (n : Int), rfl, true, rfl, iteF ?_⟩
    refine ⟨_, rfl, _, _, rfl, rfl, _, rfl, ?_⟩
    rw [decide_eq_false (by omega : ¬ ((n : Int) < 0))]
    refine iteF ?_
    refine ⟨_, rfl, _, _, _, _, true, rfl, .ty _, .base (.tup eq), kit_ty (by decide +kernel), true, rfl, iteF ?_⟩
    refine ⟨_, rfl, qa, rfl, ⟨_, SqT.of eq⟩, tg1, fun H2 tb => ?_⟩
    have nP2 : ∀ {Hx Hy : Hp}, Tabbed P1 Hx Hy → TabG Hx P2 → TabG Hy P2 := fun {Hx Hy} tb ⟨ps, h1, h2⟩ => ⟨ps, by rw [tb.2 P2 hne.symm]; exact h1, h2⟩
    refine allG_it (walk_tup (K := K) (a := qa) (xs := us)) (fun i H3 => H3 = H2) rfl ?_ ?_ ?_
    · rintro i H3 _ rfl
      exact SqT.of (tb_tst tb tg1 _ _ eq)
    · rintro i x H3 H4 hi rfl ⟨rfl, hx⟩
      obtain ⟨t, et, ht⟩ := (hT.mono (tb_tst tb tg1)).at hx
      have b := hW.2 t (List.mem_of_getElem? et)
      refine ⟨rfl, _, rfl, _, rfl, n, x, t, rfl, ht, b.1, b.2.1, b.2.2, true, rfl, iteT rfl⟩
    · rintro H3 rfl
      refine ⟨true, rfl, iteT ?_⟩
      have t3 := tb_tst tb tg1
      refine ⟨_, rfl, qa, us, ts, rfl, t3 _ _ eq, hT.mono t3, hW.1, hl, nP2 tb tg2, fun H4 fr4 tg4 => ?_⟩
      refine q H4 (((tb_frM tb).wk (by simp)).trans (fr4.wk (by simp))) ?_ tg4
      obtain ⟨ps, h1, h2⟩ := tb.1
      exact ⟨ps, fr4 _ _ (by simp [hne]) h1, h2⟩
end
end My

set_option Elab.async false
set_option linter.all false
set_option maxRecDepth 100000
namespace My
open PySem PySem.Spec PyProof.Rows L2 GxR

/-! ### things alike -/
def Atom (x : V) : Prop := x = .non ∨ (∃ b, x = .bl b) ∨ (∃ i, x = .int i) ∨ ∃ z, x = .str z
def Eqd : Nat → Hp → V → V → Prop
  | 0, _, x, y => x = y ∧ Atom x
  | m + 1, H, x, y => (x = y ∧ Atom x) ∨ ∃ a b xs ys, x = .ref a ∧ y = .ref b ∧ ((H a = some (.tup xs) ∧ H b = some (.tup ys)) ∨ (H a = some (.lst xs) ∧ H b = some (.lst ys))) ∧
      xs.length = ys.length ∧ xs.length ≤ 10000 ∧ ∀ (i : Nat) (v u : V), xs[i]? = some v → ys[i]? = some u → Eqd m H v u
theorem Eqd.mono : ∀ {m : Nat} {H H' : Hp} {x y : V}, Same H H' → Eqd m H x y → Eqd m H' x y
  | 0, _, _, _, _, _, h => h
  | m + 1, H, H', _, _, s, .inl h => .inl h
  | m + 1, H, H', _, _, s, .inr ⟨a, b, xs, ys, e1, e2, h, l, l2, k⟩ => .inr ⟨a, b, xs, ys, e1, e2, h.imp (fun z => ⟨s _ _ z.1, s _ _ z.2⟩) (fun z => ⟨s _ _ z.1, s _ _ z.2⟩), l, l2, fun i v u e f => Eqd.mono s (k i v u e f)⟩
theorem Eqd.int {m : Nat} {H : Hp} {i : Int} : Eqd m H (.int i) (.int i) := by
  cases m with
  | zero => exact ⟨rfl, .inr (.inr (.inl ⟨i, rfl⟩))⟩
  | succ m => exact .inl ⟨rfl, .inr (.inr (.inl ⟨i, rfl⟩))⟩
theorem Eqd.up : ∀ {m : Nat} {H : Hp} {x y : V}, Eqd m H x y → Eqd (m + 1) H x y
  | 0, _, _, _, h => .inl h
  | m + 1, _, _, _, .inl h => .inl h
  | m + 1, _, _, _, .inr ⟨a, b, xs, ys, e1, e2, h, l, l2, k⟩ => .inr ⟨a, b, xs, ys, e1, e2, h, l, l2, fun i v u e f => (k i v u e f).up⟩
theorem tie_eqd {H : Hp} {v u : V} {t : Int × Int} (h : Tie H v t) (k : Tie H u t) : Eqd 1 H v u := by
  obtain ⟨p, rfl, h⟩ := h
  obtain ⟨q, rfl, k⟩ := k
  refine .inr ⟨p, q, _, _, rfl, rfl, .inl ⟨h, k⟩, rfl, by show 2 ≤ 10000; decide, fun i v u e f => ?_⟩
  match i, e, f with
  | 0, e, f => cases e; cases f; exact Eqd.int
  | 1, e, f => cases e; cases f; exact Eqd.int
theorem tup_eqd {H : Hp} {p q : Addr} {vs us : List V} {ts : List (Int × Int)} (hp : H p = some (.tup vs)) (hq : H q = some (.tup us)) (h : Ties H vs ts) (k : Ties H us ts) (l : ts.length ≤ 10000) : Eqd 2 H (.ref p) (.ref q) := by
  refine .inr ⟨p, q, vs, us, rfl, rfl, .inl ⟨hp, hq⟩, by rw [h.len, k.len], by rw [h.len]; exact l, fun i v u e f => ?_⟩
  obtain ⟨t1, e1, h1⟩ := h.at e
  obtain ⟨t2, e2, h2⟩ := k.at f
  rw [e1] at e2; cases e2
  exact tie_eqd h1 h2
theorem web_eqd {H : Hp} {v u : V} {n : Nat} {ts : List (Int × Int)} (h : Web H v n ts) (k : Web H u n ts) (l : ts.length ≤ 10000) : Eqd 3 H v u := by
  obtain ⟨p, q, vs, rfl, h1, h2, h3⟩ := h
  obtain ⟨p', q', us, rfl, k1, k2, k3⟩ := k
  refine .inr ⟨p, p', _, _, rfl, rfl, .inl ⟨h1, k1⟩, rfl, by show 2 ≤ 10000; decide, fun i v u e f => ?_⟩
  match i, e, f with
  | 0, e, f => cases e; cases f; exact Eqd.int
  | 1, e, f => cases e; cases f; exact tup_eqd h2 k2 h3 k3 l

section
variable {P : Program} {w : World} {K : PySem.W.Frag} {mg : Str → Option Value} {base : Heap}
abbrev s__law_same : Stmt := topS 22
abbrev N__law_same : List Str := ["_law_found", "_law_due", "_law_one", "_law_other"]
theorem sc__law_same : FnScope N__law_same ["_law_found", "_law_due"] (defScope s__law_same) := ⟨rfl, rfl, rfl, by decide +kernel, rfl, by decide +kernel, by decide +kernel⟩
def sp_same : Nat → Sp
  | 0 => fun _ _ _ _ => False
  | m + 1 => fun vs H Q _ => ∃ x y, vs = [x, y] ∧ Eqd m H x y ∧ ∀ H', Same H H' → Q (.bl true) H'
theorem kany {t : Value} {a b : Bool} (h1 : PySem.W.kitOne K t (.type "list") = some a) (h2 : PySem.W.kitOne K t (.type "tuple") = some b) : PySem.W.kitAny K t [.type "list", .type "tuple"] = some (a || b) := by
  refine kitAny_cons h1 (fun z => ?_) (fun z => by rw [z]; rfl)
  subst z
  exact kitAny_cons h2 (fun z => by rw [z]; rfl) (fun z => by rw [z]; rfl)
theorem all_rep (n : Nat) : (List.replicate n true).all id = true := by
  rw [List.all_eq_true]
  intro x hx
  rw [(List.mem_replicate.mp hx).2]; rfl
theorem ok_same1 {f : Addr} {fd : FuncData} {m : Nat} (B : Bts mg) (F : Fun K "_law_same" "_law_same" s__law_same f fd) (c__law_same : Cl P w K mg base m "_law_same" (sp_same m)) :
    FnOk P w K mg base CX0 (m + 1) f fd ["_law_found", "_law_due"] (sp_same (m + 1)) := by
  refine F.ok sc__law_same (fun vs H Q E h => ?_) (fun cdv A outer s H vs Q E hr h => ?_)
  · obtain ⟨x, y, rfl, _⟩ := h; rfl
  · obtain ⟨x, y, rfl, hE, q⟩ := h
    refine ⟨_, (pss_cons (ps_if (pt_val (pe_callB call_isiT (by rfl) B.isinstance (by decide +kernel) (pa_cons (pv 1) (pa_cons (pe_tup (pa_cons (pe_bltn (v := .ty "list") (by rfl) B.list (by decide +kernel) rfl) (pa_cons (pe_bltn (v := .ty "tuple") (by rfl) B.tuple (by decide +kernel) rfl) pa_nil))) pa_nil)))) (pss_cons (ps_if (PW.pt (pw_or (pt_cmpR op_ne (pe_callB call_isi (by rfl) B.isinstance (by decide +kernel) (pa_cons (pv 0) (pa_cons (pe_bltn (v := .ty "list") (by rfl) B.list (by decide +kernel) rfl) pa_nil))) (pe_callB call_isi (by rfl) B.isinstance (by decide +kernel) (pa_cons (pv 1) (pa_cons (pe_bltn (v := .ty "list") (by rfl) B.list (by decide +kernel) rfl) pa_nil))) (nomark _)) (pw_or1 (pt_cmpR op_ne (pe_callB call_isi (by rfl) B.isinstance (by decide +kernel) (pa_cons (pv 0) (pa_cons (pe_bltn (v := .ty "tuple") (by rfl) B.tuple (by decide +kernel) rfl) pa_nil))) (pe_callB call_isi (by rfl) B.isinstance (by decide +kernel) (pa_cons (pv 1) (pa_cons (pe_bltn (v := .ty "tuple") (by rfl) B.tuple (by decide +kernel) rfl) pa_nil))) (nomark _))))) (pss_one (ps_ret pe_bl)) pss_nil)
      (pss_one (ps_ret (pe_and (pe_cmpR op_eq (pe_callB call_len_seq (by rfl) B.len (by decide +kernel) (pa_cons (pv 0) pa_nil)) (pe_callB call_len_seq (by rfl) B.len (by decide +kernel) (pa_cons (pv 1) pa_nil)) (nomark _)) (pe_one (pe_callB (cr_all rfl) (by rfl) B.all (by decide +kernel) (pa_cons (pe_lc (own := [("_law_one", 2), ("_law_other", 3)]) (g := (gTup K 2 (gCons (gName 2) (gCons (gName 3) gNil)))) (tt := tYes) rfl sc__law_same.nd (RZ.pi_zipA (by rfl) B.zip (pa_cons (pv 0) (pa_cons (pv 1) pa_nil))) (blkOk_by (own := [("_law_one", 2), ("_law_other", 3)]) (N := N__law_same) (sc := defScope s__law_same) (by decide +kernel)) (fun _ _ _ _ _ => (pg_tup rfl (pgs_cons (pg_name (i := 2) sc__law_same.nd rfl (by first | exact Or.inl rfl | exact Or.inr rfl)) (pgs_cons (pg_name (i := 3) sc__law_same.nd rfl (by first | exact Or.inl rfl | exact Or.inr rfl)) pgs_nil)))) (fun _ _ _ _ _ => pts_nil) (fun _ _ _ _ _ => (pe_c c__law_same hr (Nat.le_refl _) (by rfl) (pa_cons (pv 2) (pa_cons (pv 3) pa_nil))))) pa_nil))))))) pss_nil)
    (pss_cons (ps_if (PW.pt (pw_or (pt_cmpR op_isN (pv 1) pe_non (nomark _)) (pw_or1 (pt_val (pe_callB call_isi (by rfl) B.isinstance (by decide +kernel) (pa_cons (pv 1) (pa_cons (pe_bltn (v := .ty "str") (by rfl) B.str (by decide +kernel) rfl) pa_nil))))))) (pss_one (ps_ret (pe_and (pe_cmpR op_eq (pv 0) (pv 1) (nomark _)) (pe_one (pe_cmpR op_eq (pe_callB call_isi (by rfl) B.isinstance (by decide +kernel) (pa_cons (pv 0) (pa_cons (pe_bltn (v := .ty "str") (by rfl) B.str (by decide +kernel) rfl) pa_nil))) (pe_callB call_isi (by rfl) B.isinstance (by decide +kernel) (pa_cons (pv 1) (pa_cons (pe_bltn (v := .ty "str") (by rfl) B.str (by decide +kernel) rfl) pa_nil))) (nomark _)))))) pss_nil)
    (pss_cons (ps_if (pt_val (pe_callB call_isi (by rfl) B.isinstance (by decide +kernel) (pa_cons (pv 1) (pa_cons (pe_bltn (v := .ty "bool") (by rfl) B.bool (by decide +kernel) rfl) pa_nil)))) (pss_one (ps_ret (pe_and (pe_callB call_isi (by rfl) B.isinstance (by decide +kernel) (pa_cons (pv 0) (pa_cons (pe_bltn (v := .ty "bool") (by rfl) B.bool (by decide +kernel) rfl) pa_nil))) (pe_one (pe_cmpR op_eq (pv 0) (pv 1) (nomark _)))))) pss_nil)
    (pss_one (ps_ret (pe_and (pe_callB call_isi (by rfl) B.isinstance (by decide +kernel) (pa_cons (pv 0) (pa_cons (pe_bltn (v := .ty "int") (by rfl) B.int (by decide +kernel) rfl) pa_nil))) (pe_and (pe_not (pe_callB call_isi (by rfl) B.isinstance (by decide +kernel) (pa_cons (pv 0) (pa_cons (pe_bltn (v := .ty "bool") (by rfl) B.bool (by decide +kernel) rfl) pa_nil)))) (pe_one (pe_cmpR op_eq (pv 0) (pv 1) (nomark _)))))))))), ?_⟩
    have nw : ∀ {tp : Addr} {o : HO}, H tp = none → Same H (upd H tp o) := fun h => same_new h
    have hE' : (x = y ∧ Atom x) ∨ ∃ m', m = m' + 1 ∧ ∃ a b xs ys, x = .ref a ∧ y = .ref b ∧ ((H a = some (.tup xs) ∧ H b = some (.tup ys)) ∨ (H a = some (.lst xs) ∧ H b = some (.lst ys))) ∧
        xs.length = ys.length ∧ xs.length ≤ 10000 ∧ ∀ (i : Nat) (v u : V), xs[i]? = some v → ys[i]? = some u → Eqd m' H v u := by
      cases m with
      | zero => exact .inl hE
      | succ m =>
        rcases hE with h | h
        · exact .inl h
        · exact .inr ⟨m, rfl, h⟩
    rcases hE' with ⟨e, ha⟩ | ⟨m, rfl, a, b, xs, ys, rfl, rfl, hab, hl, hl2, hk⟩
    · subst e
      rcases ha with rfl | ⟨b, rfl⟩ | ⟨i, rfl⟩ | ⟨z, rfl⟩
      · refine ⟨_, rfl, by show 2 ≤ sizeLine; decide, fun tp ntp => ⟨_, tp, _, _, _, _, rfl, upd_same, .cons (.ty _) (.cons (.ty _) .nil), .base .non, kany (a := false) (b := false) (kit_ty (by decide +kernel)) (kit_ty (by decide +kernel)), false, rfl, iteF ?_⟩⟩
        refine ⟨_, rfl, rfl, _, rfl, iteT (iteT ?_)⟩
        refine ⟨_, rfl, _, rfl, rfl, true, rfl, iteT ?_⟩
        refine ⟨_, rfl, _, _, _, _, false, rfl, .ty _, .base .non, kit_ty (by decide +kernel), ?_⟩
        refine ⟨_, rfl, _, _, _, _, false, rfl, .ty _, .base .non, kit_ty (by decide +kernel), rfl, ?_⟩
        exact q _ (nw ntp)
      · refine ⟨_, rfl, by show 2 ≤ sizeLine; decide, fun tp ntp => ⟨_, tp, _, _, _, _, rfl, upd_same, .cons (.ty _) (.cons (.ty _) .nil), .base (.bl b), kany (a := false) (b := false) (kit_ty (by decide +kernel)) (kit_ty (by decide +kernel)), false, rfl, iteF ?_⟩⟩
        refine ⟨_, rfl, rfl, _, rfl, iteF ?_⟩
        refine ⟨_, rfl, _, _, _, _, false, rfl, .ty _, .base (.bl b), kit_ty (by decide +kernel), false, rfl, iteF ?_⟩
        refine ⟨_, rfl, _, _, _, _, true, rfl, .ty _, .base (.bl b), kit_ty (by decide +kernel), true, rfl, iteT ?_⟩
        refine ⟨_, rfl, _, _, _, _, true, rfl, .ty _, .base (.bl b), kit_ty (by decide +kernel), true, rfl, iteT ?_⟩
        refine ⟨_, rfl, _, rfl, rfl, ?_⟩
        rw [decide_eq_true rfl]
        exact q _ (nw ntp)
      · refine ⟨_, rfl, by show 2 ≤ sizeLine; decide, fun tp ntp => ⟨_, tp, _, _, _, _, rfl, upd_same, .cons (.ty _) (.cons (.ty _) .nil), .base (.int i), kany (a := false) (b := false) (kit_ty (by decide +kernel)) (kit_ty (by decide +kernel)), false, rfl, iteF ?_⟩⟩
        refine ⟨_, rfl, rfl, _, rfl, iteF ?_⟩
        refine ⟨_, rfl, _, _, _, _, false, rfl, .ty _, .base (.int i), kit_ty (by decide +kernel), false, rfl, iteF ?_⟩
        refine ⟨_, rfl, _, _, _, _, false, rfl, .ty _, .base (.int i), kit_ty (by decide +kernel), false, rfl, iteF ?_⟩
        refine ⟨_, rfl, _, _, _, _, true, rfl, .ty _, .base (.int i), kit_ty (by decide +kernel), true, rfl, iteT ?_⟩
        refine ⟨_, rfl, _, _, _, _, false, rfl, .ty _, .base (.int i), kit_ty (by decide +kernel), false, rfl, true, rfl, iteT ?_⟩
        refine ⟨_, rfl, _, rfl, rfl, ?_⟩
        rw [decide_eq_true rfl]
        exact q _ (nw ntp)
      · refine ⟨_, rfl, by show 2 ≤ sizeLine; decide, fun tp ntp => ⟨_, tp, _, _, _, _, rfl, upd_same, .cons (.ty _) (.cons (.ty _) .nil), .base (.str z), kany (a := false) (b := false) (kit_ty (by decide +kernel)) (kit_ty (by decide +kernel)), false, rfl, iteF ?_⟩⟩
        refine ⟨_, rfl, rfl, _, rfl, iteF ?_⟩
        refine ⟨_, rfl, _, _, _, _, true, rfl, .ty _, .base (.str z), kit_ty (by decide +kernel), true, rfl, iteT ?_⟩
        refine ⟨_, rfl, _, rfl, rfl, _, rfl, ?_⟩
        rw [decide_eq_true rfl]
        refine iteT ⟨_, rfl, _, _, _, _, true, rfl, .ty _, .base (.str z), kit_ty (by decide +kernel), ?_⟩
        refine ⟨_, rfl, _, _, _, _, true, rfl, .ty _, .base (.str z), kit_ty (by decide +kernel), rfl, ?_⟩
        exact q _ (nw ntp)
    · rcases hab with ⟨ea, eb⟩ | ⟨ea, eb⟩
      · refine ⟨_, rfl, by show 2 ≤ sizeLine; decide, fun tp ntp => ?_⟩
        have s1 := nw (o := .tup [.ty "list", .ty "tuple"]) ntp
        have ea1 := s1 _ _ ea
        have eb1 := s1 _ _ eb
        refine ⟨_, tp, _, _, _, _, rfl, upd_same, .cons (.ty _) (.cons (.ty _) .nil), .base (.tup eb1), kany (a := false) (b := true) (kit_ty (by decide +kernel)) (kit_ty (by decide +kernel)), true, rfl, iteT ?_⟩
        refine ⟨_, rfl, _, _, _, _, false, rfl, .ty _, .base (.tup ea1), kit_ty (by decide +kernel), ?_⟩
        refine ⟨_, rfl, _, _, _, _, false, rfl, .ty _, .base (.tup eb1), kit_ty (by decide +kernel), rfl, false, rfl, iteF ?_⟩
        refine ⟨_, rfl, _, _, _, _, true, rfl, .ty _, .base (.tup ea1), kit_ty (by decide +kernel), ?_⟩
        refine ⟨_, rfl, _, _, _, _, true, rfl, .ty _, .base (.tup eb1), kit_ty (by decide +kernel), rfl, false, rfl, iteF ?_⟩
        refine ⟨_, rfl, a, xs, rfl, .inr (SqT.of ea1), _, rfl, b, ys, rfl, .inr (SqT.of eb1), rfl, _, rfl, ?_⟩
        rw [decide_eq_true (by rw [hl])]
        refine iteT ⟨_, rfl, _, rfl, a, b, xs, ys, rfl, .inr ⟨SqT.of ea1, SqT.of eb1, fun D nD => ?_⟩⟩
        refine lc_it (walk_zipT (K := K) (a := a) (b := b) (xs := xs) (ys := ys) rfl) (fun i H2 => Same (upd H tp (.tup [.ty "list", .ty "tuple"])) H2 ∧ H2 D = some (.lst ((List.replicate i true).map V.bl))) ⟨same_new nD, upd_same⟩ ?_ ?_ ?_
        · rintro i H2 _ ⟨s2, _⟩
          exact ⟨SqT.of (s2 _ _ ea1), SqT.of (s2 _ _ eb1)⟩
        · rintro i v H2 H3 hi ⟨s2, eD⟩ ⟨T, x1, x2, rfl, nT, rfl, ex1, ex2⟩
          refine ⟨T, _, rfl, SqT.of upd_same, rfl, _, _, rfl, _, _, rfl, rfl, rfl, yes ?_⟩
          have s3 := s2.trans (same_new (o := .tup [x1, x2]) nT)
          refine ⟨_, rfl, _, rfl, x1, x2, rfl, (hk i x1 x2 ex1 ex2).mono (s1.trans s3), fun H4 s4 => ?_⟩
          have eD4 := s4 _ _ ((same_new (o := .tup [x1, x2]) nT) _ _ eD)
          refine ⟨_, eD4, sz' (by rw [List.length_map, List.length_replicate]; omega), Same.put (s3.trans s4) nD, ?_⟩
          rw [upd_same, List.replicate_succ', List.map_append]; rfl
        · rintro H2 ⟨s2, eD⟩
          refine ⟨D, _, rfl, SqL.of eD, ?_⟩
          rw [all_rep]
          exact q _ (s1.trans s2)
      · refine ⟨_, rfl, by show 2 ≤ sizeLine; decide, fun tp ntp => ?_⟩
        have s1 := nw (o := .tup [.ty "list", .ty "tuple"]) ntp
        have ea1 := s1 _ _ ea
        have eb1 := s1 _ _ eb
        refine ⟨_, tp, _, _, _, _, rfl, upd_same, .cons (.ty _) (.cons (.ty _) .nil), .base (.lst eb1), kany (a := true) (b := false) (kit_ty (by decide +kernel)) (kit_ty (by decide +kernel)), true, rfl, iteT ?_⟩
        refine ⟨_, rfl, _, _, _, _, true, rfl, .ty _, .base (.lst ea1), kit_ty (by decide +kernel), ?_⟩
        refine ⟨_, rfl, _, _, _, _, true, rfl, .ty _, .base (.lst eb1), kit_ty (by decide +kernel), rfl, false, rfl, iteF ?_⟩
        refine ⟨_, rfl, _, _, _, _, false, rfl, .ty _, .base (.lst ea1), kit_ty (by decide +kernel), ?_⟩
        refine ⟨_, rfl, _, _, _, _, false, rfl, .ty _, .base (.lst eb1), kit_ty (by decide +kernel), rfl, false, rfl, iteF ?_⟩
        refine ⟨_, rfl, a, xs, rfl, .inl (SqL.of ea1), _, rfl, b, ys, rfl, .inl (SqL.of eb1), rfl, _, rfl, ?_⟩
        rw [decide_eq_true (by rw [hl])]
        refine iteT ⟨_, rfl, _, rfl, a, b, xs, ys, rfl, .inl ⟨SqL.of ea1, SqL.of eb1, fun D nD => ?_⟩⟩
        refine lc_it (walk_zip (K := K) (a := a) (b := b) (xs := xs) (ys := ys) rfl) (fun i H2 => Same (upd H tp (.tup [.ty "list", .ty "tuple"])) H2 ∧ H2 D = some (.lst ((List.replicate i true).map V.bl))) ⟨same_new nD, upd_same⟩ ?_ ?_ ?_
        · rintro i H2 _ ⟨s2, _⟩
          exact ⟨SqL.of (s2 _ _ ea1), SqL.of (s2 _ _ eb1)⟩
        · rintro i v H2 H3 hi ⟨s2, eD⟩ ⟨T, x1, x2, rfl, nT, rfl, ex1, ex2⟩
          refine ⟨T, _, rfl, SqT.of upd_same, rfl, _, _, rfl, _, _, rfl, rfl, rfl, yes ?_⟩
          have s3 := s2.trans (same_new (o := .tup [x1, x2]) nT)
          refine ⟨_, rfl, _, rfl, x1, x2, rfl, (hk i x1 x2 ex1 ex2).mono (s1.trans s3), fun H4 s4 => ?_⟩
          have eD4 := s4 _ _ ((same_new (o := .tup [x1, x2]) nT) _ _ eD)
          refine ⟨_, eD4, sz' (by rw [List.length_map, List.length_replicate]; omega), Same.put (s3.trans s4) nD, ?_⟩
          rw [upd_same, List.replicate_succ', List.map_append]; rfl
        · rintro H2 ⟨s2, eD⟩
          refine ⟨D, _, rfl, SqL.of eD, ?_⟩
          rw [all_rep]
          exact q _ (s1.trans s2)
theorem ok_same {f : Addr} {fd : FuncData} (B : Bts mg) (F : Fun K "_law_same" "_law_same" s__law_same f fd) (hm : mg "_law_same" = some (.ref f)) (hb : Binds K fd ["_law_found", "_law_due"] []) :
    ∀ m, FnOk P w K mg base CX0 m f fd ["_law_found", "_law_due"] (sp_same m)
  | 0 => ⟨fun _ _ _ _ h => h.elim, fun _ _ _ _ _ _ _ _ _ _ _ _ _ h => h.elim⟩
  | m + 1 => ok_same1 B F (Cl.mk' F hm hb (ok_same B F hm hb m))
end
end My

set_option Elab.async false
set_option linter.all false
set_option maxRecDepth 100000
namespace My
open PySem PySem.Spec PyProof.Rows L2 GxR

/-! ### dict comprehensions over what is walked -/
theorem dc_it {J : It} {n : Nat} {G : Hp → Prop} {Y : Nat → Hp → V → Hp → Prop} (w : Walk J n G Y) {g : TG} {tt : TT} {tk tv : TE} {vs : List Nat} {σ : L2.St} {H1 : Hp} {D : Addr} {Qd : Hp → Prop} (Pv : Nat → Hp → Prop)
    (h0 : Pv 0 (upd H1 D (.dK []))) (hG : ∀ i H, i ≤ n → Pv i H → G H)
    (hs : ∀ i x H H', i < n → Pv i H → Y i H x H' → g x (wipe σ vs) H' fun σ2 H2 => wipe σ2 vs = wipe σ vs ∧ tt σ2 H2 fun b H3 =>
      if b = true then tk σ2 H3 fun y H4 => tv σ2 H4 fun z H5 => ∃ kvs k, y = kV k ∧ H5 D = some (.dK kvs) ∧ kvs.length < sizeLine ∧ Pv (i + 1) (upd H5 D (.dK (putK kvs k z))) else Pv (i + 1) H3)
    (hd : ∀ H, Pv n H → Qd H) :
    ∃ W : Nat → Nat → Hp → Prop, (∃ m, W 0 m (upd H1 D (.dK []))) ∧ ∀ i m H, W i m H → (J.stop i H ∧ Qd H) ∨
      (J.go i H ∧ ∃ Nx : Hp → Prop, (∀ H', Nx H' → ∃ m', m' < m ∧ W (i + 1) m' H') ∧ ∀ x H', J.yld i H x H' → g x (wipe σ vs) H' fun σ2 H2 => wipe σ2 vs = wipe σ vs ∧ tt σ2 H2 fun b H3 =>
        if b = true then tk σ2 H3 fun y H4 => tv σ2 H4 fun z H5 => ∃ kvs k, y = kV k ∧ H5 D = some (.dK kvs) ∧ kvs.length < sizeLine ∧ Nx (upd H5 D (.dK (putK kvs k z))) else Nx H3) := by
  refine ⟨fun i m H => m = n - i ∧ i ≤ n ∧ Pv i H, ⟨n, rfl, Nat.zero_le _, h0⟩, ?_⟩
  rintro i m H ⟨rfl, hi, p⟩
  have q := hG i H hi p
  by_cases hlt : i < n
  · exact .inr ⟨w.goes i H hlt q, Pv (i + 1), fun H' p' => ⟨n - (i + 1), by omega, rfl, hlt, p'⟩, fun x H' y => hs i x H H' hlt p (w.yields i H x H' hlt q y)⟩
  · have e : i = n := by omega
    subst e
    exact .inl ⟨w.stops H q, hd H p⟩

/-! ### what a dict tells behind a store -/
theorem valV_put {κ : Type} [DecidableEq κ] (kvs : List (κ × V)) (k : κ) (v : V) (j : κ) : valV (putK kvs k v) j = if j = k then some v else valV kvs j := by
  unfold putK
  by_cases h : (kvs.any fun kv => decide (kv.1 = k)) = true
  · rw [if_pos h]
    induction kvs with
    | nil => cases h
    | cons p r ih =>
      rw [List.map_cons]
      by_cases hp : p.1 = k
      · rw [if_pos hp]
        by_cases hj : j = k
        · rw [if_pos hj, valV_pos (by rw [hj]; exact hp)]
        · rw [if_neg hj, valV_neg (fun z => hj (by rw [← z]; exact hp)), valV_neg (fun z => hj (by rw [← z]; exact hp))]
          by_cases hr : (r.any fun kv => decide (kv.1 = k)) = true
          · have := ih hr
            rw [if_neg hj] at this
            exact this
          · have : (r.map fun kv => if kv.1 = k then (kv.1, v) else kv) = r := by
              clear ih h
              induction r with
              | nil => rfl
              | cons q s ih2 =>
                rw [List.any_cons, Bool.or_eq_true] at hr
                have h1 : ¬ q.1 = k := fun z => hr (.inl (decide_eq_true z))
                have h2 : ¬ (s.any fun kv => decide (kv.1 = k)) = true := fun z => hr (.inr z)
                rw [List.map_cons, if_neg h1, ih2 h2]
            rw [this]
      · rw [if_neg hp]
        rw [List.any_cons, decide_eq_false hp, Bool.false_or] at h
        have := ih h
        by_cases hj : p.1 = j
        · rw [valV_pos hj, valV_pos hj, if_neg (fun z => hp (by rw [hj]; exact z))]
        · rw [valV_neg hj, valV_neg hj]; exact this
  · rw [if_neg h]
    induction kvs with
    | nil =>
      rw [List.nil_append]
      by_cases hj : j = k
      · rw [if_pos hj, valV_pos hj.symm]
      · rw [if_neg hj, valV_neg (fun z => hj z.symm)]
    | cons p r ih =>
      rw [List.any_cons, Bool.or_eq_true] at h
      have h1 : ¬ p.1 = k := fun z => h (.inl (decide_eq_true z))
      have h2 : ¬ (r.any fun kv => decide (kv.1 = k)) = true := fun z => h (.inr z)
      rw [List.cons_append]
      by_cases hj : p.1 = j
      · rw [valV_pos hj, valV_pos hj, if_neg (fun z => h1 (by rw [hj]; exact z))]
      · rw [valV_neg hj, valV_neg hj]; exact ih h2
theorem len_put {κ : Type} [DecidableEq κ] (kvs : List (κ × V)) (k : κ) (v : V) : (putK kvs k v).length ≤ kvs.length + 1 := by
  unfold putK
  split
  · rw [List.length_map]; exact Nat.le_succ _
  · rw [List.length_append]; exact Nat.le_refl _

/-! ### rising lists of places, parts of webs -/
def Ris (n : Nat) (pl : List Int) : Prop := pl.Pairwise (· < ·) ∧ ∀ p ∈ pl, 0 ≤ p ∧ p < (n : Int)
theorem Ris.nodup {n : Nat} {pl : List Int} (h : Ris n pl) : pl.Nodup := List.nodup_iff_pairwise_ne.mpr (h.1.imp fun {a b} z e => by omega)
theorem Ris.len {n : Nat} {pl : List Int} (h : Ris n pl) : pl.length ≤ n := by
  have := nd_len (m := up n) h.nodup fun x hx => mem_up.mpr (h.2 x hx)
  rwa [up_len] at this
theorem idx_get {pl : List Int} {a : Int} (h : a ∈ pl) : pl[pl.idxOf a]? = some a := by
  have hl := List.idxOf_lt_length_of_mem h
  rw [List.getElem?_eq_getElem hl, List.getElem_idxOf hl]
theorem idx_of {pl : List Int} (nd : pl.Nodup) {i : Nat} {a : Int} (h : pl[i]? = some a) : pl.idxOf a = i := by
  obtain ⟨hi, e⟩ := List.getElem?_eq_some_iff.mp h
  have hm : a ∈ pl := List.mem_of_getElem? h
  have hl := List.idxOf_lt_length_of_mem hm
  have e2 := List.getElem_idxOf hl
  have pw := List.pairwise_iff_getElem.mp (List.nodup_iff_pairwise_ne.mp nd)
  rcases Nat.lt_trichotomy (pl.idxOf a) i with z | z | z
  · exact absurd (e2.trans e.symm) (pw _ _ hl hi z)
  · exact z
  · exact absurd (e.trans e2.symm) (pw _ _ hi hl z)
theorem ris_lt {n : Nat} {pl : List Int} (h : Ris n pl) {i j : Nat} {a b : Int} (hi : pl[i]? = some a) (hj : pl[j]? = some b) : i < j ↔ a < b := by
  obtain ⟨li, ei⟩ := List.getElem?_eq_some_iff.mp hi
  obtain ⟨lj, ej⟩ := List.getElem?_eq_some_iff.mp hj
  have pw := List.pairwise_iff_getElem.mp h.1
  constructor
  · intro z
    have := pw i j li lj z
    omega
  · intro z
    rcases Nat.lt_trichotomy i j with c | c | c
    · exact c
    · subst c; omega
    · have := pw j i lj li c
      omega
def partL (ts : List (Int × Int)) (pl : List Int) : List (Int × Int) :=
  (ts.filter fun t => decide (t.1 ∈ pl) && decide (t.2 ∈ pl)).map fun t => ((pl.idxOf t.1 : Int), (pl.idxOf t.2 : Int))
theorem mem_part {ts : List (Int × Int)} {pl : List Int} (nd : pl.Nodup) {t : Int × Int} : t ∈ partL ts pl ↔
    ∃ (i j : Nat) (a b : Int), t = ((i : Int), (j : Int)) ∧ pl[i]? = some a ∧ pl[j]? = some b ∧ (a, b) ∈ ts := by
  unfold partL
  rw [List.mem_map]
  constructor
  · rintro ⟨s, hs, rfl⟩
    obtain ⟨h1, h2⟩ := List.mem_filter.mp hs
    rw [Bool.and_eq_true, decide_eq_true_eq, decide_eq_true_eq] at h2
    exact ⟨_, _, s.1, s.2, rfl, idx_get h2.1, idx_get h2.2, h1⟩
  · rintro ⟨i, j, a, b, rfl, hi, hj, h⟩
    refine ⟨(a, b), List.mem_filter.mpr ⟨h, ?_⟩, ?_⟩
    · rw [Bool.and_eq_true, decide_eq_true_eq, decide_eq_true_eq]
      exact ⟨List.mem_of_getElem? hi, List.mem_of_getElem? hj⟩
    · dsimp only
      rw [idx_of nd hi, idx_of nd hj]
theorem part_pw {n : Nat} {ts : List (Int × Int)} {pl : List Int} (hp : Ris n pl) (hw : ts.Pairwise ltT) : (partL ts pl).Pairwise ltT := by
  unfold partL
  rw [List.pairwise_map]
  refine (hw.sublist List.filter_sublist).imp_of_mem fun {s t} hs ht h => ?_
  have h1 := (List.mem_filter.mp hs).2
  have h2 := (List.mem_filter.mp ht).2
  rw [Bool.and_eq_true, decide_eq_true_eq, decide_eq_true_eq] at h1 h2
  have l1 := ris_lt hp (idx_get h1.1) (idx_get h2.1)
  have l2 := ris_lt hp (idx_get h1.2) (idx_get h2.2)
  rcases h with h | ⟨h, k⟩
  · exact .inl (by have := l1.mpr h; dsimp only; omega)
  · refine .inr ⟨by dsimp only; rw [h], ?_⟩
    have := l2.mpr k
    dsimp only; omega
theorem part_wok {n : Nat} {ts : List (Int × Int)} {pl : List Int} (hp : Ris n pl) (hw : WOk n ts) : WOk pl.length (partL ts pl) := by
  refine ⟨part_pw hp hw.1, fun t ht => ?_⟩
  obtain ⟨i, j, a, b, rfl, hi, hj, h⟩ := (mem_part hp.nodup).mp ht
  have hb := hw.2 _ h
  have l := ris_lt hp hi hj
  have := l.mpr hb.2.1
  have := (List.getElem?_eq_some_iff.mp hj).1
  dsimp only
  omega
theorem part_len {ts : List (Int × Int)} {pl : List Int} : (partL ts pl).length ≤ ts.length := by
  unfold partL; rw [List.length_map]; exact List.length_filter_le _ _
theorem ris_up (n : Nat) : Ris n (up n) := by
  refine ⟨?_, fun p hp => mem_up.mp hp⟩
  unfold up
  rw [List.pairwise_map]
  exact List.pairwise_lt_range.imp fun h => by omega
theorem up_get {n i : Nat} (h : i < n) : (up n)[i]? = some (i : Int) := by
  unfold up
  rw [List.getElem?_map, List.getElem?_range h]; rfl
theorem part_up {n : Nat} {ts : List (Int × Int)} (hw : WOk n ts) : partL ts (up n) = ts := by
  refine pw_eq (part_pw (ris_up n) hw.1) hw.1 fun t => ?_
  rw [mem_part (ris_up n).nodup]
  constructor
  · rintro ⟨i, j, a, b, rfl, hi, hj, h⟩
    have li : i < n := by have := (List.getElem?_eq_some_iff.mp hi).1; rwa [up_len] at this
    have lj : j < n := by have := (List.getElem?_eq_some_iff.mp hj).1; rwa [up_len] at this
    rw [up_get li] at hi
    rw [up_get lj] at hj
    cases hi; cases hj
    exact h
  · intro h
    have b := hw.2 t h
    refine ⟨t.1.toNat, t.2.toNat, t.1, t.2, ?_, ?_, ?_, h⟩
    · cases t with | mk x y => dsimp only at b ⊢; congr 1 <;> omega
    · rw [up_get (by omega)]; congr 1; omega
    · rw [up_get (by omega)]; congr 1; omega
theorem part_nil (ts : List (Int × Int)) : partL ts [] = [] := by
  unfold partL
  have : (ts.filter fun t => decide (t.1 ∈ ([] : List Int)) && decide (t.2 ∈ ([] : List Int))) = [] := by
    rw [List.filter_eq_nil_iff]; intro a _; simp
  rw [this]; rfl
/-- some of the places -/
def pick (pl inn : List Int) : List Int := inn.map fun p => pl.getD p.toNat 0
theorem pick_get {pl inn : List Int} {n : Nat} (hi : Ris pl.length inn) {i : Nat} {p : Int} (h : inn[i]? = some p) : ∃ a, pl[p.toNat]? = some a ∧ (pick pl inn)[i]? = some a := by
  have b := hi.2 p (List.mem_of_getElem? h)
  have hl : p.toNat < pl.length := by omega
  refine ⟨pl[p.toNat], List.getElem?_eq_getElem hl, ?_⟩
  unfold pick
  rw [List.getElem?_map, h]
  show some (pl.getD p.toNat 0) = _
  rw [List.getD_eq_getElem?_getD, List.getElem?_eq_getElem hl]; rfl
theorem pick_ris {n : Nat} {pl inn : List Int} (hp : Ris n pl) (hi : Ris pl.length inn) : Ris n (pick pl inn) := by
  refine ⟨?_, fun x hx => ?_⟩
  · rw [List.pairwise_iff_getElem]
    intro i j li lj hij
    have li' : i < inn.length := by unfold pick at li; rwa [List.length_map] at li
    have lj' : j < inn.length := by unfold pick at lj; rwa [List.length_map] at lj
    obtain ⟨a, ha, ga⟩ := pick_get (n := n) hi (List.getElem?_eq_getElem li')
    obtain ⟨b, hb, gb⟩ := pick_get (n := n) hi (List.getElem?_eq_getElem lj')
    rw [List.getElem?_eq_getElem li] at ga
    rw [List.getElem?_eq_getElem lj] at gb
    have e1 := Option.some.inj ga
    have e2 := Option.some.inj gb
    rw [e1, e2]
    have := (List.pairwise_iff_getElem.mp hi.1) i j li' lj' hij
    have b1 := hi.2 _ (List.getElem_mem li')
    have b2 := hi.2 _ (List.getElem_mem lj')
    exact (ris_lt hp ha hb).mp (by omega)
  · unfold pick at hx
    obtain ⟨p, hp', rfl⟩ := List.mem_map.mp hx
    have b := hi.2 p hp'
    have hl : p.toNat < pl.length := by omega
    rw [List.getD_eq_getElem?_getD, List.getElem?_eq_getElem hl]
    exact hp.2 _ (List.getElem_mem hl)
theorem part_part {n : Nat} {ts : List (Int × Int)} {pl inn : List Int} (hw : ts.Pairwise ltT) (hp : Ris n pl) (hi : Ris pl.length inn) :
    partL (partL ts pl) inn = partL ts (pick pl inn) := by
  have hq := pick_ris hp hi
  refine pw_eq (part_pw hi (part_pw hp hw)) (part_pw hq hw) fun t => ?_
  rw [mem_part hi.nodup, mem_part hq.nodup]
  constructor
  · rintro ⟨i, j, a, b, rfl, h1, h2, h3⟩
    obtain ⟨i', j', a', b', e, k1, k2, k3⟩ := (mem_part hp.nodup).mp h3
    cases e
    obtain ⟨x, hx, gx⟩ := pick_get (n := n) hi h1
    obtain ⟨y, hy, gy⟩ := pick_get (n := n) hi h2
    rw [Int.toNat_natCast, k1] at hx
    rw [Int.toNat_natCast, k2] at hy
    cases hx; cases hy
    exact ⟨i, j, _, _, rfl, gx, gy, k3⟩
  · rintro ⟨i, j, a, b, rfl, h1, h2, h3⟩
    have li : i < inn.length := by have := (List.getElem?_eq_some_iff.mp h1).1; unfold pick at this; rwa [List.length_map] at this
    have lj : j < inn.length := by have := (List.getElem?_eq_some_iff.mp h2).1; unfold pick at this; rwa [List.length_map] at this
    obtain ⟨x, hx, gx⟩ := pick_get (n := n) hi (List.getElem?_eq_getElem li)
    obtain ⟨y, hy, gy⟩ := pick_get (n := n) hi (List.getElem?_eq_getElem lj)
    rw [h1] at gx
    rw [h2] at gy
    cases gx; cases gy
    have b1 := hi.2 _ (List.getElem_mem li)
    have b2 := hi.2 _ (List.getElem_mem lj)
    refine ⟨i, j, inn[i], inn[j], rfl, List.getElem?_eq_getElem li, List.getElem?_eq_getElem lj, (mem_part hp.nodup).mpr ⟨inn[i].toNat, inn[j].toNat, a, b, ?_, hx, hy, h3⟩⟩
    congr 1 <;> omega
end My

set_option Elab.async false
set_option linter.all false
set_option maxRecDepth 100000
namespace My
open PySem PySem.Spec PyProof.Rows L2 GxR

/-! ### dict comprehensions with keys of any kind (DPut) -/
section
variable {X : Cx}
theorem d_dictPut {pins : List (Addr × Obj)} {σ : L2.St} {H H' : Hp} {s : Shared} {E : Value → Shared → Prop} {D : Addr} {y v : V} {u r : Value} {Q : Unit → Shared → Prop} (hu : X.A.units + 1 < cLine) (I : Inv X pins σ H s) (g : DPut H D y v H')
    (ry : RelV y u) (rv : RelV v r) (h : ∀ s', Inv X pins σ H' s' → Q () s') : wpAny (model X.prog X.w) X.A (dictSet D u r) Q E s := by
  rcases g with ⟨kvs, k, e, rfl, l, rfl⟩ | ⟨kvs, k, b, e, rfl, eb, l, rfl⟩
  · exact d_dictSet I e l ry rv h
  · cases (show u = Value.ref b from ry)
    obtain ⟨z, hd, xs, rel, dd⟩ := dt_of I.hok e
    have hz : xs.length ≤ sizeLine := by
      rw [← Paired.length rel]; exact z
    have hp := length_putK kvs k v
    refine wpAny_dictSet_heap (hsz := hz) (show X.A.units < cLine from Nat.lt_of_succ_lt hu) (L2.key_of I.hok eb) dd fun h' dd' hs => h _ ?_
    obtain ⟨q, es, ep, hq, h2, h3, h4, _, h5⟩ := dd'
    refine d_write I (by rw [e]; exact True.intro) hs ⟨q, hq⟩ ⟨by omega, hd, _, (rel.put k eb rv).keeps fun c ys ec => ?_, q, es, ep, hq, h2, h3, h4, h5⟩
    rw [upd_ne (ne_of ec e (fun z => nomatch z))]; exact ec
/-- the turn behind what is yielded -/
def dcStep (g : TG) (tt : TT) (tk tv : TE) (vs : List Nat) (σ : L2.St) (D : Addr) (Nx : Hp → Prop) (x : V) (H' : Hp) : Prop :=
  g x (wipe σ vs) H' fun σ2 H2 => wipe σ2 vs = wipe σ vs ∧ tt σ2 H2 fun b H3 => if b = true then tk σ2 H3 fun y H4 => tv σ2 H4 fun z H5 => ∃ H6, DPut H5 D y z H6 ∧ Nx H6 else Nx H3
def tDcP (o0 : HO) (wi : TI) (g : TG) (tt : TT) (tk tv : TE) (vs : List Nat) : TE := fun σ H Q => wi σ H fun J H1 => ∀ D, H1 D = none → ∃ W : Nat → Nat → Hp → Prop, (∃ m, W 0 m (upd H1 D o0)) ∧ ∀ i m H, W i m H →
  (J.stop i H ∧ Q (.ref D) H) ∨ (J.go i H ∧ ∃ Nx : Hp → Prop, (∀ H', Nx H' → ∃ m', m' < m ∧ W (i + 1) m' H') ∧ ∀ x H', J.yld i H x H' → dcStep g tt tk tv vs σ D Nx x H')
/-- a new empty dict may be read so -/
def Empt (o0 : HO) : Prop := ∀ (P : Program) (w : World) (H : Hp) (h : Heap), sysModules < h.objs.size → ObjOk P w H (h.push { cls := .type "dict", data := .dict #[] }) h.objs.size o0
theorem empt_dK : Empt (.dK []) := fun _ _ _ h hb => dk_empty h hb
theorem empt_dT : Empt (.dT []) := fun _ _ _ h hb => dt_empty h hb
abbrev inCell (X : Cx) (s : Shared) (scope : Scope) : Env := compEnvC scope (cellsFrom (s.heap.objs.size + 1) scope.names (cloFrom X.env.cells scope.names [])) s.heap.objs.size X.env
theorem pe_dcP {o0 : HO} {kx vx tg iter : Expr} {ifs : List Expr} {scope : Scope} {own : List (Str × Nat)} {pos : Pos} {wi : TI} {g : TG} {tt : TT} {tk tv : TE} (em : Empt o0) (hu : X.A.units + 1 < cLine) (hc : X.calm = true) (hN : X.N.Nodup) (hi : PI X tg iter wi) (ok : BlkOk X.N X.env.scope scope own)
    (hg : ∀ (s : Shared) (H : Hp) (C : Addr) (cl : List (Str × Addr)) (fp : List Addr), PG (X.blk s H scope (compEnvC scope cl C X.env) fp) tg g)
    (ht : ∀ (s : Shared) (H : Hp) (C : Addr) (cl : List (Str × Addr)) (fp : List Addr), PTs (X.blk s H scope (compEnvC scope cl C X.env) fp) ifs tt)
    (hk : ∀ (s : Shared) (H : Hp) (C : Addr) (cl : List (Str × Addr)) (fp : List Addr), PE (X.blk s H scope (compEnvC scope cl C X.env) fp) kx tk)
    (he : ∀ (s : Shared) (H : Hp) (C : Addr) (cl : List (Str × Addr)) (fp : List Addr), PE (X.blk s H scope (compEnvC scope cl C X.env) fp) vx tv) (hs : ∀ x, foldedSetIterable iter X.env x = pure x := by intro _; rfl) :
    PE X (.DictComp kx vx [⟨tg, iter, ifs, 0⟩] scope pos) (tDcP o0 wi g tt tk tv (own.map (·.2))) := by
  refine ⟨fun pins s σ H Q I h => ?_⟩
  rw [arm_eval_DictComp]
  have fr : ∀ y ∈ scope.names, y.2 = .free → ∃ c, X.env.cells.lookup y.1 = some c := fun y hy e => (ok.free y hy e).elim (fun k => I.ok.has _ (.inl k)) fun k => I.ok.has _ (.inr k)
  refine wpAny_comprehension_free rfl hs (closure_ok fr) ok.kind (fun y hy e => by rw [ok.uniq y hy, e]) ?_
  refine thn (hi.run pins s σ H _ I h) fun _ _ hx => thn hx fun _ s2 h2 => ?_
  obtain ⟨it, fp, tn, J, H2, rfl, I2, T, st2, f2, q⟩ := h2
  refine wpAny_newObj_type (newEnv_comp ?_)
  generalize hD : s2.heap.objs.size = D
  obtain ⟨W, ⟨m0, w0⟩, turn⟩ := q D (I2.hok.fresh (Nat.le_of_eq hD))
  generalize hs3 : (⟨s2.heap.push { cls := .type "dict", data := .dict #[] }, s2.gens, s2.drawn, s2.toks, s2.os⟩ : Shared) = s3
  have I3 : Inv X pins σ (upd H2 D o0) s3 := by
    rw [← hs3]
    refine I2.laid (t' := s2.toks) (fun b o e => Heap.get?_push_of_some _ e) (Nat.le_of_eq hD) ?_
    rw [← hD]; exact em _ _ _ _ I2.big
  have h3 : s3.heap = s2.heap.push { cls := .type "dict", data := .dict #[] } := by rw [← hs3]
  have f3 : ∀ b ∈ fp, FpOk X pins (upd H2 D o0) b ∧ b < s3.heap.objs.size := fun b hb => by
    obtain ⟨o, e, _⟩ := T.obj _ _ st2 b hb
    have hlt := Heap.lt_size e
    refine ⟨⟨?_, (f2 b hb).2⟩, by rw [h3, Heap.size_push]; exact Nat.lt_succ_of_lt hlt⟩
    rw [upd_ne (by rw [← hD]; exact Nat.ne_of_lt hlt)]; exact (f2 b hb).1
  have st3 : tn 0 s3.heap := T.keep _ _ _ st2 fun b _ o e => by rw [h3]; exact Heap.get?_push_of_some _ e
  have I4 := block_start I3 ok hN f3
  have pg := hg s3 (upd H2 D o0) s3.heap.objs.size (cellsFrom (s3.heap.objs.size + 1) scope.names (cloFrom X.env.cells scope.names [])) fp
  have pt := ht s3 (upd H2 D o0) s3.heap.objs.size (cellsFrom (s3.heap.objs.size + 1) scope.names (cloFrom X.env.cells scope.names [])) fp
  have pk := hk s3 (upd H2 D o0) s3.heap.objs.size (cellsFrom (s3.heap.objs.size + 1) scope.names (cloFrom X.env.cells scope.names [])) fp
  have pe := he s3 (upd H2 D o0) s3.heap.objs.size (cellsFrom (s3.heap.objs.size + 1) scope.names (cloFrom X.env.cells scope.names [])) fp
  refine (?_ : codeAny _ _ (.compStart (.DictComp kx vx [⟨tg, iter, ifs, 0⟩] scope pos) 0 (.ref it) (.ref D) (inCell X s3 scope)) (compPost (model X.prog X.w) X.A X.xe none (fun v s' => ∃ x H', Inv X pins σ H' s' ∧ RelV x v ∧ Q x H') (.ref D) s3.heap.objs.size) { s3 with heap := pushCells (s3.heap.push { cls := .type "dict", data := .dict #[] }) scope.names })
  have nfp : ∀ b ∈ fp, (upd H2 D o0) b = none := fun b hb => (f3 b hb).1.1
  obtain ⟨ce, hce⟩ : ∃ ce, inCell X s3 scope = ce := ⟨_, rfl⟩
  have cL : ce.locals = s3.heap.objs.size := by rw [← hce]; rfl
  rw [show compEnvC scope (cellsFrom (s3.heap.objs.size + 1) scope.names (cloFrom X.env.cells scope.names [])) s3.heap.objs.size X.env = ce from hce] at I4 pg pt pk pe
  rw [hce]
  generalize upd H2 D o0 = H3 at I3 I4 pg pt pk pe w0 nfp f3
  obtain ⟨s4, hs4⟩ : ∃ s4 : Shared, { s3 with heap := pushCells (s3.heap.push { cls := .type "dict", data := .dict #[] }) scope.names } = s4 := ⟨_, rfl⟩
  rw [hs4] at I4 ⊢
  have st4 : tn 0 s4.heap := T.keep _ _ _ st3 fun b _ o e => by
    rw [← hs4]; exact pushCells_keeps _ _ _ _ (Heap.get?_push_of_some _ e)
  let Y := X.blk s3 H3 scope ce fp
  have stat : ∀ {σ' : L2.St} {H' : Hp} {s' : Shared}, Inv Y [] σ' H' s' → (∀ b ∈ fp, H' b = none) → ∀ b ∈ fp, FpOk Y [] H' b := fun {σ' H' s'} I' hn b hb =>
    ⟨hn b hb, (I'.ok.exf b hb).1, I'.ok.exfs b hb, .inl hb, fun x c e => (I'.ok.exf b hb).2 x c e, fun p hp => absurd (show p ∈ ([] : List (Addr × Obj)) ++ [] from hp) (by simp)⟩
  let Z : Nat → Shared → Prop := fun n s' => ∃ i H', Inv Y [] (wipe σ (own.map (·.2))) H' s' ∧ tn i s'.heap ∧ (∀ b ∈ fp, H' b = none) ∧ W i n H'
  have loop : codeAny (model X.prog X.w) X.A (.compLoop (.DictComp kx vx [⟨tg, iter, ifs, 0⟩] scope pos) 0 (.ref it) (.ref D) ce) (compPost (model X.prog X.w) X.A X.xe none (fun v s' => ∃ x H', Inv X pins σ H' s' ∧ RelV x v ∧ Q x H') (.ref D) s3.heap.objs.size) s4 := by
    refine compLoop_anyD Z ?_ m0 ⟨0, H3, I4, st4, nfp, w0⟩
    rintro n s5 ⟨i, H5, I5, st5, n5, w5⟩
    rcases turn i n H5 w5 with ⟨stop, qq⟩ | ⟨go, Nx, hNx, step⟩
    · refine thnF (T.done Y rfl rfl rfl hc i [] s5 _ H5 (fun _ _ => False) I5 (stat I5 n5) st5 stop) fun r s6 ⟨hr, I6⟩ => ?_
      subst hr
      have I7 : Inv X pins σ H5 s6 := I3.call' (ch := fp) I6.os I6.base I6.hok I6.bare fun b hb => (fun (z : FpOk X pins H3 b) => ⟨z.2.2.2.1, z.2.1, z.2.2.2.2.1, z.2.2.2.2.2⟩) (f3 b hb).1
      have nC : H5 s3.heap.objs.size = none := by
        rw [← cL]; exact I6.free
      obtain ⟨m, hn, _⟩ := I6.loc
      have hn' : s6.heap.Ns s3.heap.objs.size m := by
        rw [← cL]; exact hn
      obtain ⟨e0, e1, e2, e3, e4, e5⟩ : FpOk X pins H5 s3.heap.objs.size := I3.fpOk (Nat.le_refl _) nC
      exact ⟨m, hn', fun h'' sb => ⟨.ref D, H5, I7.turned (t' := s6.toks) (fun b o hb e => (sb.2 b hb).trans e) e0 e1 e3 e4 e5, rfl, qq⟩⟩
    · refine thnF (T.item Y rfl rfl rfl hc i [] s5 _ H5 (fun _ _ => False) I5 (stat I5 n5) st5 go) fun r s6 ⟨u, hr, h6⟩ => ?_
      subst hr
      refine thnF h6 fun _ s7 ⟨x, H7, I7, r7, y7, st7, n7⟩ => ?_
      refine thnF (pg.run _ s7 _ H7 x u _ (I7.pinned (stat I7 n7) (T.obj _ _ st7)) r7 (step x H7 y7)) fun _ s8 ⟨σ8, H8, I8, hw8, q8⟩ => ?_
      refine thnF (pt.run _ s8 σ8 H8 _ I8 q8) fun b s9 ⟨H9, I9, q9⟩ => ?_
      have fin : ∀ {s' : Shared} {H' : Hp}, Inv Y ([] ++ pinsAt fp s7.heap) σ8 H' s' → Nx H' → ∃ m, m < n ∧ Z m s' := fun {s' H'} I' nx => by
        obtain ⟨m', hm, w'⟩ := hNx H' nx
        have pin' : ∀ b ∈ fp, ∀ o, s7.heap.get? b = some o → s'.heap.get? b = some o ∧ H' b = none := fun b hb o e =>
          (fun z => ⟨z.1, z.2.1⟩) (I'.pin (b, o) (List.mem_append_right _ (List.mem_append_right _ (mem_pinsAt hb e))))
        have hl : (wipe σ (own.map (·.2))).length = σ8.length := by rw [← hw8, wipe_length]
        refine ⟨m', hm, i + 1, H', (I'.unpinned (pins := [])).weak hl (fun j v e => by rw [← hw8] at e; exact (wipe_some e).1), T.keep _ _ _ st7 fun b hb o e => (pin' b hb o e).1, fun b hb => ?_, w'⟩
        obtain ⟨o, e, _⟩ := T.obj _ _ st7 b hb
        exact (pin' b hb o e).2
      cases b with
      | false => exact fin I9 q9
      | true =>
        refine thnF (pk.run _ s9 σ8 H9 _ I9 q9) fun z s10 ⟨yk, H10, I10, r10, q10⟩ => ?_
        refine thnF (pe.run _ s10 σ8 H10 _ I10 q10) fun z2 s11 ⟨yv, H11, I11, r11, H12, pu, nx⟩ => ?_
        exact d_dictPut (X := Y) hu I11 pu r10 r11 fun s12 I12 => fin I12 nx
  exact codeAny_compStart_dict loop (T.self X.A 0 _ _ _ st4 loop)
end
theorem dcP_it {o0 : HO} {J : It} {n : Nat} {G : Hp → Prop} {Y : Nat → Hp → V → Hp → Prop} (w : Walk J n G Y) {g : TG} {tt : TT} {tk tv : TE} {vs : List Nat} {σ : L2.St} {H1 : Hp} {D : Addr} {Qd : Hp → Prop} (Pv : Nat → Hp → Prop)
    (h0 : Pv 0 (upd H1 D o0)) (hG : ∀ i H, i ≤ n → Pv i H → G H) (hs : ∀ i x H H', i < n → Pv i H → Y i H x H' → dcStep g tt tk tv vs σ D (Pv (i + 1)) x H') (hd : ∀ H, Pv n H → Qd H) :
    ∃ W : Nat → Nat → Hp → Prop, (∃ m, W 0 m (upd H1 D o0)) ∧ ∀ i m H, W i m H → (J.stop i H ∧ Qd H) ∨
      (J.go i H ∧ ∃ Nx : Hp → Prop, (∀ H', Nx H' → ∃ m', m' < m ∧ W (i + 1) m' H') ∧ ∀ x H', J.yld i H x H' → dcStep g tt tk tv vs σ D Nx x H') := by
  refine ⟨fun i m H => m = n - i ∧ i ≤ n ∧ Pv i H, ⟨n, rfl, Nat.zero_le _, h0⟩, ?_⟩
  rintro i m H ⟨rfl, hi, p⟩
  have q := hG i H hi p
  by_cases hlt : i < n
  · exact .inr ⟨w.goes i H hlt q, Pv (i + 1), fun H' p' => ⟨n - (i + 1), by omega, rfl, hlt, p'⟩, fun x H' y => hs i x H H' hlt p (w.yields i H x H' hlt q y)⟩
  · have e : i = n := by omega
    subst e
    exact .inl ⟨w.stops H q, hd H p⟩
/-! ### one walker for all -/
theorem wk {J : It} {n : Nat} {G : Hp → Prop} {Y : Nat → Hp → V → Hp → Prop} (w : Walk J n G Y) {S : (Hp → Prop) → V → Hp → Prop} {H1 : Hp} {Qd : Hp → Prop} (Pv : Nat → Hp → Prop)
    (h0 : Pv 0 H1) (hG : ∀ i H, i ≤ n → Pv i H → G H) (hs : ∀ i x H H', i < n → Pv i H → Y i H x H' → S (Pv (i + 1)) x H') (hd : ∀ H, Pv n H → Qd H) :
    ∃ W : Nat → Nat → Hp → Prop, (∃ m, W 0 m H1) ∧ ∀ i m H, W i m H → (J.stop i H ∧ Qd H) ∨
      (J.go i H ∧ ∃ Nx : Hp → Prop, (∀ H', Nx H' → ∃ m', m' < m ∧ W (i + 1) m' H') ∧ ∀ x H', J.yld i H x H' → S Nx x H') := by
  refine ⟨fun i m H => m = n - i ∧ i ≤ n ∧ Pv i H, ⟨n, rfl, Nat.zero_le _, h0⟩, ?_⟩
  rintro i m H ⟨rfl, hi, p⟩
  have q := hG i H hi p
  by_cases hlt : i < n
  · exact .inr ⟨w.goes i H hlt q, Pv (i + 1), fun H' p' => ⟨n - (i + 1), by omega, rfl, hlt, p'⟩, fun x H' y => hs i x H H' hlt p (w.yields i H x H' hlt q y)⟩
  · have e : i = n := by omega
    subst e
    exact .inl ⟨w.stops H q, hd H p⟩

end My

set_option Elab.async false
set_option linter.all false
set_option maxRecDepth 100000
namespace My
open PySem PySem.Spec PyProof.Rows L2 GxR

def NearD (kvs : List (List Key × V)) (ts : List (Int × Int)) : Prop := ∀ a b : Int, (valV kvs [Sum.inl a, Sum.inl b]).isSome = decide ((a, b) ∈ ts ∨ (b, a) ∈ ts)
theorem near_put {kvs : List (List Key × V)} {ts : List (Int × Int)} (h : NearD kvs ts) (t : Int × Int) (u v : V) :
    NearD (putK (putK kvs [Sum.inl t.1, Sum.inl t.2] v) [Sum.inl t.2, Sum.inl t.1] u) (ts ++ [t]) := fun a b => by
  rw [valV_put, valV_put]
  cases t with | mk x y =>
  dsimp only
  by_cases h1 : a = y ∧ b = x
  · obtain ⟨rfl, rfl⟩ := h1
    rw [if_pos rfl]
    exact (decide_eq_true (.inr (List.mem_append_right _ (List.mem_singleton.mpr rfl)))).symm
  · have n1 : ¬ ([Sum.inl a, Sum.inl b] : List Key) = [Sum.inl y, Sum.inl x] := fun e => by
      cases e; exact h1 ⟨rfl, rfl⟩
    rw [if_neg n1]
    by_cases h2 : a = x ∧ b = y
    · obtain ⟨rfl, rfl⟩ := h2
      rw [if_pos rfl]
      exact (decide_eq_true (.inl (List.mem_append_right _ (List.mem_singleton.mpr rfl)))).symm
    · have n2 : ¬ ([Sum.inl a, Sum.inl b] : List Key) = [Sum.inl x, Sum.inl y] := fun e => by
        cases e; exact h2 ⟨rfl, rfl⟩
      rw [if_neg n2, h a b]
      refine decide_eq_decide.mpr ?_
      rw [List.mem_append, List.mem_append, List.mem_singleton, List.mem_singleton]
      constructor
      · rintro (z | z)
        · exact .inl (.inl z)
        · exact .inr (.inl z)
      · rintro ((z | z) | (z | z))
        · exact .inl z
        · cases z; exact absurd ⟨rfl, rfl⟩ h2
        · exact .inr z
        · cases z; exact absurd ⟨rfl, rfl⟩ h1

section
variable {P : Program} {w : World} {K : PySem.W.Frag} {mg : Str → Option Value} {base : Heap}
/-! ### _law_near -/
abbrev s__law_near : Stmt := topS 21
abbrev N__law_near : List Str := ["_law_web_here", "_law_found", "_law_a", "_law_b"]
theorem sc__law_near : FnScope N__law_near ["_law_web_here"] (defScope s__law_near) := ⟨rfl, rfl, rfl, by decide +kernel, rfl, by decide +kernel, by decide +kernel⟩
def sp_near : Sp := fun vs H Q _ => ∃ (v : V) (n : Nat) (ts : List (Int × Int)), vs = [v] ∧ Web H v n ts ∧ ts.length ≤ 10000 ∧
  ∀ D kvs H', H D = none → Same H H' → H' D = some (.dT kvs) → NearD kvs ts → Q (.ref D) H'
theorem ok_near {f : Addr} {fd : FuncData} (B : Bts mg) (F : Fun K "_law_near" "_law_near" s__law_near f fd) : FnOk P w K mg base CX0 1 f fd ["_law_web_here"] sp_near := by
  refine F.ok sc__law_near (fun vs H Q E h => ?_) (fun cdv A outer s H vs Q E hr h => ?_)
  · obtain ⟨v, n, t, rfl, _⟩ := h; rfl
  · obtain ⟨v, n, ts, rfl, ⟨p, q', us, rfl, ep, eq, hT⟩, hl, q⟩ := h
    refine ⟨_, (pss_cons (ps_set (i := 1) sc__law_near.nd rfl (by first | exact Or.inl rfl | exact Or.inr rfl) pe_dnewT)
    (pss_cons (ps_for PassesOwn.never rfl (pi_tup (pe_ix ix_tup (pv 0) pe_int (fun _ _ => rfl))) (pg_tup rfl (pgs_cons (pg_name (i := 2) sc__law_near.nd rfl (by first | exact Or.inl rfl | exact Or.inr rfl)) (pgs_cons (pg_name (i := 3) sc__law_near.nd rfl (by first | exact Or.inl rfl | exact Or.inr rfl)) pgs_nil)))
      (pss_cons (ps_dput (hu_of hr) (pv 1) (pe_tup (pa_cons (pv 2) (pa_cons (pv 3) pa_nil))) pe_bl rfl)
      (pss_one (ps_dput (hu_of hr) (pv 1) (pe_tup (pa_cons (pv 3) (pa_cons (pv 2) pa_nil))) pe_bl rfl))))
    (pss_one (ps_ret (pv 1))))), fun D nD => ?_⟩
    have s1 := same_new (o := .dT []) nD
    refine ⟨_, rfl, p, _, _, _, rfl, rfl, SqT.of (s1 _ _ ep), rfl, q', rfl, ⟨_, SqT.of (s1 _ _ eq)⟩, ?_⟩
    refine for_tup (K := K) (a := q') (xs := us) (fun i σ H1 => ∃ kvs y2 y3, σ = [some (.ref p), some (.ref D), y2, y3] ∧ Same H H1 ∧ H1 D = some (.dT kvs) ∧ kvs.length ≤ 2 * i ∧ NearD kvs (ts.take i))
      ⟨[], none, none, rfl, s1, upd_same, Nat.zero_le _, fun a b => by exact (decide_eq_false (by simp)).symm⟩ ?_ ?_ ?_
    · rintro i σ H1 _ ⟨_, _, _, _, sm, _⟩
      exact SqT.of (sm _ _ eq)
    · rintro i x σ H1 hx ⟨kvs, y2, y3, rfl, sm, eD, kl, hN⟩
      obtain ⟨t, et, ht⟩ := hT.at hx
      have hi : i < us.length := (List.getElem?_eq_some_iff.mp hx).1
      have hu := hT.len
      obtain ⟨pt, rfl, ept⟩ := ht.mono (Same.tst sm)
      refine ⟨pt, _, rfl, SqT.of ept, rfl, _, _, rfl, _, _, rfl, rfl, ?_⟩
      refine ⟨_, rfl, _, rfl, _, rfl, by show 2 ≤ sizeLine; decide, fun k1 n1 => ?_⟩
      have e1 : (upd H1 k1 (.tup [.int t.1, .int t.2])) D = some (.dT kvs) := (same_new n1) _ _ eD
      refine ⟨D, _, rfl, DPut.t (k := [Sum.inl t.1, Sum.inl t.2]) e1 upd_same (sz' (by omega)), ?_⟩
      refine ⟨_, rfl, _, rfl, _, rfl, by show 2 ≤ sizeLine; decide, fun k2 n2 => ?_⟩
      have e2 : (upd (upd (upd H1 k1 (.tup [.int t.1, .int t.2])) D (.dT (putK kvs [Sum.inl t.1, Sum.inl t.2] (.bl true)))) k2 (.tup [.int t.2, .int t.1])) D = some (.dT (putK kvs [Sum.inl t.1, Sum.inl t.2] (.bl true))) := (same_new n2) _ _ upd_same
      have l2 := len_put kvs [Sum.inl t.1, Sum.inl t.2] (.bl true)
      refine ⟨D, _, rfl, DPut.t (k := [Sum.inl t.2, Sum.inl t.1]) e2 upd_same (sz' (by omega)), ?_⟩
      have l3 := len_put (putK kvs [Sum.inl t.1, Sum.inl t.2] (.bl true)) [Sum.inl t.2, Sum.inl t.1] (.bl true)
      refine ⟨_, _, _, rfl, ?_, upd_same, by omega, ?_⟩
      · exact Same.put ((Same.put (sm.trans (same_new n1)) nD).trans (same_new n2)) nD
      · rw [List.take_add_one, et]
        exact near_put hN t _ _
    · rintro σ H1 ⟨kvs, y2, y3, rfl, sm, eD, kl, hN⟩
      rw [hT.len, List.take_length] at hN
      exact ⟨_, rfl, q D kvs H1 nD sm eD hN⟩

end
end My

set_option Elab.async false
set_option linter.all false
set_option maxRecDepth 100000
namespace My
open PySem PySem.Spec PyProof.Rows L2 GxR
section
variable {P : Program} {w : World} {K : PySem.W.Frag} {mg : Str → Option Value} {base : Heap}
/-! ### part_of -/
abbrev s_part_of : Stmt := topS 7
abbrev N_part_of : List Str := ["web", "places", "number_of", "number", "place", "ties", "a", "b"]
theorem sc_part_of : FnScope N_part_of ["web", "places"] (defScope s_part_of) := ⟨rfl, rfl, rfl, by decide +kernel, rfl, by decide +kernel, by decide +kernel⟩
def NumD (kvs : List (Key × V)) (pl : List Int) (i : Nat) : Prop := ∀ p : Int, valV kvs (Sum.inl p) = if p ∈ pl.take i then some (.int (pl.idxOf p : Int)) else none
theorem num_put {kvs : List (Key × V)} {pl : List Int} {i : Nat} {x : Int} (nd : pl.Nodup) (h : NumD kvs pl i) (e : pl[i]? = some x) : NumD (putK kvs (Sum.inl x) (.int (i : Int))) pl (i + 1) := fun p => by
  rw [valV_put, List.take_add_one, e]
  show _ = if p ∈ pl.take i ++ [x] then _ else _
  by_cases hp : p = x
  · subst hp
    rw [if_pos rfl, if_pos (List.mem_append_right _ (List.mem_singleton.mpr rfl)), idx_of nd e]
  · rw [if_neg (fun z => hp (Sum.inl.inj z)), h p]
    by_cases hm : p ∈ pl.take i
    · rw [if_pos hm, if_pos (List.mem_append_left _ hm)]
    · rw [if_neg hm, if_neg]
      intro z
      rcases List.mem_append.mp z with z | z
      · exact hm z
      · exact hp (List.mem_singleton.mp z)
theorem part_step (ts : List (Int × Int)) (t : Int × Int) (pl : List Int) : partL (ts ++ [t]) pl = partL ts pl ++ (if t.1 ∈ pl ∧ t.2 ∈ pl then [((pl.idxOf t.1 : Int), (pl.idxOf t.2 : Int))] else []) := by
  unfold partL
  rw [List.filter_append, List.map_append]
  congr 1
  by_cases h1 : t.1 ∈ pl <;> by_cases h2 : t.2 ∈ pl <;> simp [h1, h2]
def sp_part : Sp := fun vs H Q _ => ∃ (v : V) (n : Nat) (ts : List (Int × Int)) (pa : Addr) (pl : List Int), vs = [v, .ref pa] ∧ Web H v n ts ∧ ts.length ≤ 10000 ∧ H pa = some (.lst (pl.map V.int)) ∧ pl.Nodup ∧ pl.length ≤ 1000 ∧
  ∀ u H', Same H H' → Web H' u pl.length (partL ts pl) → Q u H'
theorem ok_part_of {f : Addr} {fd : FuncData} (B : Bts mg) (F : Fun K "part_of" "part_of" s_part_of f fd) : FnOk P w K mg base CX0 1 f fd ["web", "places"] sp_part := by
  refine F.ok sc_part_of (fun vs H Q E h => ?_) (fun cdv A outer s H vs Q E hr h => ?_)
  · obtain ⟨v, n, ts, pa, pl, rfl, _⟩ := h; rfl
  · obtain ⟨v, n, ts, pa, pl, rfl, ⟨p, q', us, rfl, ep, eq, hT⟩, hl, epa, nd, pll, q⟩ := h
    refine ⟨_, (pss_cons (ps_set (i := 2) sc_part_of.nd rfl (by first | exact Or.inl rfl | exact Or.inr rfl) (pe_dc (own := [("number", 3), ("place", 4)]) (g := (gTup K 2 (gCons (gName 3) (gCons (gName 4) gNil)))) (tt := tYes) rfl sc_part_of.nd (pi_enum (by rfl) B.enumerate (pa_cons (pv 1) pa_nil)) (blkOk_by (own := [("number", 3), ("place", 4)]) (N := N_part_of) (sc := defScope s_part_of) (by decide +kernel)) (fun _ _ _ _ _ => (pg_tup rfl (pgs_cons (pg_name (i := 3) sc_part_of.nd rfl (by first | exact Or.inl rfl | exact Or.inr rfl)) (pgs_cons (pg_name (i := 4) sc_part_of.nd rfl (by first | exact Or.inl rfl | exact Or.inr rfl)) pgs_nil)))) (fun _ _ _ _ _ => pts_nil) (fun _ _ _ _ _ => (pv 4)) (fun _ _ _ _ _ => (pv 3))))
    (pss_cons (ps_setLc (i := 5) (own := [("a", 6), ("b", 7)]) (g := (gTup K 2 (gCons (gName 6) (gCons (gName 7) gNil)))) rfl sc_part_of.nd rfl rfl (sw_true rfl rfl rfl (by decide +kernel)) (pi_tup (pe_ix ix_tup (pv 0) pe_int (fun _ _ => rfl))) (blkOk_by (own := [("a", 6), ("b", 7)]) (N := N_part_of) (sc := defScope s_part_of) (by decide +kernel)) (fun _ _ _ _ _ => (pg_tup rfl (pgs_cons (pg_name (i := 6) sc_part_of.nd rfl (by first | exact Or.inl rfl | exact Or.inr rfl)) (pgs_cons (pg_name (i := 7) sc_part_of.nd rfl (by first | exact Or.inl rfl | exact Or.inr rfl)) pgs_nil)))) (fun _ _ _ _ _ => (pts_one (PW.pt (pw_and (pt_cmp (pc_din (hu_of hr) (pv 6) (pv 2))) (pw_and1 (pt_cmp (pc_din (hu_of hr) (pv 7) (pv 2)))))))) (fun _ _ _ _ _ => (pe_tup (pa_cons (pe_dget (hu_of hr) (pv 2) (pv 6) (fun _ _ => rfl)) (pa_cons (pe_dget (hu_of hr) (pv 2) (pv 7) (fun _ _ => rfl)) pa_nil)))))
    (pss_one (ps_ret (pe_tup (pa_cons (pe_callB call_len_seq (by rfl) B.len (by decide +kernel) (pa_cons (pv 1) pa_nil)) (pa_cons (pe_callTy call_tuple_of (by rfl) B.tuple (by decide +kernel) (pa_cons (pv 5) pa_nil)) pa_nil))))))), ?_⟩
    refine ⟨_, rfl, pa, _, rfl, SqL.of epa, fun D nD => ?_⟩
    refine dc_it (walk_enum (K := K) (a := pa) (xs := pl.map V.int)) (fun i H1 => ∃ kvs, Same H H1 ∧ H1 D = some (.dK kvs) ∧ kvs.length ≤ i ∧ NumD kvs pl i) ⟨[], same_new nD, upd_same, Nat.le_refl _, fun p => by exact (if_neg (by simp)).symm⟩ ?_ ?_ ?_
    · rintro i H1 _ ⟨_, sm, _⟩
      exact SqL.of (sm _ _ epa)
    · rintro i x H1 H2 hi ⟨kvs, sm, eD, kl, hN⟩ ⟨T, x1, x2, rfl, nT, rfl, ex1, ex2⟩
      rw [List.length_map] at hi
      dsimp only at ex1 ex2
      cases ex1
      have e2 : x2 = .int pl[i] := by
        rw [List.getElem?_map, List.getElem?_eq_getElem hi] at ex2
        cases ex2; rfl
      subst e2
      refine ⟨T, _, rfl, SqT.of upd_same, rfl, _, _, rfl, _, _, rfl, rfl, rfl, yes ?_⟩
      have eD2 := (same_new (o := .tup [.int (i : Int), .int pl[i]]) nT) _ _ eD
      refine ⟨_, rfl, _, rfl, kvs, Sum.inl pl[i], rfl, eD2, sz' (by omega), _, Same.put (sm.trans (same_new nT)) nD, upd_same, ?_, num_put nd hN (List.getElem?_eq_getElem hi)⟩
      have := len_put kvs (Sum.inl pl[i]) (.int (i : Int))
      omega
    · rintro H1 ⟨kvs, sm, eD, kl, hN⟩
      rw [List.length_map] at hN
      have hN' : ∀ p : Int, valV kvs (Sum.inl p) = if p ∈ pl then some (.int (pl.idxOf p : Int)) else none := fun p => by
        have := hN p
        rwa [List.take_length] at this
      refine ⟨_, rfl, p, _, _, _, rfl, rfl, SqT.of (sm _ _ ep), rfl, q', rfl, ⟨_, SqT.of (sm _ _ eq)⟩, fun D2 nD2 => ?_⟩
      refine lc_tup (K := K) (a := q') (xs := us) (fun i H2 => ∃ ws, Same H1 H2 ∧ H2 D2 = some (.lst ws) ∧ Ties H2 ws (partL (ts.take i) pl)) ⟨[], same_new nD2, upd_same, by exact trivial⟩ ?_ ?_ ?_
      · rintro i H2 _ ⟨_, s2, _⟩
        exact SqT.of (s2 _ _ (sm _ _ eq))
      · rintro i x H2 hx ⟨ws, s2, eD2, hW⟩
        obtain ⟨t, et, ht⟩ := hT.at hx
        have hi : i < us.length := (List.getElem?_eq_some_iff.mp hx).1
        have hu := hT.len
        have wl := hW.len
        have wl2 := part_len (ts := ts.take i) (pl := pl)
        rw [List.length_take] at wl2
        obtain ⟨pt, rfl, ept⟩ := ht.mono (Same.tst (sm.trans s2))
        have eN2 := s2 _ _ eD
        have g1 := DGet.k (k := Sum.inl t.1) eN2
        have g2 := DGet.k (k := Sum.inl t.2) eN2
        rw [hN'] at g1 g2
        have tk : partL (ts.take (i + 1)) pl = partL (ts.take i) pl ++ (if t.1 ∈ pl ∧ t.2 ∈ pl then [((pl.idxOf t.1 : Int), (pl.idxOf t.2 : Int))] else []) := by
          rw [List.take_add_one, et]; exact part_step _ _ _
        refine ⟨pt, _, rfl, SqT.of ept, rfl, _, _, rfl, _, _, rfl, rfl, rfl, ?_⟩
        refine ⟨_, rfl, _, rfl, D, _, rfl, g1, _, rfl, ?_⟩
        by_cases m1 : t.1 ∈ pl
        · rw [if_pos m1] at g1 ⊢
          refine iteT ⟨_, rfl, _, rfl, D, _, rfl, g2, _, rfl, ?_⟩
          by_cases m2 : t.2 ∈ pl
          · rw [if_pos m2] at g2 ⊢
            refine iteT ⟨_, rfl, _, rfl, D, _, rfl, g1, _, rfl, _, rfl, D, _, rfl, g2, by show 2 ≤ sizeLine; decide, fun k nk => ?_⟩
            have e3 := (same_new (o := .tup [.int (pl.idxOf t.1 : Int), .int (pl.idxOf t.2 : Int)]) nk) _ _ eD2
            refine ⟨ws, e3, sz' (by omega), ws ++ [.ref k], Same.put (s2.trans (same_new nk)) nD2, upd_same, ?_⟩
            rw [tk, if_pos ⟨m1, m2⟩]
            exact Ties.mono (tst_put e3) ((hW.mono (tst_new nk)).app (Ties.one Tie.new))
          · rw [if_neg m2]
            refine iteF ⟨ws, s2, eD2, ?_⟩
            rw [tk, if_neg (fun z => m2 z.2), List.append_nil]
            exact hW
        · rw [if_neg m1]
          refine iteF (iteF ⟨ws, s2, eD2, ?_⟩)
          rw [tk, if_neg (fun z => m1 z.1), List.append_nil]
          exact hW
      · rintro H2 ⟨ws, s2, eD2, hW⟩
        rw [hT.len, List.take_length] at hW
        refine ⟨_, rfl, pa, _, rfl, .inl (SqL.of (s2 _ _ (sm _ _ epa))), ?_⟩
        refine ⟨_, rfl, D2, ws, rfl, .inl ⟨SqL.of eD2, fun t nt => ?_⟩⟩
        refine ⟨by show 2 ≤ sizeLine; decide, fun u nu => ?_⟩
        have s3 := (same_new (o := .tup ws) nt).trans (same_new (o := .tup [.int ((pl.map V.int).length : Int), .ref t]) nu)
        refine q _ _ ((sm.trans s2).trans s3) ⟨u, t, ws, rfl, ?_, ?_, hW.mono (Same.tst s3)⟩
        · rw [upd_same, List.length_map]
        · rw [upd_ne (ne_of_none upd_same nu)]; exact upd_same
end
end My

set_option Elab.async false
set_option linter.all false
set_option maxRecDepth 100000
namespace My
open PySem PySem.Spec PyProof.Rows L2 GxR

def nr (ts : List (Int × Int)) (a b : Int) : Bool := decide ((a, b) ∈ ts ∨ (b, a) ∈ ts)
def rowJ (f : Int → Int → Bool) (pl : List Int) (j m : Nat) : List (Int × Int) := ((List.range m).filter fun k => f (pl.getD k 0) (pl.getD j 0)).map fun (k : Nat) => ((k : Int), (j : Int))
def accJ (f : Int → Int → Bool) (pl : List Int) (j : Nat) : List (Int × Int) := (List.range j).flatMap fun j => rowJ f pl j j
theorem rowJ_succ (f : Int → Int → Bool) (pl : List Int) (j m : Nat) : rowJ f pl j (m + 1) = rowJ f pl j m ++ (if f (pl.getD m 0) (pl.getD j 0) = true then [((m : Int), (j : Int))] else []) := by
  unfold rowJ
  rw [List.range_succ, List.filter_append, List.map_append]
  congr 1
  by_cases h : f (pl.getD m 0) (pl.getD j 0) = true
  · rw [if_pos h, List.filter_cons_of_pos (p := fun k => f (pl.getD k 0) (pl.getD j 0)) h]; rfl
  · rw [if_neg h, List.filter_cons_of_neg (p := fun k => f (pl.getD k 0) (pl.getD j 0)) h]; rfl
theorem accJ_succ (f : Int → Int → Bool) (pl : List Int) (j : Nat) : accJ f pl (j + 1) = accJ f pl j ++ rowJ f pl j j := by
  unfold accJ; rw [List.range_succ, List.flatMap_append, List.flatMap_singleton]
theorem rowJ_len (f : Int → Int → Bool) (pl : List Int) (j m : Nat) : (rowJ f pl j m).length ≤ m := by
  unfold rowJ
  rw [List.length_map]
  have := List.length_filter_le (fun k => f (pl.getD k 0) (pl.getD j 0)) (List.range m)
  rwa [List.length_range] at this
theorem accJ_len (f : Int → Int → Bool) (pl : List Int) : ∀ j, j ≤ 100 → (accJ f pl j).length ≤ j * 100
  | 0, _ => Nat.zero_le _
  | j + 1, h => by
    rw [accJ_succ, List.length_append]
    have := accJ_len f pl j (by omega)
    have := rowJ_len f pl j j
    omega
theorem mem_rowJ {f : Int → Int → Bool} {pl : List Int} {j m : Nat} {t : Int × Int} : t ∈ rowJ f pl j m ↔ ∃ k, k < m ∧ f (pl.getD k 0) (pl.getD j 0) = true ∧ t = ((k : Int), (j : Int)) := by
  unfold rowJ
  rw [List.mem_map]
  constructor
  · rintro ⟨k, hk, rfl⟩
    obtain ⟨h1, h2⟩ := List.mem_filter.mp hk
    exact ⟨k, List.mem_range.mp h1, h2, rfl⟩
  · rintro ⟨k, h1, h2, rfl⟩
    exact ⟨k, List.mem_filter.mpr ⟨List.mem_range.mpr h1, h2⟩, rfl⟩
theorem mem_accJ {f : Int → Int → Bool} {pl : List Int} {n : Nat} {t : Int × Int} : t ∈ accJ f pl n ↔ ∃ j k : Nat, j < n ∧ k < j ∧ f (pl.getD k 0) (pl.getD j 0) = true ∧ t = ((k : Int), (j : Int)) := by
  unfold accJ
  rw [List.mem_flatMap]
  constructor
  · rintro ⟨j, hj, h⟩
    obtain ⟨k, h1, h2, h3⟩ := mem_rowJ.mp h
    exact ⟨j, k, List.mem_range.mp hj, h1, h2, h3⟩
  · rintro ⟨j, k, h0, h1, h2, h3⟩
    exact ⟨j, List.mem_range.mpr h0, mem_rowJ.mpr ⟨k, h1, h2, h3⟩⟩
theorem accJ_nd (f : Int → Int → Bool) (pl : List Int) (n : Nat) : (accJ f pl n).Nodup := by
  unfold accJ
  rw [List.nodup_iff_pairwise_ne, List.pairwise_flatMap]
  refine ⟨fun j _ => ?_, ?_⟩
  · unfold rowJ
    rw [List.pairwise_map]
    refine ((List.nodup_iff_pairwise_ne.mp List.nodup_range).sublist List.filter_sublist).imp fun {a b} h e => h ?_
    have := congrArg Prod.fst e
    dsimp only at this
    omega
  · refine (List.nodup_iff_pairwise_ne.mp List.nodup_range).imp fun {a b} h x hx y hy e => h ?_
    obtain ⟨_, _, _, rfl⟩ := mem_rowJ.mp hx
    obtain ⟨_, _, _, rfl⟩ := mem_rowJ.mp hy
    have := congrArg Prod.snd e
    dsimp only at this
    omega
theorem acc_part {n : Nat} {ts : List (Int × Int)} {pl : List Int} (hw : WOk n ts) (hp : Ris n pl) (t : Int × Int) : t ∈ accJ (nr ts) pl pl.length ↔ t ∈ partL ts pl := by
  rw [mem_accJ, mem_part hp.nodup]
  constructor
  · rintro ⟨j, k, hj, hk, h, rfl⟩
    have hk' : k < pl.length := by omega
    have e1 : pl[k]? = some pl[k] := List.getElem?_eq_getElem hk'
    have e2 : pl[j]? = some pl[j] := List.getElem?_eq_getElem hj
    rw [List.getD_eq_getElem?_getD, List.getD_eq_getElem?_getD, e1, e2] at h
    have h := of_decide_eq_true h
    refine ⟨k, j, _, _, rfl, e1, e2, ?_⟩
    rcases h with h | h
    · exact h
    · have b := hw.2 _ h
      have := (ris_lt hp e1 e2).mp hk
      dsimp only [Option.getD_some] at b
      omega
  · rintro ⟨i, j, a, b, rfl, hi, hj, h⟩
    refine ⟨j, i, (List.getElem?_eq_some_iff.mp hj).1, (ris_lt hp hi hj).mpr (hw.2 _ h).2.1, ?_, rfl⟩
    rw [List.getD_eq_getElem?_getD, List.getD_eq_getElem?_getD, hi, hj]
    exact decide_eq_true (.inl h)
end My

set_option Elab.async false
set_option linter.all false
set_option maxRecDepth 100000
namespace My
open PySem PySem.Spec PyProof.Rows L2 GxR

/-! ### what holds of the heap between two turns of a law -/
structure St0 (P1 P2 : Addr) (H0 H : Hp) : Prop where
  fr : FrM [P1, P2] H0 H
  t1 : TabG H P1
  t2 : TabG H P2
theorem tabG_same {H H' : Hp} {P : Addr} (h : TabG H P) (s : Same H H') : TabG H' P := by
  obtain ⟨ps, h1, h2⟩ := h
  exact ⟨ps, s _ _ h1, h2⟩
theorem St0.same {P1 P2 : Addr} {H0 H H' : Hp} (h : St0 P1 P2 H0 H) (s : Same H H') : St0 P1 P2 H0 H' :=
  ⟨h.fr.trans (FrM.same s), tabG_same h.t1 s, tabG_same h.t2 s⟩
theorem tabG_fr {H H' : Hp} {P L : Addr} {xs : List V} (h : TabG H P) (hL : H L = some (.lst xs)) (s : Fr L H H') : TabG H' P := by
  obtain ⟨ps, h1, h2⟩ := h
  exact ⟨ps, s _ _ (fun z => by rw [z, hL] at h1; cases h1) h1, h2⟩
theorem St0.frL {P1 P2 L : Addr} {H0 H H' : Hp} {c : Int} (h : St0 P1 P2 H0 H) (hL : Lf H L c) (n0 : H0 L = none) (s : Fr L H H') : St0 P1 P2 H0 H' := by
  obtain ⟨x, y, z, e, _⟩ := hL
  refine ⟨fun b o nb eb => s b o (fun zz => ?_) (h.fr b o nb eb), tabG_fr h.t1 e s, tabG_fr h.t2 e s⟩
  rw [zz, n0] at eb; cases eb
theorem St0.tab {P1 P2 : Addr} {H0 H H' : Hp} (h : St0 P1 P2 H0 H) (s : FrM [P1, P2] H H') (t1 : TabG H' P1) (t2 : TabG H' P2) : St0 P1 P2 H0 H' := ⟨h.fr.trans s, t1, t2⟩
theorem St0.tst {P1 P2 : Addr} {H0 H H' : Hp} (h : St0 P1 P2 H0 H) (s : FrM [P1, P2] H H') : Tst H H' := fun b xs e => by
  refine s b _ (fun z => ?_) e
  obtain ⟨p1, e1, _⟩ := h.t1
  obtain ⟨p2, e2, _⟩ := h.t2
  simp only [List.mem_cons, List.not_mem_nil, or_false] at z
  rcases z with z | z
  · rw [z, e1] at e; cases e
  · rw [z, e2] at e; cases e
theorem St0.lst {P1 P2 p : Addr} {H0 H H' : Hp} {xs : List V} (h : St0 P1 P2 H0 H) (s : FrM [P1, P2] H H') (e : H p = some (.lst xs)) : H' p = some (.lst xs) := by
  refine s p _ (fun z => ?_) e
  obtain ⟨p1, e1, _⟩ := h.t1
  obtain ⟨p2, e2, _⟩ := h.t2
  simp only [List.mem_cons, List.not_mem_nil, or_false] at z
  rcases z with z | z
  · rw [z, e1] at e; cases e
  · rw [z, e2] at e; cases e
theorem St0.lf {P1 P2 L : Addr} {H0 H H' : Hp} {c : Int} (h : St0 P1 P2 H0 H) (s : FrM [P1, P2] H H') (e : Lf H L c) : Lf H' L c := by
  obtain ⟨x, y, z, e1, e2⟩ := e
  exact ⟨x, y, z, h.lst s e1, e2⟩
theorem St0.put {P1 P2 p : Addr} {H0 H : Hp} {xs : List V} {o : HO} (h : St0 P1 P2 H0 H) (n0 : H0 p = none) (e : H p = some (.lst xs)) : St0 P1 P2 H0 (upd H p o) := by
  have k : ∀ {Q : Addr}, TabG H Q → TabG (upd H p o) Q := fun {Q} ⟨ps, h1, h2⟩ => ⟨ps, by
    rw [upd_ne (fun z => by rw [z, e] at h1; cases h1)]; exact h1, h2⟩
  exact ⟨h.fr.putN n0, k h.t1, k h.t2⟩
theorem St0.free {P1 P2 p : Addr} {H0 H : Hp} (h : St0 P1 P2 H0 H) (e : H p = none) : H0 p = none := by
  cases q : H0 p with
  | none => rfl
  | some o =>
    by_cases hp : p ∈ [P1, P2]
    · obtain ⟨p1, e1, _⟩ := h.t1
      obtain ⟨p2, e2, _⟩ := h.t2
      simp only [List.mem_cons, List.not_mem_nil, or_false] at hp
      rcases hp with z | z
      · rw [z, e1] at e; cases e
      · rw [z, e2] at e; cases e
    · rw [h.fr p o hp q] at e; cases e
theorem St0.sq {K : PySem.W.Frag} {P1 P2 a : Addr} {H0 H : Hp} {xs : List V} (h0 : St0 P1 P2 H0 H0) (h : St0 P1 P2 H0 H) (e : SqL K H0 a xs) : SqL K H a xs := by
  have k : ∀ {o : HO}, H0 a = some o → (∀ ps, o ≠ .tbl ps) → H a = some o := fun {o} ea nb => by
    refine h.fr a o (fun z => ?_) ea
    obtain ⟨p1, e1, _⟩ := h0.t1
    obtain ⟨p2, e2, _⟩ := h0.t2
    simp only [List.mem_cons, List.not_mem_nil, or_false] at z
    rcases z with z | z
    · rw [z, e1] at ea; cases ea; exact nb _ rfl
    · rw [z, e2] at ea; cases ea; exact nb _ rfl
  rcases e with (e | ⟨o, e⟩) | e
  · exact .inl (.inl (k e fun _ z => by cases z))
  · exact .inl (.inr ⟨o, k e fun _ z => by cases z⟩)
  · exact .inr e

theorem cutTo (xs : List V) (j : Nat) : cutV xs none (some (j : Int)) = xs.take j := by
  unfold cutV
  rw [HT.sIx_nat, HT.sIx_none, List.drop_zero, Nat.sub_zero]
  by_cases h : j ≤ xs.length
  · rw [Nat.min_eq_left h]
  · rw [Nat.min_eq_right (by omega), List.take_length, List.take_of_length_le (by omega)]

theorem wok_len {n : Nat} {ts : List (Int × Int)} (hW : WOk n ts) (hn : n ≤ 100) : ts.length ≤ 10000 :=
  Nat.le_trans (nd_len (m := pup n n) (List.nodup_iff_pairwise_ne.mpr (hW.1.imp fun {s t} h e => by subst e; exact ltT_irr h)) fun t ht => (mem_pup (Nat.le_refl n)).mpr (by have := hW.2 t ht; omega)) (pup_len' hn (Nat.le_refl n))
theorem Eqd.bl {m : Nat} {H : Hp} {i : Bool} : Eqd m H (.bl i) (.bl i) := by
  cases m with
  | zero => exact ⟨rfl, .inr (.inl ⟨i, rfl⟩)⟩
  | succ m => exact .inl ⟨rfl, .inr (.inl ⟨i, rfl⟩)⟩

/-! ### lists of numbers as data -/
def dI (ns : List Int) : PyData := .list (ns.map PyData.int)
theorem dpI {K : PySem.W.Frag} {H : Hp} : ∀ ns : List Int, DpAll K H (ns.map V.int) (ns.map PyData.int)
  | [] => .nil
  | _ :: ns => .cons (.int _) (dpI ns)
theorem shaped_dI (ns : List Int) : SeqAt.shaped (dI ns) = true := by
  unfold SeqAt.shaped dI
  rw [Bool.and_eq_true, decide_eq_true_eq]
  constructor
  · show PyData.canLayAll0 _ = true
    induction ns with
    | nil => rfl
    | cons a l ih => rw [List.map_cons, PyData.canLayAll0, ih]; rfl
  · show PyData.depthAll _ + 1 ≤ 64
    have : PyData.depthAll (ns.map PyData.int) = 0 := by
      induction ns with
      | nil => rfl
      | cons a l ih => rw [List.map_cons, PyData.depthAll, ih]; rfl
    omega
theorem eqv_dI (ns : List Int) : PyData.eqv (dI ns) (dI ns) = true := by
  show PyData.eqvAll (ns.map PyData.int) (ns.map PyData.int) = true
  induction ns with
  | nil => rfl
  | cons a l ih =>
    rw [List.map_cons]
    show ((a == a) && PyData.eqvAll (l.map PyData.int) (l.map PyData.int)) = true
    rw [ih, beq_self_eq_true]; rfl
theorem rg_up (n : Nat) : rgV 0 (n : Int) = (up n).map V.int := by
  unfold rgV up
  rw [List.map_map]
  have : ((n : Int) - 0).toNat = n := by omega
  rw [this]
  refine List.map_congr_left fun i _ => ?_
  show V.int (0 + (i : Int)) = V.int (i : Int)
  rw [Int.zero_add]
end My

set_option Elab.async false
set_option linter.all false
set_option maxRecDepth 100000
namespace My
open PySem PySem.Spec PyProof.Rows L2 GxR

/-! ### a web put for a place -/
def oldO (pl m x : Int) : Int := if x < pl then x else if x < pl + m then pl else x - (m - 1)
theorem oldO_lo {pl m x : Int} (h : x < pl) : oldO pl m x = x := if_pos h
theorem oldO_in {pl m x : Int} (h : pl ≤ x) (k : x < pl + m) : oldO pl m x = pl := by
  unfold oldO; rw [if_neg (by omega), if_pos k]
theorem oldO_hi {pl m x : Int} (h : pl + m ≤ x) (k : 0 < m) : oldO pl m x = x - (m - 1) := by
  unfold oldO; rw [if_neg (by omega), if_neg (by omega)]
theorem oldO_cases {pl m x : Int} (k : 0 < m) : (x < pl ∧ oldO pl m x = x) ∨ (pl ≤ x ∧ x < pl + m ∧ oldO pl m x = pl) ∨ (pl + m ≤ x ∧ oldO pl m x = x - (m - 1)) := by
  by_cases h : x < pl
  · exact .inl ⟨h, oldO_lo h⟩
  · by_cases h2 : x < pl + m
    · exact .inr (.inl ⟨by omega, h2, oldO_in (by omega) h2⟩)
    · exact .inr (.inr ⟨by omega, oldO_hi (by omega) k⟩)
def nb (pl m : Nat) (a : Int) : List Int := if a = (pl : Int) then (up m).map fun x => (pl : Int) + x else [if a < (pl : Int) then a else a + m - 1]
theorem mem_nb {n m pl : Nat} {a x : Int} (hp : pl < n) (hm : 0 < m) (a0 : 0 ≤ a) (a1 : a < (n : Int)) : x ∈ nb pl m a ↔ 0 ≤ x ∧ x < (n : Int) + m - 1 ∧ oldO pl m x = a := by
  have c := oldO_cases (pl := pl) (m := m) (x := x) (by omega)
  unfold nb
  by_cases e : a = (pl : Int)
  · rw [if_pos e, List.mem_map]
    constructor
    · rintro ⟨y, hy, rfl⟩
      have := mem_up.mp hy
      omega
    · rintro ⟨h1, h2, h3⟩
      exact ⟨x - pl, mem_up.mpr (by omega), by omega⟩
  · rw [if_neg e, List.mem_singleton]
    by_cases l : a < (pl : Int)
    · rw [if_pos l]; omega
    · rw [if_neg l]; omega
theorem nb_nd (pl m : Nat) (a : Int) : (nb pl m a).Nodup := by
  unfold nb
  split
  · rw [List.nodup_iff_pairwise_ne, List.pairwise_map]
    exact (List.nodup_iff_pairwise_ne.mp (up_nodup m)).imp fun h e => h (by omega)
  · exact List.nodup_cons.mpr ⟨List.not_mem_nil, List.nodup_nil⟩
theorem nb_len {pl m : Nat} (h : 0 < m) (a : Int) : (nb pl m a).length ≤ m := by
  unfold nb
  split
  · rw [List.length_map, up_len]; exact Nat.le_refl _
  · exact h
def prd (as bs : List Int) : List (Int × Int) := as.flatMap fun x => bs.map fun y => (x, y)
theorem mem_prd {as bs : List Int} {t : Int × Int} : t ∈ prd as bs ↔ t.1 ∈ as ∧ t.2 ∈ bs := by
  unfold prd
  rw [List.mem_flatMap]
  constructor
  · rintro ⟨x, hx, h⟩
    obtain ⟨y, hy, rfl⟩ := List.mem_map.mp h
    exact ⟨hx, hy⟩
  · rintro ⟨h1, h2⟩
    exact ⟨t.1, h1, List.mem_map.mpr ⟨t.2, h2, rfl⟩⟩
theorem prd_len (as bs : List Int) : (prd as bs).length = as.length * bs.length := by
  unfold prd
  induction as with
  | nil => exact (Nat.zero_mul _).symm
  | cons a l ih => rw [List.flatMap_cons, List.length_append, ih, List.length_map, List.length_cons, Nat.succ_mul, Nat.add_comm]
theorem prd_nd {as bs : List Int} (h : as.Nodup) (k : bs.Nodup) : (prd as bs).Nodup := by
  unfold prd
  rw [List.nodup_iff_pairwise_ne, List.pairwise_flatMap]
  refine ⟨fun x _ => ?_, (List.nodup_iff_pairwise_ne.mp h).imp fun {x y} ne s hs t ht e => ?_⟩
  · rw [List.pairwise_map]
    exact (List.nodup_iff_pairwise_ne.mp k).imp fun ne e => ne (Prod.ext_iff.mp e).2
  · obtain ⟨_, _, rfl⟩ := List.mem_map.mp hs
    obtain ⟨_, _, rfl⟩ := List.mem_map.mp ht
    exact ne (Prod.ext_iff.mp e).1
theorem prd_step (as bs : List Int) (x : Int) : prd (as ++ [x]) bs = prd as bs ++ bs.map fun y => (x, y) := by
  unfold prd; rw [List.flatMap_append, List.flatMap_singleton]
def putL (ts is : List (Int × Int)) (pl m : Nat) : List (Int × Int) := is.map (fun t => ((pl : Int) + t.1, (pl : Int) + t.2)) ++ ts.flatMap fun t => prd (nb pl m t.1) (nb pl m t.2)
theorem putL_step (ts is : List (Int × Int)) (t : Int × Int) (pl m : Nat) : putL (ts ++ [t]) is pl m = putL ts is pl m ++ prd (nb pl m t.1) (nb pl m t.2) := by
  unfold putL; rw [List.flatMap_append, List.flatMap_singleton, List.append_assoc]
def PutM (n m pl : Nat) (ts is : List (Int × Int)) (t : Int × Int) : Prop := 0 ≤ t.1 ∧ t.1 < t.2 ∧ t.2 < (n : Int) + m - 1 ∧
  ((oldO pl m t.1 = pl ∧ oldO pl m t.2 = pl ∧ (t.1 - pl, t.2 - pl) ∈ is) ∨ (oldO pl m t.1, oldO pl m t.2) ∈ ts)
theorem mem_put {n m pl : Nat} {ts is : List (Int × Int)} (hp : pl < n) (hm : 0 < m) (hw : WOk n ts) (hi : WOk m is) {t : Int × Int} : t ∈ putL ts is pl m ↔ PutM n m pl ts is t := by
  unfold putL PutM
  have c1 := oldO_cases (pl := pl) (m := m) (x := t.1) (by omega)
  have c2 := oldO_cases (pl := pl) (m := m) (x := t.2) (by omega)
  rw [List.mem_append, List.mem_map, List.mem_flatMap]
  constructor
  · rintro (⟨s, hs, rfl⟩ | ⟨s, hs, h⟩)
    · have b := hi.2 s hs
      dsimp only at c1 c2 ⊢
      refine ⟨by omega, by omega, by omega, .inl ⟨by omega, by omega, ?_⟩⟩
      rw [show (pl : Int) + s.1 - pl = s.1 by omega, show (pl : Int) + s.2 - pl = s.2 by omega]; exact hs
    · have b := hw.2 s hs
      obtain ⟨h1, h2⟩ := mem_prd.mp h
      have m1 := (mem_nb hp hm (by omega) (by omega)).mp h1
      have m2 := (mem_nb hp hm (by omega) (by omega)).mp h2
      refine ⟨by omega, by omega, by omega, .inr ?_⟩
      rw [m1.2.2, m2.2.2]; exact hs
  · rintro ⟨h0, h1, h2, ⟨o1, o2, h⟩ | h⟩
    · refine .inl ⟨_, h, Prod.ext ?_ ?_⟩ <;> dsimp only <;> omega
    · have b := hw.2 _ h
      dsimp only at b
      exact .inr ⟨_, h, mem_prd.mpr ⟨(mem_nb hp hm (by omega) (by omega)).mpr ⟨h0, by omega, rfl⟩, (mem_nb hp hm (by omega) (by omega)).mpr ⟨by omega, h2, rfl⟩⟩⟩
theorem put_nd {n m pl : Nat} {ts is : List (Int × Int)} (hp : pl < n) (hm : 0 < m) (hw : WOk n ts) (hi : WOk m is) : (putL ts is pl m).Nodup := by
  have nd : ∀ {k : Nat} {l : List (Int × Int)}, WOk k l → l.Nodup := fun hk => List.nodup_iff_pairwise_ne.mpr (hk.1.imp fun {s t} h e => by subst e; exact ltT_irr h)
  unfold putL
  rw [List.nodup_append]
  refine ⟨?_, ?_, fun s hs t ht e => ?_⟩
  · rw [List.nodup_iff_pairwise_ne, List.pairwise_map]
    refine (List.nodup_iff_pairwise_ne.mp (nd hi)).imp fun {s t} ne e => ne ?_
    have := Prod.ext_iff.mp e
    dsimp only at this
    exact Prod.ext (by omega) (by omega)
  · rw [List.nodup_iff_pairwise_ne, List.pairwise_flatMap]
    refine ⟨fun t _ => List.nodup_iff_pairwise_ne.mp (prd_nd (nb_nd _ _ _) (nb_nd _ _ _)), (List.nodup_iff_pairwise_ne.mp (nd hw)).imp_of_mem fun {s t} hs ht ne x hx y hy e => ne ?_⟩
    subst e
    have bs := hw.2 s hs
    have bt := hw.2 t ht
    obtain ⟨h1, h2⟩ := mem_prd.mp hx
    obtain ⟨k1, k2⟩ := mem_prd.mp hy
    have m1 := (mem_nb hp hm (by omega) (by omega)).mp h1
    have m2 := (mem_nb hp hm (by omega) (by omega)).mp h2
    have m3 := (mem_nb hp hm (by omega) (by omega)).mp k1
    have m4 := (mem_nb hp hm (by omega) (by omega)).mp k2
    exact Prod.ext (m1.2.2.symm.trans m3.2.2) (m2.2.2.symm.trans m4.2.2)
  · subst e
    obtain ⟨r, hr, e⟩ := List.mem_map.mp hs
    obtain ⟨u, hu, h⟩ := List.mem_flatMap.mp ht
    have br := hi.2 r hr
    have bu := hw.2 u hu
    obtain ⟨h1, h2⟩ := mem_prd.mp h
    have m1 := (mem_nb hp hm (by omega) (by omega)).mp h1
    have m2 := (mem_nb hp hm (by omega) (by omega)).mp h2
    rw [← e] at m1 m2
    have o1 := oldO_in (pl := pl) (m := m) (x := (pl : Int) + r.1) (by omega) (by omega)
    have o2 := oldO_in (pl := pl) (m := m) (x := (pl : Int) + r.2) (by omega) (by omega)
    dsimp only at m1 m2
    omega
theorem put_len {n m pl : Nat} {ts is : List (Int × Int)} (hp : pl < n) (hm : 0 < m) (hw : WOk n ts) (hi : WOk m is) (hn : n + m ≤ 100) : (putL ts is pl m).length ≤ 10000 := by
  refine Nat.le_trans (nd_len (m := pup (n + m) (n + m)) (put_nd hp hm hw hi) fun t ht => ?_) (pup_len' hn (Nat.le_refl _))
  have := (mem_put hp hm hw hi).mp ht
  refine (mem_pup (Nat.le_refl _)).mpr ?_
  have h1 := this.1; have h2 := this.2.1; have h3 := this.2.2.1
  omega
theorem wok_take {n : Nat} {ts : List (Int × Int)} (h : WOk n ts) (i : Nat) : WOk n (ts.take i) := ⟨h.1.sublist (List.take_sublist _ _), fun t ht => h.2 t ((List.take_sublist _ _).subset ht)⟩

/-! ### the parts of it -/
def inL (pl m : Nat) : List Int := (up m).map fun x => (pl : Int) + x
theorem inL_rg (pl m : Nat) : rgV (pl : Int) ((pl : Int) + m) = (inL pl m).map V.int := by
  unfold rgV inL up
  rw [List.map_map, List.map_map]
  have : ((pl : Int) + m - pl).toNat = m := by omega
  rw [this]; rfl
theorem inL_get {pl m i : Nat} {x : Int} : (inL pl m)[i]? = some x ↔ i < m ∧ x = (pl : Int) + i := by
  unfold inL
  rw [List.getElem?_map]
  by_cases h : i < m
  · rw [up_get h]
    constructor
    · intro e; exact ⟨h, (Option.some.inj e).symm⟩
    · rintro ⟨_, rfl⟩; rfl
  · rw [List.getElem?_eq_none (by rw [up_len]; omega)]
    exact Iff.intro (fun e => by cases e) (fun e => absurd e.1 h)
theorem up_pw (n : Nat) : (up n).Pairwise (· < ·) := by
  unfold up
  rw [List.pairwise_map]
  exact List.pairwise_lt_range.imp fun {x y} h => Int.ofNat_lt.mpr h
theorem inL_ris {n pl m : Nat} (hp : pl < n) (hm : 0 < m) : Ris (n + m - 1) (inL pl m) := by
  refine ⟨?_, fun p hp' => ?_⟩
  · unfold inL
    rw [List.pairwise_map]
    exact (up_pw m).imp fun h => by omega
  · obtain ⟨x, hx, rfl⟩ := List.mem_map.mp hp'
    have := mem_up.mp hx
    constructor <;> omega
theorem inL_len (pl m : Nat) : (inL pl m).length = m := by unfold inL; rw [List.length_map, up_len]
theorem part_in {n m pl : Nat} {ts is rs : List (Int × Int)} (hp : pl < n) (hm : 0 < m) (hw : WOk n ts) (hi : WOk m is) (hr : WOk (n + m - 1) rs) (h : ∀ t, t ∈ rs ↔ PutM n m pl ts is t) : partL rs (inL pl m) = is := by
  refine pw_eq (part_pw (inL_ris hp hm) hr.1) hi.1 fun t => ?_
  rw [mem_part (inL_ris hp hm).nodup]
  constructor
  · rintro ⟨i, j, a, b, rfl, e1, e2, hab⟩
    obtain ⟨hi', rfl⟩ := inL_get.mp e1
    obtain ⟨hj', rfl⟩ := inL_get.mp e2
    obtain ⟨h0, h1, h2, ⟨o1, o2, z⟩ | z⟩ := (h _).mp hab
    · dsimp only at z
      rwa [show (pl : Int) + i - pl = i by omega, show (pl : Int) + j - pl = j by omega] at z
    · rw [oldO_in (by omega) (by omega), oldO_in (by omega) (by omega)] at z
      have := hw.2 _ z
      dsimp only at this; omega
  · intro m1
    have b := hi.2 t m1
    refine ⟨t.1.toNat, t.2.toNat, (pl : Int) + t.1, (pl : Int) + t.2, ?_, inL_get.mpr ⟨by omega, by omega⟩, inL_get.mpr ⟨by omega, by omega⟩, (h _).mpr ⟨?_, ?_, ?_, .inl ⟨oldO_in ?_ ?_, oldO_in ?_ ?_, ?_⟩⟩⟩
    · exact Prod.ext (by dsimp only; omega) (by dsimp only; omega)
    · dsimp only; omega
    · dsimp only; omega
    · dsimp only; omega
    · dsimp only; omega
    · dsimp only; omega
    · dsimp only; omega
    · dsimp only; omega
    · dsimp only
      rw [show (pl : Int) + t.1 - pl = t.1 by omega, show (pl : Int) + t.2 - pl = t.2 by omega]; exact m1
def outT (pl m : Nat) (one p : Int) : Bool := decide (p = one) || !decide ((pl : Int) ≤ p ∧ p < (pl : Int) + m)
def gOut (pl m : Nat) (one i : Int) : Int := if i < pl then i else if i = (pl : Int) then one else i + m - 1
theorem gOut_cases (pl m : Nat) (one i : Int) : (i < pl ∧ gOut pl m one i = i) ∨ (i = pl ∧ gOut pl m one i = one) ∨ ((pl : Int) < i ∧ gOut pl m one i = i + m - 1) := by
  unfold gOut
  by_cases h : i < (pl : Int)
  · rw [if_pos h]; exact .inl ⟨h, rfl⟩
  · by_cases k : i = (pl : Int)
    · rw [if_neg h, if_pos k]; exact .inr (.inl ⟨k, rfl⟩)
    · rw [if_neg h, if_neg k]; exact .inr (.inr ⟨by omega, rfl⟩)
theorem int_pw_eq : ∀ {as bs : List Int}, as.Pairwise (· < ·) → bs.Pairwise (· < ·) → (∀ t, t ∈ as ↔ t ∈ bs) → as = bs := fun ha hb h =>
  List.Perm.eq_of_pairwise (le := (· < ·)) (fun a b _ _ h1 h2 => by omega) ha hb ((List.perm_ext_iff_of_nodup (List.nodup_iff_pairwise_ne.mpr (ha.imp fun h e => by omega)) (List.nodup_iff_pairwise_ne.mpr (hb.imp fun h e => by omega))).mpr h)
theorem out_eq {n m pl : Nat} {one : Int} (hp : pl < n) (hm : 0 < m) (o0 : (pl : Int) ≤ one) (o1 : one < (pl : Int) + m) : (up (n + m - 1)).filter (outT pl m one) = (up n).map (gOut pl m one) := by
  refine int_pw_eq ((up_pw _).sublist List.filter_sublist) ?_ fun x => ?_
  · rw [List.pairwise_map]
    refine (up_pw n).imp fun {a b} h => ?_
    have c1 := gOut_cases pl m one a
    have c2 := gOut_cases pl m one b
    omega
  · rw [List.mem_filter, List.mem_map, mem_up]
    unfold outT
    rw [Bool.or_eq_true, decide_eq_true_eq, Bool.not_eq_true', decide_eq_false_iff_not]
    constructor
    · rintro ⟨⟨h0, h1⟩, h⟩
      refine ⟨oldO pl m x, mem_up.mpr ?_, ?_⟩
      · have c := oldO_cases (pl := pl) (m := m) (x := x) (by omega)
        constructor <;> omega
      · have c := oldO_cases (pl := pl) (m := m) (x := x) (by omega)
        have g := gOut_cases pl m one (oldO pl m x)
        omega
    · rintro ⟨i, hi, rfl⟩
      have := mem_up.mp hi
      have g := gOut_cases pl m one i
      omega
theorem old_gOut {n m pl : Nat} {one i : Int} (hp : pl < n) (hm : 0 < m) (o0 : (pl : Int) ≤ one) (o1 : one < (pl : Int) + m) : oldO pl m (gOut pl m one i) = i := by
  have c := oldO_cases (pl := pl) (m := m) (x := gOut pl m one i) (by omega)
  have g := gOut_cases pl m one i
  omega
def outL (n m pl : Nat) (one : Int) : List Int := (up (n + m - 1)).filter (outT pl m one)
theorem outL_ris {n m pl : Nat} {one : Int} : Ris (n + m - 1) (outL n m pl one) :=
  ⟨(up_pw _).sublist List.filter_sublist, fun p hp => mem_up.mp (List.mem_filter.mp hp).1⟩
theorem outL_len {n m pl : Nat} {one : Int} (hp : pl < n) (hm : 0 < m) (o0 : (pl : Int) ≤ one) (o1 : one < (pl : Int) + m) : (outL n m pl one).length = n := by
  unfold outL; rw [out_eq hp hm o0 o1, List.length_map, up_len]
theorem outL_get {n m pl i : Nat} {one x : Int} (hp : pl < n) (hm : 0 < m) (o0 : (pl : Int) ≤ one) (o1 : one < (pl : Int) + m) : (outL n m pl one)[i]? = some x ↔ i < n ∧ x = gOut pl m one i := by
  unfold outL
  rw [out_eq hp hm o0 o1, List.getElem?_map]
  by_cases h : i < n
  · rw [up_get h]
    constructor
    · intro e; exact ⟨h, (Option.some.inj e).symm⟩
    · rintro ⟨_, rfl⟩; rfl
  · rw [List.getElem?_eq_none (by rw [up_len]; omega)]
    exact Iff.intro (fun e => by cases e) (fun e => absurd e.1 h)
theorem part_out {n m pl : Nat} {one : Int} {ts is rs : List (Int × Int)} (hp : pl < n) (hm : 0 < m) (o0 : (pl : Int) ≤ one) (o1 : one < (pl : Int) + m) (hw : WOk n ts) (hi : WOk m is) (hr : WOk (n + m - 1) rs) (h : ∀ t, t ∈ rs ↔ PutM n m pl ts is t) : partL rs (outL n m pl one) = ts := by
  refine pw_eq (part_pw outL_ris hr.1) hw.1 fun t => ?_
  rw [mem_part outL_ris.nodup]
  constructor
  · rintro ⟨i, j, a, b, rfl, e1, e2, hab⟩
    obtain ⟨hi', rfl⟩ := (outL_get hp hm o0 o1).mp e1
    obtain ⟨hj', rfl⟩ := (outL_get hp hm o0 o1).mp e2
    obtain ⟨h0, h1, h2, ⟨p1, p2, z⟩ | z⟩ := (h _).mp hab
    · dsimp only at p1 p2 h1
      rw [old_gOut hp hm o0 o1] at p1 p2
      rw [p1, p2] at h1; omega
    · rwa [old_gOut hp hm o0 o1, old_gOut hp hm o0 o1] at z
  · intro m1
    have b := hw.2 t m1
    have c1 := gOut_cases pl m one t.1
    have c2 := gOut_cases pl m one t.2
    refine ⟨t.1.toNat, t.2.toNat, gOut pl m one t.1, gOut pl m one t.2, ?_, (outL_get hp hm o0 o1).mpr ⟨by omega, ?_⟩, (outL_get hp hm o0 o1).mpr ⟨by omega, ?_⟩, (h _).mpr ⟨?_, ?_, ?_, .inr ?_⟩⟩
    · exact Prod.ext (by dsimp only; omega) (by dsimp only; omega)
    · rw [Int.toNat_of_nonneg (by omega)]
    · rw [Int.toNat_of_nonneg (by omega)]
    · dsimp only; omega
    · dsimp only; omega
    · dsimp only; omega
    · dsimp only
      rw [old_gOut hp hm o0 o1, old_gOut hp hm o0 o1]; exact m1
theorem put_one {n pl : Nat} {ts rs : List (Int × Int)} (hp : pl < n) (hw : WOk n ts) (hr : WOk (n + 1 - 1) rs) (h : ∀ t, t ∈ rs ↔ PutM n 1 pl ts [] t) : rs = ts := by
  refine pw_eq hr.1 hw.1 fun t => ?_
  rw [h]
  have o : ∀ x : Int, oldO pl (1 : Nat) x = x := fun x => by
    have c := oldO_cases (pl := pl) (m := (1 : Nat)) (x := x) (by omega)
    omega
  unfold PutM
  rw [o, o]
  constructor
  · rintro ⟨_, _, _, ⟨_, _, z⟩ | z⟩
    · cases z
    · exact z
  · intro m1
    have b := hw.2 t m1
    exact ⟨b.1, b.2.1, by omega, .inr m1⟩
end My

set_option Elab.async false
set_option linter.all false
set_option maxRecDepth 100000
namespace My
open PySem PySem.Spec PyProof.Rows L2 GxR
section
variable {P : Program} {w : World} {K : PySem.W.Frag} {mg : Str → Option Value} {base : Heap}
/-! ### numbers_behind -/
abbrev s_numbers_behind : Stmt := topS 9
abbrev N_numbers_behind : List Str := ["old", "place", "size"]
theorem sc_numbers_behind : FnScope N_numbers_behind ["old", "place", "size"] (defScope s_numbers_behind) := ⟨rfl, rfl, rfl, by decide +kernel, rfl, by decide +kernel, by decide +kernel⟩
def sp_behind : Sp := fun vs H Q _ => ∃ (a : Int) (pl m : Nat), vs = [.int a, .int (pl : Int), .int (m : Int)] ∧ pl ≤ 1000 ∧ m ≤ 1000 ∧
  ∀ p, H p = none → Q (.ref p) (upd H p (.lst ((nb pl m a).map V.int)))
theorem ok_behind {f : Addr} {fd : FuncData} (B : Bts mg) (F : Fun K "numbers_behind" "numbers_behind" s_numbers_behind f fd) : FnOk P w K mg base CX0 1 f fd ["old", "place", "size"] sp_behind := by
  refine F.ok sc_numbers_behind (fun vs H Q E h => ?_) (fun cdv A outer s H vs Q E hr h => ?_)
  · obtain ⟨a, pl, m, rfl, _⟩ := h; rfl
  · obtain ⟨a, pl, m, rfl, h1, h2, q⟩ := h
    refine ⟨_, (pss_cons (ps_if (pt_cmpR op_eq (pv 0) (pv 1) (nomark _)) (pss_one (ps_ret (pe_listRg rfl (by rfl) B.list (prg_2 (by rfl) B.range (pv 1) (pe_op op_add (pv 1) (pv 2)))))) pss_nil)
    (pss_one (ps_ret (pe_lst (pa_cons (pe_ifExp (pt_cmpR op_lt (pv 0) (pv 1) (nomark _)) (pv 0) (pe_op op_sub (pe_op op_add (pv 0) (pv 2)) pe_int)) pa_nil))))), ?_⟩
    unfold nb at q
    refine ⟨_, rfl, _, rfl, rfl, _, rfl, ite2 (fun e => ?_) (fun e => ?_)⟩
    · have e' : a = (pl : Int) := by
        have := of_decide_eq_true e
        exact V.int.inj this
      rw [if_pos e'] at q
      refine ⟨_, rfl, _, rfl, _, rfl, _, _, rfl, rfl, _, _, rfl, rfl, RgOk.of_le (by omega) (by omega) (by omega) (by omega), ?_⟩
      rw [inL_rg]
      exact q
    · have e' : ¬ a = (pl : Int) := fun z => e (by rw [z]; exact decide_eq_true rfl)
      rw [if_neg e'] at q
      refine ⟨_, rfl, _, rfl, _, _, rfl, rfl, _, rfl, ite2 (fun e => ?_) (fun e => ?_)⟩
      · rw [if_pos (of_decide_eq_true e)] at q
        exact ⟨_, rfl, by show 1 ≤ sizeLine; decide, q⟩
      · rw [if_neg (fun z => e (decide_eq_true z))] at q
        refine ⟨_, rfl, _, rfl, _, _, rfl, rfl, _, _, rfl, rfl, by show 1 ≤ sizeLine; decide, q⟩

/-! ### put_for -/
abbrev s_put_for : Stmt := topS 8
abbrev N_put_for : List Str := ["web", "place", "other", "many", "ties", "size", "inner", "told", "a", "b", "firsts", "seconds", "first", "second"]
theorem sc_put_for : FnScope N_put_for ["web", "place", "other"] (defScope s_put_for) := ⟨rfl, rfl, rfl, by decide +kernel, rfl, by decide +kernel, by decide +kernel⟩
def sp_put : Sp := fun vs H Q _ => ∃ (v o : V) (n m pl : Nat) (ts is : List (Int × Int)), vs = [v, .int (pl : Int), o] ∧ Web H v n ts ∧ Web H o m is ∧ WOk n ts ∧ WOk m is ∧ pl < n ∧ 0 < m ∧ n + m ≤ 100 ∧
  ∀ u H' rs, Same H H' → Web H' u (n + m - 1) rs → WOk (n + m - 1) rs → (∀ t, t ∈ rs ↔ PutM n m pl ts is t) → Q u H'
theorem ok_put_for {f : Addr} {fd : FuncData} (B : Bts mg) (F : Fun K "put_for" "put_for" s_put_for f fd) (c_numbers_behind : Cl P w K mg base 1 "numbers_behind" sp_behind) : FnOk P w K mg base CX0 2 f fd ["web", "place", "other"] sp_put := by
  refine F.ok sc_put_for (fun vs H Q E h => ?_) (fun cdv A outer s H vs Q E hr h => ?_)
  · obtain ⟨v, o, n, m, pl, ts, is, rfl, _⟩ := h; rfl
  · obtain ⟨v, o, n, m, pl, ts, is, rfl, ⟨p, q', us, rfl, ep, eq, hT⟩, ⟨po, qo, is', rfl, epo, eqo, hI⟩, hW, hO, hpl, hm, hnm, q⟩ := h
    refine ⟨_, (pss_cons (ps_asg (pv 0) (pg_tup rfl (pgs_cons (pg_name (i := 3) sc_put_for.nd rfl (by first | exact Or.inl rfl | exact Or.inr rfl)) (pgs_cons (pg_name (i := 4) sc_put_for.nd rfl (by first | exact Or.inl rfl | exact Or.inr rfl)) pgs_nil))))
    (pss_cons (ps_asg (pv 2) (pg_tup rfl (pgs_cons (pg_name (i := 5) sc_put_for.nd rfl (by first | exact Or.inl rfl | exact Or.inr rfl)) (pgs_cons (pg_name (i := 6) sc_put_for.nd rfl (by first | exact Or.inl rfl | exact Or.inr rfl)) pgs_nil))))
    (pss_cons (ps_setLc (i := 7) (own := [("a", 8), ("b", 9)]) (g := (gTup K 2 (gCons (gName 8) (gCons (gName 9) gNil)))) (tt := tYes) rfl sc_put_for.nd rfl rfl (sw_true rfl rfl rfl (by decide +kernel)) (pi_tup (pv 6)) (blkOk_by (own := [("a", 8), ("b", 9)]) (N := N_put_for) (sc := defScope s_put_for) (by decide +kernel)) (fun _ _ _ _ _ => (pg_tup rfl (pgs_cons (pg_name (i := 8) sc_put_for.nd rfl (by first | exact Or.inl rfl | exact Or.inr rfl)) (pgs_cons (pg_name (i := 9) sc_put_for.nd rfl (by first | exact Or.inl rfl | exact Or.inr rfl)) pgs_nil)))) (fun _ _ _ _ _ => pts_nil) (fun _ _ _ _ _ => (pe_tup (pa_cons (pe_op op_add (pv 1) (pv 8)) (pa_cons (pe_op op_add (pv 1) (pv 9)) pa_nil)))))
    (pss_cons (ps_for PassesOwn.never rfl (pi_tup (pv 4)) (pg_tup rfl (pgs_cons (pg_name (i := 8) sc_put_for.nd rfl (by first | exact Or.inl rfl | exact Or.inr rfl)) (pgs_cons (pg_name (i := 9) sc_put_for.nd rfl (by first | exact Or.inl rfl | exact Or.inr rfl)) pgs_nil)))
      (pss_cons (ps_set (i := 10) sc_put_for.nd rfl (by first | exact Or.inl rfl | exact Or.inr rfl) (pe_c c_numbers_behind hr (by decide) (by rfl) (pa_cons (pv 8) (pa_cons (pv 1) (pa_cons (pv 5) pa_nil)))))
      (pss_cons (ps_set (i := 11) sc_put_for.nd rfl (by first | exact Or.inl rfl | exact Or.inr rfl) (pe_c c_numbers_behind hr (by decide) (by rfl) (pa_cons (pv 9) (pa_cons (pv 1) (pa_cons (pv 5) pa_nil)))))
      (pss_one (ps_expr (pe_bm PySem.F.plainAttrs_list PySem.F.slot_list_extend PySem.F.type_list_extend mt_extend (pv 7) (pa_cons (pe_lc2 (own := [("first", 12), ("second", 13)]) (vs1 := [13]) (g := (gName 12)) (g1 := (gName 13)) (tt := tYes) (tt1 := tYes) (wi1 := iList K (tVar 11)) rfl sc_put_for.nd (pi_list (pv 10)) (blkOk_by (own := [("first", 12), ("second", 13)]) (N := N_put_for) (sc := defScope s_put_for) (by decide +kernel)) (by decide) (fun _ _ _ _ _ => (pg_name (i := 12) sc_put_for.nd rfl (by first | exact Or.inl rfl | exact Or.inr rfl))) (fun _ _ _ _ _ => pts_nil) (fun _ _ _ _ _ => (pi_list (pv 11))) (fun _ _ _ _ _ => (pg_name (i := 13) sc_put_for.nd rfl (by first | exact Or.inl rfl | exact Or.inr rfl))) (fun _ _ _ _ _ => pts_nil) (fun _ _ _ _ _ => (pe_tup (pa_cons (pv 12) (pa_cons (pv 13) pa_nil))))) pa_nil)))))))
    (pss_one (ps_ret (pe_tup (pa_cons (pe_op op_sub (pe_op op_add (pv 3) (pv 5)) pe_int) (pa_cons (pe_callTy call_tuple_of (by rfl) B.tuple (by decide +kernel) (pa_cons (pe_callB cr_sortedPO (by rfl) B.sorted (by decide +kernel) (pa_cons (pv 7) pa_nil)) pa_nil)) pa_nil))))))))), ?_⟩
    have tl := wok_len hW (by omega)
    have il := wok_len hO (by omega)
    refine ⟨_, rfl, p, _, rfl, SqT.of ep, rfl, _, _, rfl, _, _, rfl, rfl, ?_⟩
    refine ⟨_, rfl, po, _, rfl, SqT.of epo, rfl, _, _, rfl, _, _, rfl, rfl, ?_⟩
    refine ⟨_, rfl, qo, rfl, ⟨_, SqT.of eqo⟩, fun D nD => ?_⟩
    refine wk (walk_tup (K := K) (a := qo) (xs := is')) (fun i H1 => ∃ ws, Same H H1 ∧ H1 D = some (.lst ws) ∧ Ties H1 ws ((is.take i).map fun t => ((pl : Int) + t.1, (pl : Int) + t.2))) ⟨[], same_new nD, upd_same, by exact trivial⟩ ?_ ?_ ?_
    · rintro i H1 _ ⟨_, sm, _⟩
      exact SqT.of (sm _ _ eqo)
    · rintro i x H1 H2 hi ⟨ws, sm, eD, hR⟩ ⟨rfl, hx⟩
      obtain ⟨t, et, ht⟩ := hI.at hx
      have hu := hI.len
      obtain ⟨pt, rfl, ept⟩ := ht.mono (Same.tst sm)
      have wl := hR.len
      rw [List.length_map, List.length_take] at wl
      refine ⟨pt, _, rfl, SqT.of ept, rfl, _, _, rfl, _, _, rfl, rfl, rfl, yes ?_⟩
      refine ⟨_, rfl, _, rfl, _, _, rfl, rfl, _, rfl, _, rfl, _, _, rfl, rfl, by show 2 ≤ sizeLine; decide, fun k nk => ?_⟩
      have sk := same_new (o := .tup [.int ((pl : Int) + t.1), .int ((pl : Int) + t.2)]) nk
      have e3 := sk _ _ eD
      refine ⟨ws, e3, sz' (by omega), ws ++ [.ref k], Same.put (sm.trans sk) nD, upd_same, ?_⟩
      rw [List.take_add_one, et, List.map_append]
      exact Ties.mono (tst_put e3) ((hR.mono (Same.tst sk)).app (Ties.one Tie.new))
    · rintro H1 ⟨ws, sm, eD, hR⟩
      rw [hI.len, List.take_length] at hR
      refine ⟨_, rfl, q', rfl, ⟨_, SqT.of (sm _ _ eq)⟩, ?_⟩
      refine for_tup (K := K) (a := q') (xs := us) (fun i σ H2 => ∃ ws y8 y9 y10 y11, σ = [some (.ref p), some (.int (pl : Int)), some (.ref po), some (.int (n : Int)), some (.ref q'), some (.int (m : Int)), some (.ref qo), some (.ref D), y8, y9, y10, y11, none, none] ∧ Same H H2 ∧ H2 D = some (.lst ws) ∧ Ties H2 ws (putL (ts.take i) is pl m))
        ⟨ws, none, none, none, none, rfl, sm, eD, by unfold putL; rw [List.take_zero, List.flatMap_nil, List.append_nil]; exact hR⟩ ?_ ?_ ?_
      · rintro i σ H2 _ ⟨_, _, _, _, _, _, s2, _⟩
        exact SqT.of (s2 _ _ eq)
      · rintro i x σ H2 hx ⟨ws, y8, y9, y10, y11, rfl, s2, eD2, hP⟩
        obtain ⟨t, et, ht⟩ := hT.at hx
        obtain ⟨pt, rfl, ept⟩ := ht.mono (Same.tst s2)
        have pl1 := put_len hpl hm (wok_take hW i) hO hnm
        have la := nb_len (pl := pl) hm t.1
        have lb := nb_len (pl := pl) hm t.2
        refine ⟨pt, _, rfl, SqT.of ept, rfl, _, _, rfl, _, _, rfl, rfl, ?_⟩
        refine ⟨_, rfl, _, rfl, _, rfl, t.1, pl, m, rfl, by omega, by omega, fun fa nfa => ?_⟩
        have s3 := same_new (o := .lst ((nb pl m t.1).map V.int)) nfa
        refine ⟨_, rfl, _, rfl, _, rfl, t.2, pl, m, rfl, by omega, by omega, fun fb nfb => ?_⟩
        have s4 := same_new (o := .lst ((nb pl m t.2).map V.int)) nfb
        have efa := s4 _ _ (upd_same (H := H2) (a := fa) (o := .lst ((nb pl m t.1).map V.int)))
        have efb := upd_same (H := upd H2 fa (.lst ((nb pl m t.1).map V.int))) (a := fb) (o := .lst ((nb pl m t.2).map V.int))
        have s24 := s3.trans s4
        generalize upd (upd H2 fa (.lst ((nb pl m t.1).map V.int))) fb (.lst ((nb pl m t.2).map V.int)) = H4 at s4 efa efb s24 ⊢
        have eD4 := s24 _ _ eD2
        refine ⟨_, rfl, .inl ⟨rfl, _, SqL.of eD4⟩, _, rfl, fa, rfl, ⟨_, SqL.of efa⟩, fun E nE => ?_⟩
        refine wk (walk_list (K := K) (a := fa) (xs := (nb pl m t.1).map V.int)) (fun i H5 => ∃ vs, Same H4 H5 ∧ H5 E = some (.lst vs) ∧ Ties H5 vs (prd ((nb pl m t.1).take i) (nb pl m t.2))) ⟨[], same_new nE, upd_same, by exact trivial⟩ ?_ ?_ ?_
        · rintro i H5 _ ⟨_, s5, _⟩
          exact SqL.of (s5 _ _ efa)
        · rintro i x H5 H6 hi ⟨vs, s5, eE, hV⟩ ⟨rfl, hx⟩
          rw [List.length_map] at hi
          rw [List.getElem?_map, List.getElem?_eq_getElem hi] at hx
          cases hx
          refine ⟨rfl, yes ⟨_, rfl, fb, rfl, ⟨_, SqL.of (s5 _ _ efb)⟩, ?_⟩⟩
          refine wk (walk_list (K := K) (a := fb) (xs := (nb pl m t.2).map V.int)) (fun j H6 => ∃ vs, Same H4 H6 ∧ H6 E = some (.lst vs) ∧ Ties H6 vs (prd ((nb pl m t.1).take i) (nb pl m t.2) ++ ((nb pl m t.2).take j).map fun y => ((nb pl m t.1)[i], y))) ⟨vs, s5, eE, by exact (List.append_nil (prd ((nb pl m t.1).take i) (nb pl m t.2))).symm ▸ hV⟩ ?_ ?_ ?_
          · rintro j H6 _ ⟨_, s6, _⟩
            exact SqL.of (s6 _ _ efb)
          · rintro j x H6 H7 hj ⟨vs, s6, eE6, hV6⟩ ⟨rfl, hx⟩
            rw [List.length_map] at hj
            rw [List.getElem?_map, List.getElem?_eq_getElem hj] at hx
            cases hx
            have vl := hV6.len
            rw [List.length_append, prd_len, List.length_map, List.length_take, List.length_take] at vl
            have bound : min i (nb pl m t.1).length * (nb pl m t.2).length ≤ 100 * 100 := Nat.mul_le_mul (by omega) (by omega)
            refine ⟨rfl, yes ?_⟩
            refine ⟨_, rfl, _, rfl, by show 2 ≤ sizeLine; decide, fun k nk => ?_⟩
            have sk := same_new (o := .tup [.int (nb pl m t.1)[i], .int (nb pl m t.2)[j]]) nk
            have e3 := sk _ _ eE6
            refine ⟨vs, e3, sz' (by omega), vs ++ [.ref k], Same.put (s6.trans sk) nE, upd_same, ?_⟩
            rw [List.take_add_one, List.getElem?_eq_getElem hj, List.map_append, ← List.append_assoc]
            exact Ties.mono (tst_put e3) ((hV6.mono (Same.tst sk)).app (Ties.one Tie.new))
          · rintro H6 ⟨vs, s6, eE6, hV6⟩
            rw [List.length_map, List.take_length] at hV6
            refine ⟨vs, s6, eE6, ?_⟩
            rw [List.take_add_one, List.getElem?_eq_getElem hi]
            exact (prd_step _ _ _).symm ▸ hV6
        · rintro H5 ⟨vs, s5, eE, hV⟩
          rw [List.length_map, List.take_length] at hV
          have eD5 := s5 _ _ eD4
          have vl := hV.len
          rw [prd_len] at vl
          have bound : (nb pl m t.1).length * (nb pl m t.2).length ≤ 100 * 100 := Nat.mul_le_mul (by omega) (by omega)
          have s25 := s24.trans s5
          refine ⟨D, E, ws, vs, rfl, rfl, eD5, eE, sz (by rw [hP.len]; omega), ?_⟩
          refine ⟨ws ++ vs, _, _, _, _, rfl, Same.put (s2.trans s25) nD, upd_same, ?_⟩
          rw [List.take_add_one, et]
          exact (putL_step (ts.take i) is t pl m).symm ▸ Ties.mono (tst_put eD5) ((hP.mono (Same.tst s25)).app hV)
      · rintro σ H2 ⟨ws, y8, y9, y10, y11, rfl, s2, eD2, hP⟩
        rw [hT.len, List.take_length] at hP
        refine ⟨_, rfl, _, rfl, _, _, rfl, rfl, _, _, rfl, rfl, ?_⟩
        refine ⟨_, rfl, D, ws, My.key H2, rfl, SqL.of eD2, hP.all, fun ys y hs hst np => ?_⟩
        obtain ⟨rs, hT', pm', pw⟩ := srt_ties hs hst.perm hP
        refine ⟨y, ys, rfl, .inl ⟨SqL.of upd_same, fun t nt => ?_⟩⟩
        refine ⟨by show 2 ≤ sizeLine; decide, fun u nu => ?_⟩
        have en : (n : Int) + (m : Int) - 1 = ((n + m - 1 : Nat) : Int) := by omega
        have s9 := ((same_new (H := H2) (o := .lst ys) np).trans (same_new (o := .tup ys) nt)).trans (same_new (o := .tup [.int ((n : Int) + (m : Int) - 1), .ref t]) nu)
        have mm : ∀ t, t ∈ rs ↔ PutM n m pl ts is t := fun t => pm'.mem_iff.trans (mem_put hpl hm hW hO)
        refine q _ _ rs (s2.trans s9) ⟨u, t, ys, rfl, ?_, ?_, hT'.mono (Same.tst s9)⟩ ⟨pw_lt pw (pm'.nodup_iff.mpr (put_nd hpl hm hW hO)), fun t ht => ?_⟩ mm
        · rw [upd_same]; exact congrArg (fun z => some (HO.tup [V.int z, V.ref t])) en
        · rw [upd_ne (ne_of_none upd_same nu)]; exact upd_same
        · have z := (mm t).mp ht
          exact ⟨z.1, z.2.1, by have := z.2.2.1; omega⟩
end
end My

set_option Elab.async false
set_option linter.all false
set_option maxRecDepth 100000
namespace My
open PySem PySem.Spec PyProof.Rows L2 GxR
/-! ### the law's own putting -/
def innO (pl m x : Int) : Int := if pl ≤ x ∧ x < pl + m then x - pl else 0
def pairO (pl m : Nat) (x : Int) : Int × Int := (oldO pl m x, innO pl m x)
def oldR (pl m p : Nat) : List (Int × Int) := (up (if p = pl then m else 1)).map fun k => ((p : Int), k)
def oldB (pl m i : Nat) : List (Int × Int) := (List.range i).flatMap (oldR pl m)
theorem oldB_succ (pl m i : Nat) : oldB pl m (i + 1) = oldB pl m i ++ oldR pl m i := by
  unfold oldB; rw [List.range_succ, List.flatMap_append, List.flatMap_singleton]
theorem up_add (a b : Nat) : up (a + b) = up a ++ (up b).map fun x => (a : Int) + x := by
  unfold up
  rw [List.range_add, List.map_append, List.map_map, List.map_map]
  congr 1
theorem oldB_eq {pl m : Nat} (hm : 0 < m) : ∀ i, oldB pl m i = (up (if i ≤ pl then i else i + m - 1)).map (pairO pl m)
  | 0 => by rw [if_pos (Nat.zero_le _)]; rfl
  | i + 1 => by
    rw [oldB_succ, oldB_eq hm i]
    unfold oldR
    by_cases h : i + 1 ≤ pl
    · rw [if_pos h, if_pos (by omega), if_neg (by omega), up_succ i, List.map_append]
      congr 1
      show [((i : Int), (0 : Int))] = [pairO pl m i]
      unfold pairO innO
      rw [oldO_lo (by omega), if_neg (by omega)]
    · by_cases e : i = pl
      · subst e
        rw [if_pos (Nat.le_refl _), if_pos rfl, if_neg h, show i + 1 + m - 1 = i + m by omega, up_add, List.map_append, List.map_map]
        congr 1
        refine List.map_congr_left fun x hx => ?_
        have := mem_up.mp hx
        show ((i : Int), x) = pairO i m ((i : Int) + x)
        unfold pairO innO
        rw [oldO_in (by omega) (by omega), if_pos (by omega)]
        exact Prod.ext rfl (by dsimp only; omega)
      · rw [if_neg (by omega), if_neg e, if_neg h, show i + 1 + m - 1 = (i + m - 1) + 1 by omega, up_succ (i + m - 1), List.map_append]
        congr 1
        show [((i : Int), (0 : Int))] = [pairO pl m ((i + m - 1 : Nat) : Int)]
        unfold pairO innO
        rw [oldO_hi (by omega) (by omega), if_neg (by omega)]
        refine congrArg (fun z => [z]) (Prod.ext ?_ rfl)
        dsimp only; omega
theorem oldB_all {n pl m : Nat} (hm : 0 < m) (hp : pl < n) : oldB pl m n = (up (n + m - 1)).map (pairO pl m) := by
  rw [oldB_eq hm, if_neg (by omega)]
def fPut (pl m : Nat) (ts is : List (Int × Int)) (x y : Int) : Bool := (decide (oldO pl m x = oldO pl m y) && nr is (innO pl m x) (innO pl m y)) || nr ts (oldO pl m x) (oldO pl m y)
theorem upD {n k : Nat} (h : k < n) : (up n).getD k 0 = (k : Int) := by
  rw [List.getD_eq_getElem?_getD, up_get h]; rfl
theorem acc_put {n m pl : Nat} {ts is : List (Int × Int)} (hp : pl < n) (hm : 0 < m) (hw : WOk n ts) (hi : WOk m is) (t : Int × Int) : t ∈ accJ (fPut pl m ts is) (up (n + m - 1)) (n + m - 1) ↔ PutM n m pl ts is t := by
  rw [mem_accJ]
  have key : ∀ x y : Int, 0 ≤ x → x < y → y < (n : Int) + m - 1 → (fPut pl m ts is x y = true ↔ ((oldO pl m x = pl ∧ oldO pl m y = pl ∧ (x - pl, y - pl) ∈ is) ∨ (oldO pl m x, oldO pl m y) ∈ ts)) := by
    intro x y x0 xy yn
    have c1 := oldO_cases (pl := pl) (m := m) (x := x) (by omega)
    have c2 := oldO_cases (pl := pl) (m := m) (x := y) (by omega)
    unfold fPut nr
    rw [Bool.or_eq_true, Bool.and_eq_true, decide_eq_true_eq, decide_eq_true_eq, decide_eq_true_eq]
    constructor
    · rintro (⟨e, h⟩ | h)
      · have i1 : innO pl m x = x - pl := if_pos (by omega)
        have i2 : innO pl m y = y - pl := if_pos (by omega)
        rw [i1, i2] at h
        refine .inl ⟨by omega, by omega, ?_⟩
        rcases h with h | h
        · exact h
        · have := hi.2 _ h; dsimp only at this; omega
      · rcases h with h | h
        · exact .inr h
        · have := hw.2 _ h; dsimp only at this; omega
    · rintro (⟨e1, e2, h⟩ | h)
      · have b := hi.2 _ h
        dsimp only at b
        have i1 : innO pl m x = x - pl := if_pos (by omega)
        have i2 : innO pl m y = y - pl := if_pos (by omega)
        exact .inl ⟨by omega, .inl (by rw [i1, i2]; exact h)⟩
      · exact .inr (.inl h)
  constructor
  · rintro ⟨j, k, hj, hk, h, rfl⟩
    rw [upD (by omega), upD hj] at h
    have z := (key _ _ (by omega) (by omega) (by omega)).mp h
    exact ⟨by dsimp only; omega, by dsimp only; omega, by dsimp only; omega, z⟩
  · rintro ⟨h0, h1, h2, h⟩
    refine ⟨t.2.toNat, t.1.toNat, by omega, by omega, ?_, Prod.ext (by dsimp only; omega) (by dsimp only; omega)⟩
    rw [upD (by omega), upD (by omega), Int.toNat_of_nonneg h0, Int.toNat_of_nonneg (by omega)]
    exact (key _ _ h0 h1 h2).mpr h

section
variable {P : Program} {w : World} {K : PySem.W.Frag} {mg : Str → Option Value} {base : Heap}
/-! ### _law_one_at_least -/
abbrev s__law_one_at_least : Stmt := topS 23
abbrev N__law_one_at_least : List Str := ["_law_left_here", "_law_most", "_law_web_here"]
theorem sc__law_one_at_least : FnScope N__law_one_at_least ["_law_left_here", "_law_most"] (defScope s__law_one_at_least) := ⟨rfl, rfl, rfl, by decide +kernel, rfl, by decide +kernel, by decide +kernel⟩
def sp_one : Sp := fun vs H Q _ => ∃ (L : Addr) (c : Int), vs = [.ref L, .int 12] ∧ Lf H L c ∧ c < 2 ^ 47 ∧
  ∀ (v : V) (H' : Hp) (n : Nat) (ts : List (Int × Int)), n ≤ 12 → 0 < n → Fr L H H' → Lf H' L (c + 200000) → Web H' v n ts → WOk n ts → Q v H'
theorem ok_one {f : Addr} {fd : FuncData} (B : Bts mg) (F : Fun K "_law_one_at_least" "_law_one_at_least" s__law_one_at_least f fd) (c__law_web : Cl P w K mg base 5 "_law_web" sp_web) :
    FnOk P w K mg base CX0 6 f fd ["_law_left_here", "_law_most"] sp_one := by
  refine F.ok sc__law_one_at_least (fun vs H Q E h => ?_) (fun cdv A outer s H vs Q E hr h => ?_)
  · obtain ⟨L, c, rfl, _⟩ := h; rfl
  · obtain ⟨L, c, rfl, hL, hc, q⟩ := h
    refine ⟨_, (pss_cons (ps_set (i := 2) sc__law_one_at_least.nd rfl (by first | exact Or.inl rfl | exact Or.inr rfl) (pe_c c__law_web hr (by decide) (by rfl) (pa_cons (pv 0) (pa_cons (pv 1) pa_nil))))
    (pss_one (ps_ret (pe_ifExp (pt_cmpR op_gt (pe_ix ix_tup (pv 2) pe_int (fun _ _ => rfl)) pe_int (nomark _)) (pv 2) (pe_tup (pa_cons pe_int (pa_cons (pe_tup pa_nil) pa_nil))))))), ?_⟩
    refine ⟨_, rfl, _, rfl, L, 12, c, rfl, hL, by omega, hc, fun v H1 n ts hn fr lf hWeb hW => ?_⟩
    obtain ⟨pw, qw, us, rfl, ew, eqw, hT⟩ := id hWeb
    refine ⟨_, rfl, pw, _, _, _, rfl, rfl, SqT.of ew, rfl, _, _, rfl, rfl, _, rfl, ite2 (fun e => ?_) (fun e => ?_)⟩
    · have := of_decide_eq_true e
      exact ⟨_, rfl, q _ _ n ts hn (by omega) fr lf hWeb hW⟩
    · refine ⟨Nat.zero_le _, fun t nt => ⟨by show 2 ≤ sizeLine; decide, fun u nu => ?_⟩⟩
      refine q _ _ 1 [] (by omega) (by omega) (fr.trans ((Fr.new nt).trans (Fr.new nu))) ((lf.new nt).new nu) ⟨u, t, [], rfl, upd_same, ?_, trivial⟩ ⟨List.Pairwise.nil, fun _ h => by cases h⟩
      rw [upd_ne (ne_of_none upd_same nu)]; exact upd_same

/-! ### _law_put -/
abbrev s__law_put : Stmt := topS 24
abbrev N__law_put : List Str := ["_law_web_here", "_law_place", "_law_other", "_law_old", "_law_p", "_law_k", "_law_near_here", "_law_within", "_law_ties", "_law_j", "_law_b", "_law_inner", "_law_a", "_law_outer"]
theorem sc__law_put : FnScope N__law_put ["_law_web_here", "_law_place", "_law_other"] (defScope s__law_put) := ⟨rfl, rfl, rfl, by decide +kernel, rfl, by decide +kernel, by decide +kernel⟩
theorem ok_lput {f : Addr} {fd : FuncData} (B : Bts mg) (F : Fun K "_law_put" "_law_put" s__law_put f fd) (c__law_near : Cl P w K mg base 1 "_law_near" sp_near) : FnOk P w K mg base CX0 2 f fd ["_law_web_here", "_law_place", "_law_other"] sp_put := by
  refine F.ok sc__law_put (fun vs H Q E h => ?_) (fun cdv A outer s H vs Q E hr h => ?_)
  · obtain ⟨v, o, n, m, pl, ts, is, rfl, _⟩ := h; rfl
  · obtain ⟨v, o, n, m, pl, ts, is, rfl, hWeb, hOth, hW, hO, hpl, hm, hnm, q⟩ := h
    obtain ⟨p, q', us, rfl, ep, eq, hT⟩ := id hWeb
    obtain ⟨po, qo, is', rfl, epo, eqo, hI⟩ := id hOth
    refine ⟨_, (pss_cons (ps_set (i := 3) sc__law_put.nd rfl (by first | exact Or.inl rfl | exact Or.inr rfl) (pe_lst pa_nil))
    (pss_cons (ps_for PassesOwn.never rfl (pi_range1 (by rfl) B.range (pa_cons (pe_ix ix_tup (pv 0) pe_int (fun _ _ => rfl)) pa_nil)) (pg_name (i := 4) sc__law_put.nd rfl (by first | exact Or.inl rfl | exact Or.inr rfl))
      (pss_one (ps_expr (pe_bm PySem.F.plainAttrs_list PySem.F.slot_list_extend PySem.F.type_list_extend mt_extend (pv 3) (pa_cons (pe_lc (own := [("_law_k", 5)]) (g := (gName 5)) (tt := tYes) rfl sc__law_put.nd (pi_range1 (by rfl) B.range (pa_cons (pe_ix ix_list (pe_lst (pa_cons pe_int (pa_cons (pe_ix ix_tup (pv 2) pe_int (fun _ _ => rfl)) pa_nil))) (pe_callTy call_int1 (by rfl) B.int (by decide +kernel) (pa_cons (pe_cmpR op_eq (pv 4) (pv 1) (nomark _)) pa_nil)) (fun _ _ => rfl)) pa_nil)) (blkOk_by (own := [("_law_k", 5)]) (N := N__law_put) (sc := defScope s__law_put) (by decide +kernel)) (fun _ _ _ _ _ => (pg_name (i := 5) sc__law_put.nd rfl (by first | exact Or.inl rfl | exact Or.inr rfl))) (fun _ _ _ _ _ => pts_nil) (fun _ _ _ _ _ => (pe_tup (pa_cons (pv 4) (pa_cons (pv 5) pa_nil))))) pa_nil)))))
    (pss_cons (ps_par (i := 6) (j := 7) rfl sc__law_put.nd rfl rfl (by decide) rfl rfl (pa_cons (pe_c c__law_near hr (by decide) (by rfl) (pa_cons (pv 0) pa_nil)) (pa_cons (pe_c c__law_near hr (by decide) (by rfl) (pa_cons (pv 2) pa_nil)) pa_nil)) (by rfl))
    (pss_cons (ps_set (i := 8) sc__law_put.nd rfl (by first | exact Or.inl rfl | exact Or.inr rfl) (pe_lst pa_nil))
    (pss_cons (ps_for PassesOwn.never rfl (pi_enum (by rfl) B.enumerate (pa_cons (pv 3) pa_nil)) (pg_tup rfl (pgs_cons (pg_name (i := 9) sc__law_put.nd rfl (by first | exact Or.inl rfl | exact Or.inr rfl)) (pgs_cons (pg_tup rfl (pgs_cons (pg_name (i := 10) sc__law_put.nd rfl (by first | exact Or.inl rfl | exact Or.inr rfl)) (pgs_cons (pg_name (i := 11) sc__law_put.nd rfl (by first | exact Or.inl rfl | exact Or.inr rfl)) pgs_nil))) pgs_nil)))
      (pss_one (ps_for PassesOwn.never rfl (pi_enum (by rfl) B.enumerate (pa_cons (pe_slice sl_list (pv 3) po_none (po_some (pv 9))) pa_nil)) (pg_tup rfl (pgs_cons (pg_name (i := 5) sc__law_put.nd rfl (by first | exact Or.inl rfl | exact Or.inr rfl)) (pgs_cons (pg_tup rfl (pgs_cons (pg_name (i := 12) sc__law_put.nd rfl (by first | exact Or.inl rfl | exact Or.inr rfl)) (pgs_cons (pg_name (i := 13) sc__law_put.nd rfl (by first | exact Or.inl rfl | exact Or.inr rfl)) pgs_nil))) pgs_nil)))
        (pss_one (ps_if (PW.pt (pw_or (PW.pt (pw_and (pt_cmpR op_eq (pv 12) (pv 10) (nomark _)) (pw_and1 (pt_cmp (pc_din (hu_of hr) (pe_tup (pa_cons (pv 13) (pa_cons (pv 11) pa_nil))) (pv 7)))))) (pw_or1 (pt_cmp (pc_din (hu_of hr) (pe_tup (pa_cons (pv 12) (pa_cons (pv 10) pa_nil))) (pv 6)))))) (pss_one (ps_expr (pe_bm PySem.F.plainAttrs_list PySem.F.slot_list_append PySem.F.type_list_append mt_append (pv 8) (pa_cons (pe_tup (pa_cons (pv 5) (pa_cons (pv 9) pa_nil))) pa_nil)))) pss_nil)))))
    (pss_one (ps_ret (pe_tup (pa_cons (pe_callB call_len_seq (by rfl) B.len (by decide +kernel) (pa_cons (pv 3) pa_nil)) (pa_cons (pe_callTy call_tuple_of (by rfl) B.tuple (by decide +kernel) (pa_cons (pe_callB cr_sortedPO (by rfl) B.sorted (by decide +kernel) (pa_cons (pv 8) pa_nil)) pa_nil)) pa_nil)))))))))), ?_⟩
    have tl := wok_len hW (by omega)
    have il := wok_len hO (by omega)
    have en : ((n : Int)).toNat = n := Int.toNat_natCast n
    refine ⟨Nat.zero_le _, fun O nO => ?_⟩
    have s0 := same_new (o := .lst []) nO
    refine ⟨_, rfl, p, _, _, _, rfl, rfl, SqT.of (s0 _ _ ep), rfl, _, rfl, by omega, by omega, ?_⟩
    have bl : ∀ i, i ≤ n → (oldB pl m i).length ≤ 200 := fun i hi => by
      rw [oldB_eq hm, List.length_map, up_len]
      split <;> omega
    refine for_range (fun i σ H1 => ∃ ws y4 y5 y6 y7 y8 y9 y10 y11 y12 y13, σ = [some (.ref p), some (.int (pl : Int)), some (.ref po), some (.ref O), y4, y5, y6, y7, y8, y9, y10, y11, y12, y13] ∧ Same H H1 ∧ H1 O = some (.lst ws) ∧ Ties H1 ws (oldB pl m i))
      ⟨[], none, none, none, none, none, none, none, none, none, none, rfl, s0, upd_same, by exact trivial⟩ ?_ ?_
    · rintro i σ H1 hi ⟨ws, y4, y5, y6, y7, y8, y9, y10, y11, y12, y13, rfl, s1, eO, hB⟩
      rw [en] at hi
      rw [Int.zero_add (i : Int)]
      refine ⟨_, rfl, .inl ⟨rfl, _, SqL.of eO⟩, ?_⟩
      -- [1, other[0]][int(p == place)]
      refine ⟨_, rfl, po, _, _, _, rfl, rfl, SqT.of (s1 _ _ epo), rfl, by show 2 ≤ sizeLine; decide, fun l nl => ?_⟩
      have s2 := same_new (o := .lst [.int 1, .int (m : Int)]) nl
      refine ⟨_, rfl, _, rfl, rfl, .inr ⟨_, rfl, ?_⟩⟩
      have ei : (decide (V.int (i : Int) = V.int (pl : Int))) = decide (i = pl) := decide_eq_decide.mpr ⟨fun e => by have := V.int.inj e; omega, fun e => by rw [e]⟩
      rw [ei]
      have at0 : atI [V.int 1, V.int (m : Int)] (if decide (i = pl) = true then 1 else 0) = some (.int ((if i = pl then m else 1 : Nat) : Int)) := by
        by_cases e : i = pl
        · rw [decide_eq_true e, if_pos rfl, if_pos e]; rfl
        · rw [decide_eq_false e, if_neg e]; rfl
      refine ⟨l, _, _, _, rfl, rfl, SqL.of upd_same, at0, ?_⟩
      have mb : (if i = pl then m else 1) ≤ 100 := by split <;> omega
      refine ⟨_, rfl, by omega, by omega, fun D nD => ?_⟩
      refine wk (walk_range (lo := 0)) (fun j H3 => ∃ vs, Same H1 H3 ∧ H3 D = some (.lst vs) ∧ Ties H3 vs ((up j).map fun k => ((i : Int), k))) ⟨[], s2.trans (same_new nD), upd_same, by exact trivial⟩ (fun _ _ _ _ => trivial) ?_ ?_
      · rintro j x H3 H4 hj ⟨vs, s3, eD, hV⟩ ⟨rfl, hx⟩
        obtain rfl : x = .int (j : Int) := hx.trans (congrArg V.int (Int.zero_add _))
        rw [Int.toNat_natCast] at hj
        have vl := hV.len
        rw [List.length_map, up_len] at vl
        have nD1 : H1 D = none := by
          cases z : H1 D with
          | none => rfl
          | some o => rw [s2 _ _ z] at nD; cases nD
        refine ⟨rfl, yes ?_⟩
        refine ⟨_, rfl, _, rfl, by show 2 ≤ sizeLine; decide, fun k nk => ?_⟩
        have sk := same_new (o := .tup [.int (i : Int), .int (j : Int)]) nk
        have e3 := sk _ _ eD
        refine ⟨vs, e3, sz' (by omega), vs ++ [.ref k], Same.put (s3.trans sk) nD1, upd_same, ?_⟩
        rw [up_succ, List.map_append]
        exact Ties.mono (tst_put e3) ((hV.mono (Same.tst sk)).app (Ties.one Tie.new))
      · rintro H3 ⟨vs, s3, eD, hV⟩
        rw [Int.toNat_natCast] at hV
        have eO3 := s3 _ _ eO
        have vl := hV.len
        rw [List.length_map, up_len] at vl
        have wl := bl i (by omega)
        refine ⟨O, D, ws, vs, rfl, rfl, eO3, eD, sz (by rw [hB.len]; omega), ?_⟩
        refine ⟨ws ++ vs, _, _, _, _, _, _, _, _, _, _, rfl, Same.put (s1.trans s3) nO, upd_same, ?_⟩
        rw [oldB_succ]
        exact Ties.mono (tst_put eO3) ((hB.mono (Same.tst s3)).app hV)
    · rintro σ H1 ⟨ws, y4, y5, y6, y7, y8, y9, y10, y11, y12, y13, rfl, s1, eO, hB⟩
      rw [en, oldB_all hm hpl] at hB
      have wl := hB.len
      rw [List.length_map, up_len] at wl
      -- near_here, within
      refine ⟨_, rfl, .ref p, n, ts, rfl, hWeb.mono (Same.tst s1), tl, fun Dn kn H2 nDn s2 eDn hN => ?_⟩
      refine ⟨_, rfl, .ref po, m, is, rfl, hOth.mono (Same.tst (s1.trans s2)), il, fun Dw kw H3 nDw s3 eDw hNw => ?_⟩
      refine ⟨_, _, rfl, ?_⟩
      have s13 := s2.trans s3
      have eO4 := s13 _ _ eO
      have hB4 := hB.mono (Same.tst s13)
      have eDn4 := s3 _ _ eDn
      have eDw4 := eDw
      have s4 := s1.trans s13
      generalize H3 = H4 at eO4 hB4 eDn4 eDw4 s4 ⊢
      refine ⟨Nat.zero_le _, fun R nR => ?_⟩
      refine ⟨_, rfl, O, _, rfl, SqL.of ((same_new nR) _ _ eO4), ?_⟩
      refine for_it (walk_enum (K := K) (a := O) (xs := ws)) (fun j σ H5 => ∃ vs y4 y5 y9 y10 y11 y12 y13, σ = [some (.ref p), some (.int (pl : Int)), some (.ref po), some (.ref O), y4, y5, some (.ref Dn), some (.ref Dw), some (.ref R), y9, y10, y11, y12, y13] ∧ Same H4 H5 ∧ H5 R = some (.lst vs) ∧ Ties H5 vs (accJ (fPut pl m ts is) (up (n + m - 1)) j))
        ⟨[], _, _, _, _, _, _, _, rfl, same_new nR, upd_same, by exact trivial⟩ ?_ ?_ ?_
      · rintro j σ H5 _ ⟨_, _, _, _, _, _, _, _, _, s5, _⟩
        exact SqL.of (s5 _ _ eO4)
      · rintro j x σ H5 H5' hj ⟨vs, y4, y5, y9, y10, y11, y12, y13, rfl, s5, eR, hA⟩ ⟨T1, x1, x2, rfl, nT1, rfl, ex1, ex2⟩
        dsimp only at ex1 ex2
        cases ex1
        obtain ⟨tj, etj, htj⟩ := hB4.at ex2
        have ejt : tj = pairO pl m j := by
          rw [List.getElem?_map, up_get (by omega)] at etj
          exact (Option.some.inj etj).symm
        subst ejt
        have sT1 := same_new (o := .tup [.int (j : Int), x2]) nT1
        obtain ⟨pj, rfl, epj⟩ := htj.mono (Same.tst (s5.trans sT1))
        refine ⟨T1, _, rfl, SqT.of upd_same, rfl, _, _, rfl, _, _, rfl, ⟨pj, _, rfl, SqT.of epj, rfl, _, _, rfl, _, _, rfl, rfl, rfl, ?_⟩⟩
        have s6 := s5.trans sT1
        refine ⟨_, rfl, _, rfl, _, rfl, O, _, rfl, SqL.of (s6 _ _ eO4), fun sl nsl => ?_⟩
        rw [cutTo]
        have s7 := same_new (o := .lst (ws.take j)) nsl
        have s67 := s6.trans s7
        have s57 := sT1.trans s7
        refine ⟨sl, _, rfl, SqL.of upd_same, ?_⟩
        have lj : (ws.take j).length = j := by rw [List.length_take]; omega
        refine for_it (walk_enum (K := K) (a := sl) (xs := ws.take j)) (fun k σ H8 => ∃ vs y4 y5 y12 y13, σ = [some (.ref p), some (.int (pl : Int)), some (.ref po), some (.ref O), y4, y5, some (.ref Dn), some (.ref Dw), some (.ref R), some (.int (j : Int)), some (.int (pairO pl m j).1), some (.int (pairO pl m j).2), y12, y13] ∧ Same H4 H8 ∧ H8 sl = some (.lst (ws.take j)) ∧ H8 R = some (.lst vs) ∧ Ties H8 vs (accJ (fPut pl m ts is) (up (n + m - 1)) j ++ rowJ (fPut pl m ts is) (up (n + m - 1)) j k))
          ⟨vs, _, _, _, _, rfl, s67, upd_same, s57 _ _ eR, by exact (List.append_nil (accJ (fPut pl m ts is) (up (n + m - 1)) j)).symm ▸ hA.mono (Same.tst s57)⟩ ?_ ?_ ?_
        · rintro k σ H8 _ ⟨_, _, _, _, _, _, _, esl, _⟩
          exact SqL.of esl
        · rintro k x σ H8 H8' hk ⟨vs, y4, y5, y12, y13, rfl, s8, esl, eR8, hA8⟩ ⟨T2, z1, z2, rfl, nT2, rfl, ez1, ez2⟩
          rw [lj] at hk
          dsimp only at ez1 ez2
          cases ez1
          rw [List.getElem?_take_of_lt hk] at ez2
          obtain ⟨tk, etk, htk⟩ := hB4.at ez2
          have ekt : tk = pairO pl m k := by
            rw [List.getElem?_map, up_get (by omega)] at etk
            exact (Option.some.inj etk).symm
          subst ekt
          have sT2 := same_new (o := .tup [.int (k : Int), z2]) nT2
          obtain ⟨pk, rfl, epk⟩ := htk.mono (Same.tst (s8.trans sT2))
          have s9 := s8.trans sT2
          have esl9 := sT2 _ _ esl
          have eR9 := sT2 _ _ eR8
          have hA9 := hA8.mono (Same.tst sT2)
          have al := hA8.len
          have l1 := accJ_len (fPut pl m ts is) (up (n + m - 1)) j (by omega)
          have l2 := rowJ_len (fPut pl m ts is) (up (n + m - 1)) j k
          rw [List.length_append] at al
          have lv : vs.length < 100000 := by omega
          generalize hH9 : upd H8 T2 (.tup [.int (k : Int), .ref pk]) = H9 at s9 esl9 eR9 hA9 epk ⊢
          have eT2 : H9 T2 = some (.tup [.int (k : Int), .ref pk]) := by rw [← hH9]; exact upd_same
          have step : rowJ (fPut pl m ts is) (up (n + m - 1)) j (k + 1) = rowJ (fPut pl m ts is) (up (n + m - 1)) j k ++ (if fPut pl m ts is k j = true then [((k : Int), (j : Int))] else []) := by
            rw [rowJ_succ, upD (by omega), upD (by omega)]
          have nsl9 : ∀ {b : Addr}, H9 b = none → b ≠ sl := fun e z => by rw [z, esl9] at e; cases e
          have fin1 : ∀ H10, Same H9 H10 → fPut pl m ts is k j = false → Same H4 H10 ∧ H10 sl = some (.lst (ws.take j)) ∧ H10 R = some (.lst vs) ∧ Ties H10 vs (accJ (fPut pl m ts is) (up (n + m - 1)) j ++ rowJ (fPut pl m ts is) (up (n + m - 1)) j (k + 1)) := fun H10 s10 e => by
            refine ⟨s9.trans s10, s10 _ _ esl9, s10 _ _ eR9, ?_⟩
            rw [step, e]
            show Ties H10 vs (_ ++ (_ ++ []))
            rw [List.append_nil]
            exact hA9.mono (Same.tst s10)
          have fin2 : ∀ H10 t, Same H9 H10 → H10 t = none → fPut pl m ts is k j = true → (upd H10 t (.tup [.int (k : Int), .int (j : Int)])) R = some (.lst vs) ∧ Same H4 (upd (upd H10 t (.tup [.int (k : Int), .int (j : Int)])) R (.lst (vs ++ [.ref t]))) ∧ (upd (upd H10 t (.tup [.int (k : Int), .int (j : Int)])) R (.lst (vs ++ [.ref t]))) sl = some (.lst (ws.take j)) ∧ Ties (upd (upd H10 t (.tup [.int (k : Int), .int (j : Int)])) R (.lst (vs ++ [.ref t]))) (vs ++ [.ref t]) (accJ (fPut pl m ts is) (up (n + m - 1)) j ++ rowJ (fPut pl m ts is) (up (n + m - 1)) j (k + 1)) := fun H10 t s10 nt e => by
            have st := same_new (o := .tup [.int (k : Int), .int (j : Int)]) nt
            have eR11 := st _ _ (s10 _ _ eR9)
            have nRsl : sl ≠ R := fun z => by
              rw [z, sT1 _ _ eR] at nsl
              cases nsl
            refine ⟨eR11, Same.put ((s9.trans s10).trans st) nR, ?_, ?_⟩
            · rw [upd_ne nRsl]; exact st _ _ (s10 _ _ esl9)
            · rw [step, if_pos e, ← List.append_assoc]
              exact Ties.mono (tst_put eR11) ((hA9.mono (Same.tst (s10.trans st))).app (Ties.one Tie.new))
          refine ⟨T2, _, rfl, SqT.of eT2, rfl, _, _, rfl, _, _, rfl, ⟨pk, _, rfl, SqT.of epk, rfl, _, _, rfl, _, _, rfl, rfl, rfl, ?_⟩⟩
          have eDw9 := s9 _ _ eDw4
          have eDn9 := s9 _ _ eDn4
          have fv : fPut pl m ts is k j = ((decide (oldO pl m k = oldO pl m j) && nr is (innO pl m k) (innO pl m j)) || nr ts (oldO pl m k) (oldO pl m j)) := rfl
          have ei : decide (V.int (pairO pl m k).1 = V.int (pairO pl m j).1) = decide (oldO pl m k = oldO pl m j) := decide_eq_decide.mpr ⟨fun e => V.int.inj e, fun e => congrArg V.int e⟩
          refine ⟨_, rfl, _, rfl, rfl, _, rfl, ?_⟩
          rw [ei]
          by_cases e : oldO pl m k = oldO pl m j
          · rw [decide_eq_true e] at fv ⊢
            have nn : nr ts (oldO pl m k) (oldO pl m j) = false := decide_eq_false fun z => by
              rcases z with z | z <;> (have := hW.2 _ z; dsimp only at this; omega)
            refine iteT ⟨_, rfl, _, rfl, by show 2 ≤ sizeLine; decide, fun t1 nt1 => ?_⟩
            have st1 := same_new (o := .tup [.int (pairO pl m k).2, .int (pairO pl m j).2]) nt1
            refine ⟨_, rfl, Dw, _, rfl, DGet.t (k := [Sum.inl (pairO pl m k).2, Sum.inl (pairO pl m j).2]) (st1 _ _ eDw9) upd_same, _, rfl, ?_⟩
            rw [hNw]
            by_cases h1 : ((pairO pl m k).2, (pairO pl m j).2) ∈ is ∨ ((pairO pl m j).2, (pairO pl m k).2) ∈ is
            · have f1 : fPut pl m ts is k j = true := by
                rw [fv, show nr is (innO pl m k) (innO pl m j) = true from decide_eq_true h1]; rfl
              rw [decide_eq_true h1]
              refine iteT (iteT ⟨_, rfl, .inl ⟨rfl, _, SqL.of (st1 _ _ eR9)⟩, _, rfl, _, rfl, by show 2 ≤ sizeLine; decide, fun t nt => ?_⟩)
              obtain ⟨a1, a2, a3, a4⟩ := fin2 _ t st1 nt f1
              exact ⟨R, _, _, rfl, rfl, a1, sz' lv, vs ++ [.ref t], _, _, _, _, rfl, a2, a3, upd_same, a4⟩
            · have f1 : fPut pl m ts is k j = false := by
                rw [fv, show nr is (innO pl m k) (innO pl m j) = false from decide_eq_false h1, nn]; rfl
              rw [decide_eq_false h1]
              refine iteF ⟨_, rfl, _, rfl, by show 2 ≤ sizeLine; decide, fun t2 nt2 => ?_⟩
              have st2 := same_new (o := .tup [.int (pairO pl m k).1, .int (pairO pl m j).1]) nt2
              refine ⟨_, rfl, Dn, _, rfl, DGet.t (k := [Sum.inl (pairO pl m k).1, Sum.inl (pairO pl m j).1]) (st2 _ _ (st1 _ _ eDn9)) upd_same, _, rfl, ?_⟩
              rw [hN, show decide (((pairO pl m k).1, (pairO pl m j).1) ∈ ts ∨ ((pairO pl m j).1, (pairO pl m k).1) ∈ ts) = false from nn]
              obtain ⟨a2, a3, a1, a4⟩ := fin1 _ (st1.trans st2) f1
              exact iteF ⟨vs, _, _, _, _, rfl, a2, a3, a1, a4⟩
          · rw [decide_eq_false e] at fv ⊢
            refine iteF (iteF ⟨_, rfl, _, rfl, by show 2 ≤ sizeLine; decide, fun t2 nt2 => ?_⟩)
            have st2 := same_new (o := .tup [.int (pairO pl m k).1, .int (pairO pl m j).1]) nt2
            refine ⟨_, rfl, Dn, _, rfl, DGet.t (k := [Sum.inl (pairO pl m k).1, Sum.inl (pairO pl m j).1]) (st2 _ _ eDn9) upd_same, _, rfl, ?_⟩
            rw [hN]
            by_cases h1 : ((pairO pl m k).1, (pairO pl m j).1) ∈ ts ∨ ((pairO pl m j).1, (pairO pl m k).1) ∈ ts
            · have f1 : fPut pl m ts is k j = true := by
                rw [fv, show nr ts (oldO pl m k) (oldO pl m j) = true from decide_eq_true h1]; rfl
              rw [decide_eq_true h1]
              refine iteT ⟨_, rfl, .inl ⟨rfl, _, SqL.of (st2 _ _ eR9)⟩, _, rfl, _, rfl, by show 2 ≤ sizeLine; decide, fun t nt => ?_⟩
              obtain ⟨a1, a2, a3, a4⟩ := fin2 _ t st2 nt f1
              exact ⟨R, _, _, rfl, rfl, a1, sz' lv, vs ++ [.ref t], _, _, _, _, rfl, a2, a3, upd_same, a4⟩
            · have f1 : fPut pl m ts is k j = false := by
                rw [fv, show nr ts (oldO pl m k) (oldO pl m j) = false from decide_eq_false h1]; rfl
              rw [decide_eq_false h1]
              obtain ⟨a2, a3, a1, a4⟩ := fin1 _ st2 f1
              exact iteF ⟨vs, _, _, _, _, rfl, a2, a3, a1, a4⟩
        · rintro σ H8 ⟨vs, y4, y5, y12, y13, rfl, s8, esl, eR8, hA8⟩
          rw [lj, ← accJ_succ] at hA8
          exact ⟨vs, _, _, _, _, _, _, _, rfl, s8, eR8, hA8⟩
      · rintro σ H5 ⟨vs, y4, y5, y9, y10, y11, y12, y13, rfl, s5, eR, hA⟩
        rw [wl] at hA
        refine ⟨_, rfl, O, _, rfl, .inl (SqL.of (s5 _ _ eO4)), ?_⟩
        refine ⟨_, rfl, R, vs, My.key H5, rfl, SqL.of eR, hA.all, fun ys y hs hst np => ?_⟩
        obtain ⟨rs, hT', pm', pw⟩ := srt_ties hs hst.perm hA
        refine ⟨y, ys, rfl, .inl ⟨SqL.of upd_same, fun t nt => ?_⟩⟩
        refine ⟨by show 2 ≤ sizeLine; decide, fun u nu => ?_⟩
        have s9 := ((same_new (H := H5) (o := .lst ys) np).trans (same_new (o := .tup ys) nt)).trans (same_new (o := .tup [.int (ws.length : Int), .ref t]) nu)
        have mm : ∀ t, t ∈ rs ↔ PutM n m pl ts is t := fun t => pm'.mem_iff.trans (acc_put hpl hm hW hO t)
        refine q _ _ rs ((s4.trans s5).trans s9) ⟨u, t, ys, rfl, ?_, ?_, hT'.mono (Same.tst s9)⟩ ⟨pw_lt pw (pm'.nodup_iff.mpr (accJ_nd _ _ _)), fun t ht => ?_⟩ mm
        · rw [upd_same, wl]
        · rw [upd_ne (ne_of_none upd_same nu)]; exact upd_same
        · have z := (mm t).mp ht
          exact ⟨z.1, z.2.1, by have := z.2.2.1; omega⟩
end
end My

set_option Elab.async false
set_option linter.all false
set_option maxRecDepth 100000
namespace My
open PySem PySem.Spec PyProof.Rows L2 GxR
theorem inV_int (ns : List Int) (x : Int) : inV (.int x) (ns.map V.int) = decide (x ∈ ns) := by
  unfold inV
  induction ns with
  | nil => rfl
  | cons a l ih =>
    rw [List.map_cons, List.any_cons, ih]
    by_cases h : a = x
    · subst h; simp [eqV]
    · have h' : ¬ x = a := fun e => h e.symm
      simp [eqV, h, h']
theorem mem_inL {pl m : Nat} {x : Int} : x ∈ inL pl m ↔ (pl : Int) ≤ x ∧ x < (pl : Int) + m := by
  unfold inL
  rw [List.mem_map]
  constructor
  · rintro ⟨y, hy, rfl⟩
    have := mem_up.mp hy
    constructor <;> omega
  · intro h
    exact ⟨x - pl, mem_up.mpr (by omega), by omega⟩
section
variable {P : Program} {w : World} {K : PySem.W.Frag} {mg : Str → Option Value} {base : Heap}
abbrev s_law : Stmt := topS 25
abbrev N_law : List Str := ["_law_script", "_law_k", "_law_left_here", "_law_web_here", "_law_other", "_law_place", "_law_found", "_law_inner", "_law_one", "_law_outer", "_law_p"]
theorem sc_law : FnScope N_law ["_law_script"] (defScope s_law) := ⟨rfl, rfl, rfl, by decide +kernel, rfl, by decide +kernel, by decide +kernel⟩
def sp_law (K : PySem.W.Frag) (P1 P2 : Addr) : Sp := fun vs H Q _ => ∃ (a : Addr) (ns : List Int), vs = [.ref a] ∧ SqL K H a (ns.map V.int) ∧ ns.length ≤ 63 ∧ TabG H P1 ∧ TabG H P2 ∧ ∀ H', Q (.bl true) H'
theorem ok_law {f P1 P2 : Addr} {fd : FuncData} (B : Bts mg) (F : Fun K "law" "law" s_law f fd)
    (c__law_left : Cl P w K mg base 1 "_law_left" (sp_left K)) (c__law_one_at_least : Cl P w K mg base 6 "_law_one_at_least" sp_one) (c__law_pick : Cl P w K mg base 2 "_law_pick" sp_pick) (c_put_for : Cl P w K mg base 2 "put_for" sp_put) (c__law_put : Cl P w K mg base 2 "_law_put" sp_put)
    (c_part_of : Cl P w K mg base 1 "part_of" sp_part) (c__law_same : Cl P w K mg base 5 "_law_same" (sp_same 5)) (c_is_web : Cl P w K mg base 5 "is_web" (sp_is_web P1 P2)) :
    FnOk P w K mg base CX0 30 f fd ["_law_script"] (sp_law K P1 P2) := by
  refine F.ok sc_law (fun vs H Q E h => ?_) (fun cdv A outer s H vs Q E hr h => ?_)
  · obtain ⟨a, ns, rfl, _⟩ := h; rfl
  · obtain ⟨a, ns, rfl, hS, hl, tg1, tg2, q⟩ := h
    refine ⟨_, (pss_cons (ps_for PassesOwn.never rfl (pi_range1 (by rfl) B.range (pa_cons (pe_op op_add pe_int (pe_callB call_len_seq (by rfl) B.len (by decide +kernel) (pa_cons (pe_slice sl_list (pv 0) po_none (po_some pe_int)) pa_nil))) pa_nil)) (pg_name (i := 1) sc_law.nd rfl (by first | exact Or.inl rfl | exact Or.inr rfl))
      (pss_cons (ps_set (i := 2) sc_law.nd rfl (by first | exact Or.inl rfl | exact Or.inr rfl) (pe_c c__law_left hr (by decide) (by rfl) (pa_cons (pv 0) (pa_cons (pv 1) pa_nil))))
      (pss_cons (ps_par (i := 3) (j := 4) rfl sc_law.nd rfl rfl (by decide) rfl rfl (pa_cons (pe_c c__law_one_at_least hr (by decide) (by rfl) (pa_cons (pv 2) (pa_cons pe_int pa_nil))) (pa_cons (pe_c c__law_one_at_least hr (by decide) (by rfl) (pa_cons (pv 2) (pa_cons pe_int pa_nil))) pa_nil)) (by rfl))
      (pss_cons (ps_set (i := 5) sc_law.nd rfl (by first | exact Or.inl rfl | exact Or.inr rfl) (pe_c c__law_pick hr (by decide) (by rfl) (pa_cons (pv 2) (pa_cons (pe_ix ix_tup (pv 3) pe_int (fun _ _ => rfl)) pa_nil))))
      (pss_cons (ps_set (i := 6) sc_law.nd rfl (by first | exact Or.inl rfl | exact Or.inr rfl) (pe_c c_put_for hr (by decide) (by rfl) (pa_cons (pv 3) (pa_cons (pv 5) (pa_cons (pv 4) pa_nil)))))
      (pss_cons (ps_if (PW.pt (pw_or (pt_not (pt_val (pe_c c__law_same hr (by decide) (by rfl) (pa_cons (pv 6) (pa_cons (pe_c c__law_put hr (by decide) (by rfl) (pa_cons (pv 3) (pa_cons (pv 5) (pa_cons (pv 4) pa_nil)))) pa_nil))))) (pw_or1 (pt_not (pt_val (pe_c c_is_web hr (by decide) (by rfl) (pa_cons (pv 6) pa_nil))))))) (pss_one (ps_ret pe_bl)) pss_nil)
      (pss_cons (ps_set (i := 7) sc_law.nd rfl (by first | exact Or.inl rfl | exact Or.inr rfl) (pe_listRg rfl (by rfl) B.list (prg_2 (by rfl) B.range (pv 5) (pe_op op_add (pv 5) (pe_ix ix_tup (pv 4) pe_int (fun _ _ => rfl))))))
      (pss_cons (ps_set (i := 8) sc_law.nd rfl (by first | exact Or.inl rfl | exact Or.inr rfl) (pe_ix ix_list (pv 7) (pe_c c__law_pick hr (by decide) (by rfl) (pa_cons (pv 2) (pa_cons (pe_callB call_len_seq (by rfl) B.len (by decide +kernel) (pa_cons (pv 7) pa_nil)) pa_nil))) (fun _ _ => rfl)))
      (pss_cons (ps_setLc (i := 9) (own := [("_law_p", 10)]) (g := (gName 10)) (tt := (tOr _ (tTest (tOp (rIn K true) _ _)))) rfl sc_law.nd rfl rfl (sw_true rfl rfl rfl (by decide +kernel)) (pi_range1 (by rfl) B.range (pa_cons (pe_ix ix_tup (pv 6) pe_int (fun _ _ => rfl)) pa_nil)) (blkOk_by (own := [("_law_p", 10)]) (N := N_law) (sc := defScope s_law) (by decide +kernel)) (fun _ _ _ _ _ => (pg_name (i := 10) sc_law.nd rfl (by first | exact Or.inl rfl | exact Or.inr rfl))) (fun _ _ _ _ _ => (pts_one (PW.pt (pw_or (pt_cmpR op_eq (pv 10) (pv 8) (nomark _)) (pw_or1 (pt_cmpR op_notIn_seq (pv 10) (pv 7) (by rfl))))))) (fun _ _ _ _ _ => (pv 10)))
      (pss_cons (ps_if (pt_not (pt_val (pe_c c__law_same hr (by decide) (by rfl) (pa_cons (pe_lst (pa_cons (pe_c c_part_of hr (by decide) (by rfl) (pa_cons (pv 6) (pa_cons (pv 7) pa_nil))) (pa_cons (pe_c c_part_of hr (by decide) (by rfl) (pa_cons (pv 6) (pa_cons (pv 9) pa_nil))) pa_nil))) (pa_cons (pe_lst (pa_cons (pv 4) (pa_cons (pv 3) pa_nil))) pa_nil))))) (pss_one (ps_ret pe_bl)) pss_nil)
      (pss_one (ps_if (pt_not (pt_val (pe_c c__law_same hr (by decide) (by rfl) (pa_cons (pe_c c_put_for hr (by decide) (by rfl) (pa_cons (pv 3) (pa_cons (pv 5) (pa_cons (pe_tup (pa_cons pe_int (pa_cons (pe_tup pa_nil) pa_nil))) pa_nil)))) (pa_cons (pv 3) pa_nil))))) (pss_one (ps_ret pe_bl)) pss_nil))))))))))))
    (pss_one (ps_ret pe_bl))), ?_⟩
    have St : St0 P1 P2 H H := ⟨FrM.refl _ _, tg1, tg2⟩
    refine ⟨_, rfl, _, rfl, a, _, rfl, hS, fun sl nsl => ?_⟩
    rw [show (some (8 : Int)) = some ((8 : Nat) : Int) from rfl, cutTo]
    refine ⟨sl, _, rfl, .inl (SqL.of upd_same), _, _, rfl, rfl, _, rfl, by omega, by rw [List.length_take]; omega, ?_⟩
    have tn : (1 + (((ns.map V.int).take 8).length : Int)).toNat ≤ 9 := by rw [List.length_take]; omega
    generalize (1 + (((ns.map V.int).take 8).length : Int)).toNat = turns at tn
    refine for_range (fun k σ H1 => ∃ y1 y2 y3 y4 y5 y6 y7 y8 y9 y10, σ = [some (.ref a), y1, y2, y3, y4, y5, y6, y7, y8, y9, y10] ∧ St0 P1 P2 H H1)
      ⟨none, none, none, none, none, none, none, none, none, none, rfl, St.same (same_new nsl)⟩ ?_ ?_
    · rintro k σ H1 hk ⟨y1, y2, y3, y4, y5, y6, y7, y8, y9, y10, rfl, S1⟩
      -- left
      refine ⟨_, rfl, _, rfl, a, ns, _, rfl, St.sq S1 hS, by omega, by omega, fun L H2 nL s2 lf2 => ?_⟩
      have n0L : H L = none := S1.free nL
      have S2 := S1.same s2
      -- web, other
      refine ⟨_, rfl, L, 0, rfl, lf2, by decide, fun v H3 n ts hn hn0 fr3 lf3 hWeb3 hW => ?_⟩
      have S3 := S2.frL lf2 n0L fr3
      refine ⟨_, rfl, L, _, rfl, lf3, by decide, fun o H4 m is hm hm0 fr4 lf4 hOth4 hO => ?_⟩
      have S4 := S3.frL lf3 n0L fr4
      have hWeb4 := hWeb3.mono (lf3.tst fr4)
      have tl : ts.length ≤ 10000 := wok_len hW (by omega)
      have il : is.length ≤ 10000 := wok_len hO (by omega)
      obtain ⟨pw, qw, us, rfl, ew, eqw, hT⟩ := id hWeb4
      obtain ⟨po, qo, is', rfl, eo, eqo, hI⟩ := id hOth4
      refine ⟨_, _, rfl, ?_⟩
      -- place
      refine ⟨_, rfl, _, rfl, pw, _, _, _, rfl, rfl, SqT.of ew, rfl, L, (n : Int), _, rfl, lf4, by omega, by omega, by decide, fun r H5 r0 r1 fr5 lf5 => ?_⟩
      obtain ⟨pl, rfl⟩ : ∃ pl : Nat, r = (pl : Int) := ⟨r.toNat, by omega⟩
      have S5 := S4.frL lf4 n0L fr5
      have a5 := lf4.tst fr5
      have w5 := hWeb4.mono a5
      have o5 := hOth4.mono a5
      have hpl : pl < n := by omega
      -- found
      refine ⟨_, rfl, _, rfl, _, rfl, .ref pw, .ref po, n, m, pl, ts, is, rfl, w5, o5, hW, hO, hpl, hm0, by omega, fun u H6 rs s6 hU hRs mm => ?_⟩
      have S6 := S5.same s6
      have w6 := w5.mono (Same.tst s6)
      have o6 := o5.mono (Same.tst s6)
      have rl : rs.length ≤ 10000 := wok_len hRs (by omega)
      -- same(found, put(..))
      refine ⟨_, rfl, _, rfl, _, rfl, _, rfl, .ref pw, .ref po, n, m, pl, ts, is, rfl, w6, o6, hW, hO, hpl, hm0, by omega, fun u2 H7 rs2 s7 hU2 hR2 mm2 => ?_⟩
      have e2 : rs2 = rs := pw_eq hR2.1 hRs.1 fun t => (mm2 t).trans (mm t).symm
      subst e2
      refine ⟨_, _, rfl, (web_eqd (hU.mono (Same.tst s7)) hU2 rl).up, fun H8 s8 => ⟨true, rfl, iteF ?_⟩⟩
      have s68 := s7.trans s8
      have S8 := S6.same s68
      have hU8 := hU.mono (Same.tst s68)
      -- is_web(found)
      refine ⟨_, rfl, u, n + m - 1, rs2, rfl, hU8, hRs, rl, S8.t1, S8.t2, fun H9 fr9 t1 t2 => ⟨true, rfl, iteF ?_⟩⟩
      have S9 := S8.tab fr9 t1 t2
      have a9 := S8.tst fr9
      have lf9 := S8.lf fr9 ((lf5.same s6).same s68)
      have w9 := (w6.mono (Same.tst s68)).mono a9
      have o9 := (o6.mono (Same.tst s68)).mono a9
      have hU9 := hU8.mono a9
      obtain ⟨po', qo', is2, ee, eo9, eqo9, hI9⟩ := id o9
      cases ee
      -- inner
      refine ⟨_, rfl, _, rfl, _, rfl, po, _, _, _, rfl, rfl, SqT.of eo9, rfl, _, _, rfl, rfl, _, _, rfl, rfl, RgOk.of_le (by omega) (by omega) (by omega) (by omega), fun pi npi => ?_⟩
      rw [inL_rg]
      have s10 := same_new (o := .lst ((inL pl m).map V.int)) npi
      have epi := upd_same (H := H9) (a := pi) (o := .lst ((inL pl m).map V.int))
      have npiL : pi ≠ L := lf9.ne npi
      have S10 := S9.same s10
      have lf10 := lf9.same s10
      have w10 := w9.mono (Same.tst s10)
      have o10 := o9.mono (Same.tst s10)
      have hU10 := hU9.mono (Same.tst s10)
      generalize upd H9 pi (.lst ((inL pl m).map V.int)) = H10 at epi S10 lf10 w10 o10 hU10 ⊢
      have lml : ((inL pl m).map V.int).length = m := by rw [List.length_map, inL_len]
      -- one
      refine ⟨_, rfl, _, rfl, _, rfl, pi, _, rfl, .inl (SqL.of epi), L, _, _, rfl, lf10, by omega, by omega, by decide, fun r H11 r0 r1 fr11 lf11 => ?_⟩
      rw [lml] at r1
      obtain ⟨i1, rfl⟩ : ∃ i1 : Nat, r = (i1 : Int) := ⟨r.toNat, by omega⟩
      have S11 := S10.frL lf10 n0L fr11
      have a11 := lf10.tst fr11
      have epi11 := fr11 _ _ npiL epi
      have g1 : atI ((inL pl m).map V.int) (i1 : Int) = some (.int ((pl : Int) + i1)) := by
        refine atI_nat ?_
        rw [List.getElem?_map, inL_get.mpr ⟨by omega, rfl⟩]; rfl
      refine ⟨pi, _, _, _, rfl, rfl, SqL.of epi11, g1, ?_⟩
      have w11 := w10.mono a11
      have o11 := o10.mono a11
      have hU11 := hU10.mono a11
      obtain ⟨pu, qu, vs, rfl, eu, equ, hV⟩ := id hU11
      have o0 : (pl : Int) ≤ (pl : Int) + i1 := by omega
      have o1 : (pl : Int) + i1 < (pl : Int) + m := by omega
      generalize hone : (pl : Int) + i1 = one at o0 o1 ⊢
      -- outer
      refine ⟨_, rfl, pu, _, _, _, rfl, rfl, SqT.of eu, rfl, _, rfl, by omega, by omega, fun D nD => ?_⟩
      have en : (((n + m - 1 : Nat) : Int)).toNat = n + m - 1 := Int.toNat_natCast _
      refine wk (walk_range (lo := 0)) (fun i H12 => Same H11 H12 ∧ H12 D = some (.lst (((up i).filter (outT pl m one)).map V.int))) ⟨same_new nD, upd_same⟩ (fun _ _ _ _ => trivial) ?_ ?_
      · rintro i x H12 H13 hi ⟨s12, eD⟩ ⟨rfl, hx⟩
        obtain rfl : x = .int (i : Int) := hx.trans (congrArg V.int (Int.zero_add _))
        rw [en] at hi
        have fl : ((up i).filter (outT pl m one)).length ≤ i := Nat.le_trans (List.length_filter_le _ _) (Nat.le_of_eq (up_len i))
        have st : ((up (i + 1)).filter (outT pl m one)).map V.int = ((up i).filter (outT pl m one)).map V.int ++ (if outT pl m one i = true then [V.int (i : Int)] else []) := by
          rw [up_succ, List.filter_append, List.map_append]
          congr 1
          by_cases h : outT pl m one i = true
          · rw [if_pos h, List.filter_cons_of_pos h]; rfl
          · rw [if_neg h, List.filter_cons_of_neg h]; rfl
        have add : outT pl m one i = true → Same H11 (upd H13 D (.lst (((up i).filter (outT pl m one)).map V.int ++ [.int (i : Int)]))) ∧ (upd H13 D (.lst (((up i).filter (outT pl m one)).map V.int ++ [.int (i : Int)]))) D = some (.lst (((up (i + 1)).filter (outT pl m one)).map V.int)) := fun h => by
          refine ⟨Same.put s12 nD, ?_⟩
          rw [upd_same, st, if_pos h]
        refine ⟨rfl, ?_⟩
        refine ⟨_, rfl, _, rfl, rfl, _, rfl, ?_⟩
        have ei : decide (V.int (i : Int) = V.int one) = decide ((i : Int) = one) := decide_eq_decide.mpr ⟨fun e => V.int.inj e, fun e => congrArg V.int e⟩
        rw [ei]
        by_cases h1 : (i : Int) = one
        · rw [decide_eq_true h1]
          refine iteT (iteT ?_)
          have ot : outT pl m one i = true := by unfold outT; rw [decide_eq_true h1]; rfl
          exact ⟨_, rfl, _, eD, sz' (by rw [List.length_map]; omega), add ot⟩
        · rw [decide_eq_false h1]
          refine iteF ⟨_, rfl, _, rfl, pi, _, rfl, .inl (SqL.of (s12 _ _ epi11)), rfl, all_flat _, _, rfl, ?_⟩
          rw [inV_int]
          by_cases h2 : (i : Int) ∈ inL pl m
          · have ot : ¬ outT pl m one i = true := by
              unfold outT
              rw [decide_eq_false h1, decide_eq_true (mem_inL.mp h2)]
              exact fun z => nomatch z
            rw [decide_eq_true h2]
            refine iteF ⟨s12, ?_⟩
            rw [st, if_neg ot, List.append_nil]; exact eD
          · have ot : outT pl m one i = true := by
              unfold outT
              rw [decide_eq_false (fun z => h2 (mem_inL.mpr z)), Bool.not_false, Bool.or_true]
            rw [decide_eq_false h2]
            exact iteT ⟨_, rfl, _, eD, sz' (by rw [List.length_map]; omega), add ot⟩
      · rintro H12 ⟨s12, eD⟩
        rw [en] at eD
        have S12 := S11.same s12
        have hU12 := hU11.mono (Same.tst s12)
        have w12 := w11.mono (Same.tst s12)
        have o12 := o11.mono (Same.tst s12)
        -- parts
        refine ⟨_, rfl, _, rfl, .ref pu, n + m - 1, rs2, pi, inL pl m, rfl, hU12, rl, s12 _ _ epi11, (inL_ris hpl hm0).nodup, by rw [inL_len]; omega, fun x1 H13 s13 hX1 => ?_⟩
        rw [inL_len, part_in hpl hm0 hW hO hRs mm] at hX1
        refine ⟨_, rfl, _, rfl, .ref pu, n + m - 1, rs2, D, outL n m pl one, rfl, hU12.mono (Same.tst s13), rl, s13 _ _ eD, outL_ris.nodup, by rw [outL_len hpl hm0 o0 o1]; omega, fun x2 H14 s14 hX2 => ?_⟩
        rw [outL_len hpl hm0 o0 o1, part_out hpl hm0 o0 o1 hW hO hRs mm] at hX2
        refine ⟨by show 2 ≤ sizeLine; decide, fun l3 n3 => ?_⟩
        have s15 := same_new (o := .lst [x1, x2]) n3
        refine ⟨_, rfl, _, rfl, by show 2 ≤ sizeLine; decide, fun l4 n4 => ?_⟩
        have s16 := same_new (o := .lst [.ref po, .ref pw]) n4
        have s1216 := ((s13.trans s14).trans s15).trans s16
        have w16 := w12.mono (Same.tst s1216)
        have o16 := o12.mono (Same.tst s1216)
        have hX1' := hX1.mono (Same.tst ((s14.trans s15).trans s16))
        have hX2' := hX2.mono (Same.tst (s15.trans s16))
        refine ⟨.ref l3, .ref l4, rfl, .inr ⟨l3, l4, _, _, rfl, rfl, .inr ⟨s16 _ _ upd_same, upd_same⟩, rfl, by show 2 ≤ 10000; decide, fun i v u ev eu => ?_⟩, fun H17 s17 => ⟨true, rfl, iteF ?_⟩⟩
        · match i, ev, eu with
          | 0, ev, eu => cases ev; cases eu; exact web_eqd hX1' o16 il
          | 1, ev, eu => cases ev; cases eu; exact web_eqd hX2' w16 tl
        have s1217 := s1216.trans s17
        have S17 := S12.same s1217
        have w17 := w12.mono (Same.tst s1217)
        -- one place put for a place
        refine ⟨_, rfl, _, rfl, Nat.zero_le _, fun t0 nt0 => ⟨by show 2 ≤ sizeLine; decide, fun t1 nt1 => ?_⟩⟩
        have s18 := (same_new (o := .tup []) nt0).trans (same_new (o := .tup [.int 1, .ref t0]) nt1)
        have h1 : Web (upd (upd H17 t0 (.tup [])) t1 (.tup [.int 1, .ref t0])) (.ref t1) 1 [] := by
          refine ⟨t1, t0, [], rfl, upd_same, ?_, trivial⟩
          rw [upd_ne (ne_of_none upd_same nt1)]; exact upd_same
        refine ⟨.ref pw, .ref t1, n, 1, pl, ts, [], rfl, w17.mono (Same.tst s18), h1, hW, ⟨List.Pairwise.nil, fun _ h => by cases h⟩, hpl, by omega, by omega, fun x3 H19 rs3 s19 hX3 hR3 mm3 => ?_⟩
        have e3 : rs3 = ts := put_one hpl hW hR3 mm3
        subst e3
        refine ⟨_, rfl, _, _, rfl, (web_eqd hX3 (w17.mono (Same.tst (s18.trans s19))) tl).up, fun H20 s20 => ⟨true, rfl, iteF ?_⟩⟩
        exact ⟨_, _, _, _, _, _, _, _, _, _, rfl, S17.same ((s18.trans s19).trans s20)⟩
    · rintro σ H1 ⟨y1, y2, y3, y4, y5, y6, y7, y8, y9, y10, rfl, S1⟩
      exact q _
end
end My

set_option Elab.async false
set_option linter.all false
set_option maxRecDepth 100000
namespace My
open PySem PySem.Spec PyProof.Rows L2 GxR
/-! ### the head -/
def d_is_number : He.DefD := ⟨("is_number", none), "is_number", "is_number", defArgs s_is_number, defBody s_is_number, defScope s_is_number, [], []⟩
def d_is_pair : He.DefD := ⟨("is_pair", none), "is_pair", "is_pair", defArgs s_is_pair, defBody s_is_pair, defScope s_is_pair, [], []⟩
def d_is_web : He.DefD := ⟨("is_web", none), "is_web", "is_web", defArgs s_is_web, defBody s_is_web, defScope s_is_web, [], []⟩
def d_is_tie : He.DefD := ⟨("is_tie", none), "is_tie", "is_tie", defArgs s_is_tie, defBody s_is_tie, defScope s_is_tie, [], []⟩
def d_is_rising : He.DefD := ⟨("is_rising", none), "is_rising", "is_rising", defArgs s_is_rising, defBody s_is_rising, defScope s_is_rising, [], []⟩
def d_part_of : He.DefD := ⟨("part_of", none), "part_of", "part_of", defArgs s_part_of, defBody s_part_of, defScope s_part_of, [], []⟩
def d_put_for : He.DefD := ⟨("put_for", none), "put_for", "put_for", defArgs s_put_for, defBody s_put_for, defScope s_put_for, [], []⟩
def d_numbers_behind : He.DefD := ⟨("numbers_behind", none), "numbers_behind", "numbers_behind", defArgs s_numbers_behind, defBody s_numbers_behind, defScope s_numbers_behind, [], []⟩
def d__law_mix : He.DefD := ⟨("_law_mix", none), "_law_mix", "_law_mix", defArgs s__law_mix, defBody s__law_mix, defScope s__law_mix, [], []⟩
def d__law_left : He.DefD := ⟨("_law_left", none), "_law_left", "_law_left", defArgs s__law_left, defBody s__law_left, defScope s__law_left, [], []⟩
def d__law_pick : He.DefD := ⟨("_law_pick", none), "_law_pick", "_law_pick", defArgs s__law_pick, defBody s__law_pick, defScope s__law_pick, [], []⟩
def d__law_pairs : He.DefD := ⟨("_law_pairs", none), "_law_pairs", "_law_pairs", defArgs s__law_pairs, defBody s__law_pairs, defScope s__law_pairs, [], []⟩
def d__law_any_web : He.DefD := ⟨("_law_any_web", none), "_law_any_web", "_law_any_web", defArgs s__law_any_web, defBody s__law_any_web, defScope s__law_any_web, [], []⟩
def d__law_row : He.DefD := ⟨("_law_row", none), "_law_row", "_law_row", defArgs s__law_row, defBody s__law_row, defScope s__law_row, [], []⟩
def d__law_row_web : He.DefD := ⟨("_law_row_web", none), "_law_row_web", "_law_row_web", defArgs s__law_row_web, defBody s__law_row_web, defScope s__law_row_web, [], []⟩
def d__law_ring_web : He.DefD := ⟨("_law_ring_web", none), "_law_ring_web", "_law_ring_web", defArgs s__law_ring_web, defBody s__law_ring_web, defScope s__law_ring_web, [], []⟩
def d__law_put_together : He.DefD := ⟨("_law_put_together", none), "_law_put_together", "_law_put_together", defArgs s__law_put_together, defBody s__law_put_together, defScope s__law_put_together, [], []⟩
def d__law_web : He.DefD := ⟨("_law_web", none), "_law_web", "_law_web", defArgs s__law_web, defBody s__law_web, defScope s__law_web, [], []⟩
def d__law_near : He.DefD := ⟨("_law_near", none), "_law_near", "_law_near", defArgs s__law_near, defBody s__law_near, defScope s__law_near, [], []⟩
def d__law_same : He.DefD := ⟨("_law_same", none), "_law_same", "_law_same", defArgs s__law_same, defBody s__law_same, defScope s__law_same, [], []⟩
def d__law_one_at_least : He.DefD := ⟨("_law_one_at_least", none), "_law_one_at_least", "_law_one_at_least", defArgs s__law_one_at_least, defBody s__law_one_at_least, defScope s__law_one_at_least, [], []⟩
def d__law_put : He.DefD := ⟨("_law_put", none), "_law_put", "_law_put", defArgs s__law_put, defBody s__law_put, defScope s__law_put, [], []⟩
def d_law : He.DefD := ⟨("law", none), "law", "law", defArgs s_law, defBody s_law, defScope s_law, [], []⟩
def fns : List He.DefD := [d_is_number, d_is_pair, d_is_web, d_is_tie, d_is_rising, d_part_of, d_put_for, d_numbers_behind, d__law_mix, d__law_left, d__law_pick, d__law_pairs, d__law_any_web, d__law_row, d__law_row_web, d__law_ring_web, d__law_put_together, d__law_web, d__law_near, d__law_same, d__law_one_at_least, d__law_put, d_law]
def fas : List He.Fa := [.glo "is_number", .glo "is_pair", .glo "is_web", .glo "is_tie", .glo "is_rising", .glo "part_of", .glo "put_for", .glo "numbers_behind", .glo "_law_mix", .glo "_law_left", .glo "_law_pick", .glo "_law_pairs", .glo "_law_any_web", .glo "_law_row", .glo "_law_row_web", .glo "_law_ring_web", .glo "_law_put_together", .glo "_law_web", .glo "_law_near", .glo "_law_same", .glo "_law_one_at_least", .glo "_law_put", .glo "law", .free "len", .free "range", .free "tuple", .free "list", .free "int", .free "abs", .free "min", .free "sorted", .free "set", .free "all", .free "any", .free "enumerate", .free "zip", .free "isinstance", .free "bool", .free "str", .free "dict"]
def tfs : List He.Defn := [("is_web", none), ("is_rising", none)]
abbrev Rw : PySem.W.OpenRow := PySem.W.OpenLaw.row PySem.Challenge.rw_pointedties_k05_webs_put_for_places
def exf (K : PySem.W.Frag) : Bool := decide ((He.cT K ("is_web", none)).2 ≠ (He.cT K ("is_rising", none)).2)
abbrev hk : PySem.W.Hook := He.hookX 4 fas fns [] tfs exf
def ob (s : PySem.W.SharedT) : He.AlX := He.obsX 4 fas fns [] tfs exf (HandSHeadRun.getT s)
theorem ob_eq (s : PySem.W.SharedT) : ob s = hk.obs s.abs := He.obsX_eq (HandSHeadRun.getT_eq s)
abbrev others : List Str := ["is_number", "is_pair", "is_web", "is_tie", "is_rising", "part_of", "put_for", "numbers_behind", "_law_mix", "_law_left", "_law_pick", "_law_pairs", "_law_any_web", "_law_row", "_law_row_web", "_law_ring_web", "_law_put_together", "_law_web", "_law_near", "_law_same", "_law_one_at_least", "_law_put"]
theorem run (w : World) : HandSHeadRun.RunEq Rw (PySem.W.view Rw.prog [25]) hk ob 4000 others w := by
  intro os; kernel_rfl

theorem code_of {K : PySem.W.Frag} {x q : Str} {st : Stmt} {p : He.Defn} {fd : FuncData} (F : Fun K x q st (He.fAd K p) fd) : fd.code = .ref (He.codeOf K p) := by
  obtain ⟨oc, od, kV, doc, pm, an, cdv, ct, osl, rfl, lk, hcd⟩ := F.ex
  cases cdv with
  | ref c => rw [He.codeOf_eq lk rfl]
  | _ => cases hcd
theorem law_ok {P : Program} {w : World} {K : PySem.W.Frag} {h : Heap} {mg : Str → Option Value} {f : Addr} (X : K.In h) (G : h.Ns mainGlobals mg) (hfa : mg ("law" : Str) = some (.ref f)) (c : He.SaysX fas fns [] tfs exf w h K) :
    ∃ fd : FuncData, (∀ (s : Shared) (v : Value), BindsTo s fd ⟨[v], []⟩ [("_law_script", v)]) ∧ ∀ base : Heap, K.In base → base.Ns mainGlobals mg → (∀ p ∈ tfs.map (He.cT K), LamX.TabB base mg p.1 p.2) →
      FnOk P w K mg base CX0 30 f fd ["_law_script"] (sp_law K (He.cT K ("is_web", none)).2 (He.cT K ("is_rising", none)).2) := by
    have cd := c.t.d
    obtain ⟨fd_is_number, F_is_number⟩ := cd.def_ 0 (d := d_is_number) rfl
    have b_is_number : Binds K fd_is_number ["thing"] [] := F_is_number.bindsN fun _ _ _ _ _ _ us hl => match us, hl with | [_], _ => rfl
    have g_is_number : mg "is_number" = some (.ref (He.ga K "is_number")) := He.glo_ok X G (cd.fact 0 (f := .glo "is_number") rfl)
    have U_is_number : Fun K "is_number" "is_number" s_is_number (He.ga K "is_number") fd_is_number := fun_of F_is_number
    obtain ⟨fd_is_pair, F_is_pair⟩ := cd.def_ 1 (d := d_is_pair) rfl
    have b_is_pair : Binds K fd_is_pair ["thing"] [] := F_is_pair.bindsN fun _ _ _ _ _ _ us hl => match us, hl with | [_], _ => rfl
    have g_is_pair : mg "is_pair" = some (.ref (He.ga K "is_pair")) := He.glo_ok X G (cd.fact 1 (f := .glo "is_pair") rfl)
    have U_is_pair : Fun K "is_pair" "is_pair" s_is_pair (He.ga K "is_pair") fd_is_pair := fun_of F_is_pair
    obtain ⟨fd_is_web, F_is_web⟩ := cd.def_ 2 (d := d_is_web) rfl
    have b_is_web : Binds K fd_is_web ["thing"] [] := F_is_web.bindsN fun _ _ _ _ _ _ us hl => match us, hl with | [_], _ => rfl
    have g_is_web : mg "is_web" = some (.ref (He.ga K "is_web")) := He.glo_ok X G (cd.fact 2 (f := .glo "is_web") rfl)
    have U_is_web : Fun K "is_web" "is_web" s_is_web (He.ga K "is_web") fd_is_web := fun_of F_is_web
    obtain ⟨fd_is_tie, F_is_tie⟩ := cd.def_ 3 (d := d_is_tie) rfl
    have b_is_tie : Binds K fd_is_tie ["many", "thing"] [] := F_is_tie.bindsN fun _ _ _ _ _ _ us hl => match us, hl with | [_, _], _ => rfl
    have g_is_tie : mg "is_tie" = some (.ref (He.ga K "is_tie")) := He.glo_ok X G (cd.fact 3 (f := .glo "is_tie") rfl)
    have U_is_tie : Fun K "is_tie" "is_tie" s_is_tie (He.ga K "is_tie") fd_is_tie := fun_of F_is_tie
    obtain ⟨fd_is_rising, F_is_rising⟩ := cd.def_ 4 (d := d_is_rising) rfl
    have b_is_rising : Binds K fd_is_rising ["row"] [] := F_is_rising.bindsN fun _ _ _ _ _ _ us hl => match us, hl with | [_], _ => rfl
    have g_is_rising : mg "is_rising" = some (.ref (He.ga K "is_rising")) := He.glo_ok X G (cd.fact 4 (f := .glo "is_rising") rfl)
    have U_is_rising : Fun K "is_rising" "is_rising" s_is_rising (He.ga K "is_rising") fd_is_rising := fun_of F_is_rising
    obtain ⟨fd_part_of, F_part_of⟩ := cd.def_ 5 (d := d_part_of) rfl
    have b_part_of : Binds K fd_part_of ["web", "places"] [] := F_part_of.bindsN fun _ _ _ _ _ _ us hl => match us, hl with | [_, _], _ => rfl
    have g_part_of : mg "part_of" = some (.ref (He.ga K "part_of")) := He.glo_ok X G (cd.fact 5 (f := .glo "part_of") rfl)
    have U_part_of : Fun K "part_of" "part_of" s_part_of (He.ga K "part_of") fd_part_of := fun_of F_part_of
    obtain ⟨fd_put_for, F_put_for⟩ := cd.def_ 6 (d := d_put_for) rfl
    have b_put_for : Binds K fd_put_for ["web", "place", "other"] [] := F_put_for.bindsN fun _ _ _ _ _ _ us hl => match us, hl with | [_, _, _], _ => rfl
    have g_put_for : mg "put_for" = some (.ref (He.ga K "put_for")) := He.glo_ok X G (cd.fact 6 (f := .glo "put_for") rfl)
    have U_put_for : Fun K "put_for" "put_for" s_put_for (He.ga K "put_for") fd_put_for := fun_of F_put_for
    obtain ⟨fd_numbers_behind, F_numbers_behind⟩ := cd.def_ 7 (d := d_numbers_behind) rfl
    have b_numbers_behind : Binds K fd_numbers_behind ["old", "place", "size"] [] := F_numbers_behind.bindsN fun _ _ _ _ _ _ us hl => match us, hl with | [_, _, _], _ => rfl
    have g_numbers_behind : mg "numbers_behind" = some (.ref (He.ga K "numbers_behind")) := He.glo_ok X G (cd.fact 7 (f := .glo "numbers_behind") rfl)
    have U_numbers_behind : Fun K "numbers_behind" "numbers_behind" s_numbers_behind (He.ga K "numbers_behind") fd_numbers_behind := fun_of F_numbers_behind
    obtain ⟨fd__law_mix, F__law_mix⟩ := cd.def_ 8 (d := d__law_mix) rfl
    have b__law_mix : Binds K fd__law_mix ["_law_cell", "_law_k"] [] := F__law_mix.bindsN fun _ _ _ _ _ _ us hl => match us, hl with | [_, _], _ => rfl
    have g__law_mix : mg "_law_mix" = some (.ref (He.ga K "_law_mix")) := He.glo_ok X G (cd.fact 8 (f := .glo "_law_mix") rfl)
    have U__law_mix : Fun K "_law_mix" "_law_mix" s__law_mix (He.ga K "_law_mix") fd__law_mix := fun_of F__law_mix
    obtain ⟨fd__law_left, F__law_left⟩ := cd.def_ 9 (d := d__law_left) rfl
    have b__law_left : Binds K fd__law_left ["_law_script", "_law_k"] [] := F__law_left.bindsN fun _ _ _ _ _ _ us hl => match us, hl with | [_, _], _ => rfl
    have g__law_left : mg "_law_left" = some (.ref (He.ga K "_law_left")) := He.glo_ok X G (cd.fact 9 (f := .glo "_law_left") rfl)
    have U__law_left : Fun K "_law_left" "_law_left" s__law_left (He.ga K "_law_left") fd__law_left := fun_of F__law_left
    obtain ⟨fd__law_pick, F__law_pick⟩ := cd.def_ 10 (d := d__law_pick) rfl
    have b__law_pick : Binds K fd__law_pick ["_law_left_here", "_law_many"] [] := F__law_pick.bindsN fun _ _ _ _ _ _ us hl => match us, hl with | [_, _], _ => rfl
    have g__law_pick : mg "_law_pick" = some (.ref (He.ga K "_law_pick")) := He.glo_ok X G (cd.fact 10 (f := .glo "_law_pick") rfl)
    have U__law_pick : Fun K "_law_pick" "_law_pick" s__law_pick (He.ga K "_law_pick") fd__law_pick := fun_of F__law_pick
    obtain ⟨fd__law_pairs, F__law_pairs⟩ := cd.def_ 11 (d := d__law_pairs) rfl
    have b__law_pairs : Binds K fd__law_pairs ["_law_many"] [] := F__law_pairs.bindsN fun _ _ _ _ _ _ us hl => match us, hl with | [_], _ => rfl
    have g__law_pairs : mg "_law_pairs" = some (.ref (He.ga K "_law_pairs")) := He.glo_ok X G (cd.fact 11 (f := .glo "_law_pairs") rfl)
    have U__law_pairs : Fun K "_law_pairs" "_law_pairs" s__law_pairs (He.ga K "_law_pairs") fd__law_pairs := fun_of F__law_pairs
    obtain ⟨fd__law_any_web, F__law_any_web⟩ := cd.def_ 12 (d := d__law_any_web) rfl
    have b__law_any_web : Binds K fd__law_any_web ["_law_left_here", "_law_many"] [] := F__law_any_web.bindsN fun _ _ _ _ _ _ us hl => match us, hl with | [_, _], _ => rfl
    have g__law_any_web : mg "_law_any_web" = some (.ref (He.ga K "_law_any_web")) := He.glo_ok X G (cd.fact 12 (f := .glo "_law_any_web") rfl)
    have U__law_any_web : Fun K "_law_any_web" "_law_any_web" s__law_any_web (He.ga K "_law_any_web") fd__law_any_web := fun_of F__law_any_web
    obtain ⟨fd__law_row, F__law_row⟩ := cd.def_ 13 (d := d__law_row) rfl
    have b__law_row : Binds K fd__law_row ["_law_left_here", "_law_many"] [] := F__law_row.bindsN fun _ _ _ _ _ _ us hl => match us, hl with | [_, _], _ => rfl
    have g__law_row : mg "_law_row" = some (.ref (He.ga K "_law_row")) := He.glo_ok X G (cd.fact 13 (f := .glo "_law_row") rfl)
    have U__law_row : Fun K "_law_row" "_law_row" s__law_row (He.ga K "_law_row") fd__law_row := fun_of F__law_row
    obtain ⟨fd__law_row_web, F__law_row_web⟩ := cd.def_ 14 (d := d__law_row_web) rfl
    have b__law_row_web : Binds K fd__law_row_web ["_law_left_here", "_law_many"] [] := F__law_row_web.bindsN fun _ _ _ _ _ _ us hl => match us, hl with | [_, _], _ => rfl
    have g__law_row_web : mg "_law_row_web" = some (.ref (He.ga K "_law_row_web")) := He.glo_ok X G (cd.fact 14 (f := .glo "_law_row_web") rfl)
    have U__law_row_web : Fun K "_law_row_web" "_law_row_web" s__law_row_web (He.ga K "_law_row_web") fd__law_row_web := fun_of F__law_row_web
    obtain ⟨fd__law_ring_web, F__law_ring_web⟩ := cd.def_ 15 (d := d__law_ring_web) rfl
    have b__law_ring_web : Binds K fd__law_ring_web ["_law_left_here", "_law_many"] [] := F__law_ring_web.bindsN fun _ _ _ _ _ _ us hl => match us, hl with | [_, _], _ => rfl
    have g__law_ring_web : mg "_law_ring_web" = some (.ref (He.ga K "_law_ring_web")) := He.glo_ok X G (cd.fact 15 (f := .glo "_law_ring_web") rfl)
    have U__law_ring_web : Fun K "_law_ring_web" "_law_ring_web" s__law_ring_web (He.ga K "_law_ring_web") fd__law_ring_web := fun_of F__law_ring_web
    obtain ⟨fd__law_put_together, F__law_put_together⟩ := cd.def_ 16 (d := d__law_put_together) rfl
    have b__law_put_together : Binds K fd__law_put_together ["_law_left_here", "_law_many"] [] := F__law_put_together.bindsN fun _ _ _ _ _ _ us hl => match us, hl with | [_, _], _ => rfl
    have g__law_put_together : mg "_law_put_together" = some (.ref (He.ga K "_law_put_together")) := He.glo_ok X G (cd.fact 16 (f := .glo "_law_put_together") rfl)
    have U__law_put_together : Fun K "_law_put_together" "_law_put_together" s__law_put_together (He.ga K "_law_put_together") fd__law_put_together := fun_of F__law_put_together
    obtain ⟨fd__law_web, F__law_web⟩ := cd.def_ 17 (d := d__law_web) rfl
    have b__law_web : Binds K fd__law_web ["_law_left_here", "_law_most"] [] := F__law_web.bindsN fun _ _ _ _ _ _ us hl => match us, hl with | [_, _], _ => rfl
    have g__law_web : mg "_law_web" = some (.ref (He.ga K "_law_web")) := He.glo_ok X G (cd.fact 17 (f := .glo "_law_web") rfl)
    have U__law_web : Fun K "_law_web" "_law_web" s__law_web (He.ga K "_law_web") fd__law_web := fun_of F__law_web
    obtain ⟨fd__law_near, F__law_near⟩ := cd.def_ 18 (d := d__law_near) rfl
    have b__law_near : Binds K fd__law_near ["_law_web_here"] [] := F__law_near.bindsN fun _ _ _ _ _ _ us hl => match us, hl with | [_], _ => rfl
    have g__law_near : mg "_law_near" = some (.ref (He.ga K "_law_near")) := He.glo_ok X G (cd.fact 18 (f := .glo "_law_near") rfl)
    have U__law_near : Fun K "_law_near" "_law_near" s__law_near (He.ga K "_law_near") fd__law_near := fun_of F__law_near
    obtain ⟨fd__law_same, F__law_same⟩ := cd.def_ 19 (d := d__law_same) rfl
    have b__law_same : Binds K fd__law_same ["_law_found", "_law_due"] [] := F__law_same.bindsN fun _ _ _ _ _ _ us hl => match us, hl with | [_, _], _ => rfl
    have g__law_same : mg "_law_same" = some (.ref (He.ga K "_law_same")) := He.glo_ok X G (cd.fact 19 (f := .glo "_law_same") rfl)
    have U__law_same : Fun K "_law_same" "_law_same" s__law_same (He.ga K "_law_same") fd__law_same := fun_of F__law_same
    obtain ⟨fd__law_one_at_least, F__law_one_at_least⟩ := cd.def_ 20 (d := d__law_one_at_least) rfl
    have b__law_one_at_least : Binds K fd__law_one_at_least ["_law_left_here", "_law_most"] [] := F__law_one_at_least.bindsN fun _ _ _ _ _ _ us hl => match us, hl with | [_, _], _ => rfl
    have g__law_one_at_least : mg "_law_one_at_least" = some (.ref (He.ga K "_law_one_at_least")) := He.glo_ok X G (cd.fact 20 (f := .glo "_law_one_at_least") rfl)
    have U__law_one_at_least : Fun K "_law_one_at_least" "_law_one_at_least" s__law_one_at_least (He.ga K "_law_one_at_least") fd__law_one_at_least := fun_of F__law_one_at_least
    obtain ⟨fd__law_put, F__law_put⟩ := cd.def_ 21 (d := d__law_put) rfl
    have b__law_put : Binds K fd__law_put ["_law_web_here", "_law_place", "_law_other"] [] := F__law_put.bindsN fun _ _ _ _ _ _ us hl => match us, hl with | [_, _, _], _ => rfl
    have g__law_put : mg "_law_put" = some (.ref (He.ga K "_law_put")) := He.glo_ok X G (cd.fact 21 (f := .glo "_law_put") rfl)
    have U__law_put : Fun K "_law_put" "_law_put" s__law_put (He.ga K "_law_put") fd__law_put := fun_of F__law_put
    obtain ⟨fd_law, F_law⟩ := cd.def_ 22 (d := d_law) rfl
    have b_law : Binds K fd_law ["_law_script"] [] := F_law.bindsN fun _ _ _ _ _ _ us hl => match us, hl with | [_], _ => rfl
    have g_law : mg "law" = some (.ref (He.ga K "law")) := He.glo_ok X G (cd.fact 22 (f := .glo "law") rfl)
    have bA_law := FunD.bindsA (ps := ["_law_script"]) F_law fun _ _ _ _ _ _ us hl => match us, hl with | [_], _ => rfl
    have U_law : Fun K "law" "law" s_law (He.ga K "law") fd_law := fun_of F_law
    have B : Bts mg := ⟨He.free_ok X G (cd.fact 23 (f := .free "len") rfl), He.free_ok X G (cd.fact 24 (f := .free "range") rfl), He.free_ok X G (cd.fact 25 (f := .free "tuple") rfl), He.free_ok X G (cd.fact 26 (f := .free "list") rfl), He.free_ok X G (cd.fact 27 (f := .free "int") rfl), He.free_ok X G (cd.fact 28 (f := .free "abs") rfl), He.free_ok X G (cd.fact 29 (f := .free "min") rfl), He.free_ok X G (cd.fact 30 (f := .free "sorted") rfl), He.free_ok X G (cd.fact 31 (f := .free "set") rfl), He.free_ok X G (cd.fact 32 (f := .free "all") rfl), He.free_ok X G (cd.fact 33 (f := .free "any") rfl), He.free_ok X G (cd.fact 34 (f := .free "enumerate") rfl), He.free_ok X G (cd.fact 35 (f := .free "zip") rfl), He.free_ok X G (cd.fact 36 (f := .free "isinstance") rfl), He.free_ok X G (cd.fact 37 (f := .free "bool") rfl), He.free_ok X G (cd.fact 38 (f := .free "str") rfl), He.free_ok X G (cd.fact 39 (f := .free "dict") rfl)⟩

    have e := hfa.symm.trans g_law
    cases e
    refine ⟨fd_law, fun s v => bA_law s [v] rfl, fun base _ _ hT => ?_⟩
    have T_is_web : GxR.TabB base mg (He.cT K ("is_web", none)).1 (He.cT K ("is_web", none)).2 := (fun t => ⟨t.code, t.bm, t.gP⟩) (hT _ (List.mem_map.mpr ⟨("is_web", none), by simp [tfs], rfl⟩))
    have h_is_web : fd_is_web.code = .ref (He.cT K ("is_web", none)).1 := code_of U_is_web
    have T_is_rising : GxR.TabB base mg (He.cT K ("is_rising", none)).1 (He.cT K ("is_rising", none)).2 := (fun t => ⟨t.code, t.bm, t.gP⟩) (hT _ (List.mem_map.mpr ⟨("is_rising", none), by simp [tfs], rfl⟩))
    have h_is_rising : fd_is_rising.code = .ref (He.cT K ("is_rising", none)).1 := code_of U_is_rising
    have k_mix : Cl P w K mg base 1 "_law_mix" sp_mix := Cl.mk' U__law_mix g__law_mix b__law_mix (ok_mix U__law_mix)
    have k_left : Cl P w K mg base 1 "_law_left" (sp_left K) := Cl.mk' U__law_left g__law_left b__law_left (ok_left B U__law_left)
    have k_pick : Cl P w K mg base 2 "_law_pick" sp_pick := Cl.mk' U__law_pick g__law_pick b__law_pick (ok_pick U__law_pick k_mix)
    have k_pairs : Cl P w K mg base 1 "_law_pairs" sp_pairs := Cl.mk' U__law_pairs g__law_pairs b__law_pairs (ok_pairs B U__law_pairs)
    have k_row : Cl P w K mg base 3 "_law_row" sp_row := Cl.mk' U__law_row g__law_row b__law_row (ok_row B U__law_row k_pick)
    have k_any : Cl P w K mg base 3 "_law_any_web" sp_gen := Cl.mk' U__law_any_web g__law_any_web b__law_any_web (ok_any_web B U__law_any_web k_pick k_pairs)
    have k_rw : Cl P w K mg base 4 "_law_row_web" sp_gen := Cl.mk' U__law_row_web g__law_row_web b__law_row_web (ok_row_web B U__law_row_web k_pick k_row)
    have k_ring : Cl P w K mg base 4 "_law_ring_web" sp_gen := Cl.mk' U__law_ring_web g__law_ring_web b__law_ring_web (ok_ring_web B U__law_ring_web k_pick k_row k_pairs)
    have k_put : Cl P w K mg base 4 "_law_put_together" sp_gen := Cl.mk' U__law_put_together g__law_put_together b__law_put_together (ok_put_together B U__law_put_together k_pick k_row)
    have k_web : Cl P w K mg base 5 "_law_web" sp_web := Cl.mk' U__law_web g__law_web b__law_web (ok_web B U__law_web k_pick k_any k_rw k_put k_ring)
    have k_same : Cl P w K mg base 5 "_law_same" (sp_same 5) := Cl.mk' U__law_same g__law_same b__law_same (ok_same B U__law_same g__law_same b__law_same 5)
    have k_num : Cl P w K mg base 1 "is_number" sp_num := Cl.mk' U_is_number g_is_number b_is_number (ok_number B U_is_number)
    have k_pair : Cl P w K mg base 2 "is_pair" sp_pair := Cl.mk' U_is_pair g_is_pair b_is_pair (ok_pair B U_is_pair k_num)
    have k_tie : Cl P w K mg base 3 "is_tie" sp_tie := Cl.mk' U_is_tie g_is_tie b_is_tie (ok_tie B U_is_tie k_pair)
    have k_rising : Cl P w K mg base 2 "is_rising" (sp_rising (He.cT K ("is_rising", none)).2) := Cl.mk' U_is_rising g_is_rising b_is_rising (ok_rising B U_is_rising h_is_rising T_is_rising)
    have k_is_web : Cl P w K mg base 5 "is_web" (sp_is_web (He.cT K ("is_web", none)).2 (He.cT K ("is_rising", none)).2) :=
      Cl.mk' U_is_web g_is_web b_is_web (ok_is_web B U_is_web h_is_web T_is_web (of_decide_eq_true c.more) k_num k_tie k_rising)
    have k_near : Cl P w K mg base 1 "_law_near" sp_near := Cl.mk' U__law_near g__law_near b__law_near (ok_near B U__law_near)
    have k_part : Cl P w K mg base 1 "part_of" sp_part := Cl.mk' U_part_of g_part_of b_part_of (ok_part_of B U_part_of)
    have k_beh : Cl P w K mg base 1 "numbers_behind" sp_behind := Cl.mk' U_numbers_behind g_numbers_behind b_numbers_behind (ok_behind B U_numbers_behind)
    have k_pf : Cl P w K mg base 2 "put_for" sp_put := Cl.mk' U_put_for g_put_for b_put_for (ok_put_for B U_put_for k_beh)
    have k_lput : Cl P w K mg base 2 "_law_put" sp_put := Cl.mk' U__law_put g__law_put b__law_put (ok_lput B U__law_put k_near)
    have k_one : Cl P w K mg base 6 "_law_one_at_least" sp_one := Cl.mk' U__law_one_at_least g__law_one_at_least b__law_one_at_least (ok_one B U__law_one_at_least k_web)
    exact ok_law B U_law k_left k_one k_pick k_pf k_lput k_part k_same k_is_web

end My
open PySem PySem.W PySem.Calls PyProof.Rows
set_option maxHeartbeats 0 in
theorem PySem.Challenge.cw_pointedties_k05_webs_put_for_places_holds : PySem.Challenge.rw_pointedties_k05_webs_put_for_places.Holds := by
  w_on; o_law
  refine HandSHeadRun.head_any (r := My.Rw) (q := view My.Rw.prog [25]) (H := My.hk) (ob := My.ob) (M := 4000) (loose := My.others) (d := HandSHeadRun.topDef My.Rw.prog 25) (kwd := []) My.ob_eq
    (by kernel_rfl) (fun s => by kernel_rfl) My.run (by kernel_rfl) (by kernel_rfl) (by kernel_rfl) (by rfl) (by first | assumption | decide +kernel) (by decide +kernel) ⟨rfl, rfl, rfl, rfl, rfl, by decide +kernel⟩ ?hw ?hc
  case hw => w_witness2
  case hc =>
    refine LamX.walk_ofTsE (l := PySem.Challenge.rw_pointedties_k05_webs_put_for_places) (n := 63) (k := 30) (x := "_law_script") (CX := fun _ => L2.CX0) rfl (by decide) (by kernel_rfl) ⟨rfl, by decide, by decide⟩ ?F (fun _ _ _ _ _ z => z)
    intro w mg fa h Y G hmg0
    obtain ⟨K, KX, c⟩ := Y
    have hmg : mg ("law" : PySem.Str) = some (.ref fa) := by
      have e : (HandSHeadRun.topDef My.Rw.prog 25).name = ("law" : PySem.Str) := by kernel_rfl
      rw [← e]; exact hmg0
    obtain ⟨fd, hb, hF⟩ := My.law_ok (P := (PySem.Challenge.rw_pointedties_k05_webs_put_for_places).prog) (w := w) KX G hmg c
    have inT : ∀ p ∈ My.tfs.map (He.cT K), ∃ q ∈ My.tfs, p = He.cT K q := fun p hp => by
      obtain ⟨q, hq, e⟩ := List.mem_map.mp hp
      exact ⟨q, hq, e.symm⟩
    refine ⟨K, KX, fd, My.tfs.map (He.cT K), _, fun p hp => ?_, fun p hp => ?_, fun p hp => ?_, hb, fun H a ns hl _ hT hS => ?_, hF⟩
    · obtain ⟨q, hq, rfl⟩ := inT p hp; exact c.empty q hq
    · obtain ⟨q, hq, rfl⟩ := inT p hp; exact c.out q hq
    · obtain ⟨q, hq, rfl⟩ := inT p hp; exact PySem.W.codeHd_of_K KX (c.hd q hq)
    · exact ⟨a, ns, rfl, hS, hl, ⟨_, hT _ (List.mem_map.mpr ⟨_, by simp [My.tfs], rfl⟩), True.intro⟩, ⟨_, hT _ (List.mem_map.mpr ⟨_, by simp [My.tfs], rfl⟩), True.intro⟩, fun _ => rfl⟩
