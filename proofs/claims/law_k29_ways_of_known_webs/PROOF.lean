import PyProof.Rows.All
import Wide.All
import OpenK.AllK
import Wide.FinOn
import HandS.ForMost
import HandS.More
import HandS.SortRule
import HandS.SortInts
import HandS.TupSets
import HandS.Deep
import HandS.IsInst
import HandS.DictComp
import HandS.Style
import HandS.Flow
import HandS.TupAny
import HandS.Walk
import HandS.AnyAll
import HandS.GenOver
import PyProof.GenQ
import PyProof.GenComp
import PyProof.ConsumeS
import HandS.Zip
import HandS.Defaults
import PySem.Challenge.RW_pointedties_k29_ways_of_known_webs
import KE.KDictCopyH
import KE.KDictPairs
import HandS.HeadWalk
import PyProof.ReprRoads
import HandS.SetFor
import HandS.Strs
import HandS.Conv
import HandS.Small
import KE.SortData
import KE.KSortTup
import KE.DataMinMax
import KE.KStateDown
import HandS.Head0
import HandS.Head1
import HandS.Head2
import HandS.HeadEnd
import HandS.HeadHook1
import HandS.HeadHook2
import HandS.HeadHook3
import HandS.HeadHook4
set_option Elab.async false
set_option linter.all false
set_option maxRecDepth 100000
set_option maxHeartbeats 8000000
namespace My
open PySem PySem.Spec PyProof.Rows L2
def topS (i : Nat) : Stmt := PySem.Challenge.pw_pointedties_k29_ways_of_known_webs.main.body.getD i (.Pass ⟨0, 0, 0, 0⟩)
abbrev s__law_mix : Stmt := topS 28
abbrev s__law_left : Stmt := topS 29
abbrev s__law_pick : Stmt := topS 30
abbrev s__law_pairs : Stmt := topS 32
abbrev s__law_row : Stmt := topS 33
abbrev s__law_same : Stmt := topS 34
abbrev s_tie_of : Stmt := topS 2
abbrev s_tied : Stmt := topS 1
abbrev s_gaps_of : Stmt := topS 3
abbrev s_is_parting : Stmt := topS 19
abbrev s_least_among : Stmt := topS 18
abbrev s__law_folded : Stmt := topS 31
abbrev s_joined_sets : Stmt := topS 21
abbrev s_greatest_modules : Stmt := topS 22
abbrev s_tree_of : Stmt := topS 20
abbrev s_parts_of : Stmt := topS 17
abbrev s_tied_places : Stmt := topS 7
abbrev s_forced_by : Stmt := topS 8
abbrev s_turned_about : Stmt := topS 5
abbrev s_forcings_of : Stmt := topS 9
abbrev s_steps_from : Stmt := topS 10
abbrev s_classes_in : Stmt := topS 11
abbrev s_way_in : Stmt := topS 12
abbrev s_first_round : Stmt := topS 15
abbrev s_can_be_pointed : Stmt := topS 14
abbrev s_count_between : Stmt := topS 26
abbrev s_count_within : Stmt := topS 25
abbrev s_count_ways : Stmt := topS 24
abbrev s__law_orders : Stmt := topS 35
abbrev s__law_piece : Stmt := topS 36
abbrev s__law_known : Stmt := topS 37
abbrev s_law : Stmt := topS 38
def d_tied : He.DefD := ⟨("tied", none), "tied", "tied", defArgs s_tied, defBody s_tied, defScope s_tied, [], []⟩
def d_tie_of : He.DefD := ⟨("tie_of", none), "tie_of", "tie_of", defArgs s_tie_of, defBody s_tie_of, defScope s_tie_of, [], []⟩
def d_gaps_of : He.DefD := ⟨("gaps_of", none), "gaps_of", "gaps_of", defArgs s_gaps_of, defBody s_gaps_of, defScope s_gaps_of, [], []⟩
def d_turned_about : He.DefD := ⟨("turned_about", none), "turned_about", "turned_about", defArgs s_turned_about, defBody s_turned_about, defScope s_turned_about, [], []⟩
def d_tied_places : He.DefD := ⟨("tied_places", none), "tied_places", "tied_places", defArgs s_tied_places, defBody s_tied_places, defScope s_tied_places, [], []⟩
def d_forced_by : He.DefD := ⟨("forced_by", none), "forced_by", "forced_by", defArgs s_forced_by, defBody s_forced_by, defScope s_forced_by, [], []⟩
def d_forcings_of : He.DefD := ⟨("forcings_of", none), "forcings_of", "forcings_of", defArgs s_forcings_of, defBody s_forcings_of, defScope s_forcings_of, [], []⟩
def d_steps_from : He.DefD := ⟨("steps_from", none), "steps_from", "steps_from", defArgs s_steps_from, defBody s_steps_from, defScope s_steps_from, [], []⟩
def d_classes_in : He.DefD := ⟨("classes_in", none), "classes_in", "classes_in", defArgs s_classes_in, defBody s_classes_in, defScope s_classes_in, [], []⟩
def d_way_in : He.DefD := ⟨("way_in", none), "way_in", "way_in", defArgs s_way_in, defBody s_way_in, defScope s_way_in, [], []⟩
def d_can_be_pointed : He.DefD := ⟨("can_be_pointed", none), "can_be_pointed", "can_be_pointed", defArgs s_can_be_pointed, defBody s_can_be_pointed, defScope s_can_be_pointed, [], []⟩
def d_first_round : He.DefD := ⟨("first_round", none), "first_round", "first_round", defArgs s_first_round, defBody s_first_round, defScope s_first_round, [], []⟩
def d_parts_of : He.DefD := ⟨("parts_of", none), "parts_of", "parts_of", defArgs s_parts_of, defBody s_parts_of, defScope s_parts_of, [], []⟩
def d_least_among : He.DefD := ⟨("least_among", none), "least_among", "least_among", defArgs s_least_among, defBody s_least_among, defScope s_least_among, [], []⟩
def d_is_parting : He.DefD := ⟨("is_parting", none), "is_parting", "is_parting", defArgs s_is_parting, defBody s_is_parting, defScope s_is_parting, [], []⟩
def d_tree_of : He.DefD := ⟨("tree_of", none), "tree_of", "tree_of", defArgs s_tree_of, defBody s_tree_of, defScope s_tree_of, [], []⟩
def d_joined_sets : He.DefD := ⟨("joined_sets", none), "joined_sets", "joined_sets", defArgs s_joined_sets, defBody s_joined_sets, defScope s_joined_sets, [], []⟩
def d_greatest_modules : He.DefD := ⟨("greatest_modules", none), "greatest_modules", "greatest_modules", defArgs s_greatest_modules, defBody s_greatest_modules, defScope s_greatest_modules, [], []⟩
def d_count_ways : He.DefD := ⟨("count_ways", none), "count_ways", "count_ways", defArgs s_count_ways, defBody s_count_ways, defScope s_count_ways, [], []⟩
def d_count_within : He.DefD := ⟨("count_within", none), "count_within", "count_within", defArgs s_count_within, defBody s_count_within, defScope s_count_within, [], []⟩
def d_count_between : He.DefD := ⟨("count_between", none), "count_between", "count_between", defArgs s_count_between, defBody s_count_between, defScope s_count_between, [], []⟩
def d__law_mix : He.DefD := ⟨("_law_mix", none), "_law_mix", "_law_mix", defArgs s__law_mix, defBody s__law_mix, defScope s__law_mix, [], []⟩
def d__law_left : He.DefD := ⟨("_law_left", none), "_law_left", "_law_left", defArgs s__law_left, defBody s__law_left, defScope s__law_left, [], []⟩
def d__law_pick : He.DefD := ⟨("_law_pick", none), "_law_pick", "_law_pick", defArgs s__law_pick, defBody s__law_pick, defScope s__law_pick, [], []⟩
def d__law_folded : He.DefD := ⟨("_law_folded", none), "_law_folded", "_law_folded", defArgs s__law_folded, defBody s__law_folded, defScope s__law_folded, [], []⟩
def d__law_pairs : He.DefD := ⟨("_law_pairs", none), "_law_pairs", "_law_pairs", defArgs s__law_pairs, defBody s__law_pairs, defScope s__law_pairs, [], []⟩
def d__law_row : He.DefD := ⟨("_law_row", none), "_law_row", "_law_row", defArgs s__law_row, defBody s__law_row, defScope s__law_row, [], []⟩
def d__law_same : He.DefD := ⟨("_law_same", none), "_law_same", "_law_same", defArgs s__law_same, defBody s__law_same, defScope s__law_same, [], []⟩
def d__law_orders : He.DefD := ⟨("_law_orders", none), "_law_orders", "_law_orders", defArgs s__law_orders, defBody s__law_orders, defScope s__law_orders, [], []⟩
def d__law_piece : He.DefD := ⟨("_law_piece", none), "_law_piece", "_law_piece", defArgs s__law_piece, defBody s__law_piece, defScope s__law_piece, [], []⟩
def d__law_known : He.DefD := ⟨("_law_known", none), "_law_known", "_law_known", defArgs s__law_known, defBody s__law_known, defScope s__law_known, [], []⟩
def d_law : He.DefD := ⟨("law", none), "law", "law", defArgs s_law, defBody s_law, defScope s_law, [], []⟩
def fns : List He.DefD := [d_tied, d_tie_of, d_gaps_of, d_turned_about, d_tied_places, d_forced_by, d_forcings_of, d_steps_from, d_classes_in, d_way_in, d_can_be_pointed, d_first_round, d_parts_of, d_least_among, d_is_parting, d_tree_of, d_joined_sets, d_greatest_modules, d_count_ways, d_count_within, d_count_between, d__law_mix, d__law_left, d__law_pick, d__law_folded, d__law_pairs, d__law_row, d__law_same, d__law_orders, d__law_piece, d__law_known, d_law]
def fas : List He.Fa := [.glo "tied", .glo "tie_of", .glo "gaps_of", .glo "turned_about", .glo "tied_places", .glo "forced_by", .glo "forcings_of", .glo "steps_from", .glo "classes_in", .glo "way_in", .glo "can_be_pointed", .glo "first_round", .glo "parts_of", .glo "least_among", .glo "is_parting", .glo "tree_of", .glo "joined_sets", .glo "greatest_modules", .glo "count_ways", .glo "count_within", .glo "count_between", .glo "_law_mix", .glo "_law_left", .glo "_law_pick", .glo "_law_folded", .glo "_law_pairs", .glo "_law_row", .glo "_law_same", .glo "_law_orders", .glo "_law_piece", .glo "_law_known", .glo "law", .free "len", .free "range", .free "tuple", .free "list", .free "int", .free "abs", .free "min", .free "sorted", .free "set", .free "all", .free "any", .free "enumerate", .free "zip", .free "isinstance", .free "bool", .free "str", .free "dict", .free "max", .free "reversed", .free "sum"]
def tfs : List He.Defn := [("joined_sets", none)]
abbrev Rw : PySem.W.OpenRow := PySem.W.OpenLaw.row PySem.Challenge.rw_pointedties_k29_ways_of_known_webs
def exf (K : PySem.W.Frag) : Bool := true
abbrev hk : PySem.W.Hook := He.hookX 4 fas fns [] tfs exf
def ob (s : PySem.W.SharedT) : He.AlX := He.obsX 4 fas fns [] tfs exf (HandSHeadRun.getT s)
theorem ob_eq (s : PySem.W.SharedT) : ob s = hk.obs s.abs := He.obsX_eq (HandSHeadRun.getT_eq s)
abbrev others : List Str := [("tied" : Str), ("tie_of" : Str), ("gaps_of" : Str), ("turned_about" : Str), ("tied_places" : Str), ("forced_by" : Str), ("forcings_of" : Str), ("steps_from" : Str), ("classes_in" : Str), ("way_in" : Str), ("can_be_pointed" : Str), ("first_round" : Str), ("parts_of" : Str), ("least_among" : Str), ("is_parting" : Str), ("tree_of" : Str), ("joined_sets" : Str), ("greatest_modules" : Str), ("count_ways" : Str), ("count_within" : Str), ("count_between" : Str), ("_law_mix" : Str), ("_law_left" : Str), ("_law_pick" : Str), ("_law_folded" : Str), ("_law_pairs" : Str), ("_law_row" : Str), ("_law_same" : Str), ("_law_orders" : Str), ("_law_piece" : Str), ("_law_known" : Str), ("__name__" : Str), ("__name__" : Str), ("__name__" : Str), ("__name__" : Str), ("__name__" : Str), ("__name__" : Str), ("__name__" : Str)]
theorem run (w : World) : HandSHeadRun.RunEq Rw (PySem.W.view Rw.prog [38]) hk ob 4000 others w := by
  intro os; kernel_rfl
end My
set_option Elab.async false
set_option linter.all false
set_option maxRecDepth 100000
namespace My
open PySem PySem.Spec PyProof.Rows L2

/-! ### a def that may be called by its name -/
structure Cl (P : Program) (w : World) (K : PySem.W.Frag) (mg : Str → Option Value) (base : Heap)
    (k : Nat) (x : Str) (sp : Sp) : Prop where
  ex : ∃ (f : Addr) (fd : FuncData) (ps : List Str), FnOk P w K mg base CX0 k f fd ps sp ∧
    mg x = some (.ref f) ∧ PySem.W.keepIn K (.ref f) = true ∧ Binds K fd ps []
theorem Cl.mk' {P : Program} {w : World} {K : PySem.W.Frag} {mg : Str → Option Value} {base : Heap} {k : Nat} {x : Str} {sp : Sp}
    {st : Stmt} {f : Addr} {fd : FuncData} {ps : List Str} (F : Fun K x x st f fd) (hm : mg x = some (.ref f))
    (hb : Binds K fd ps []) (ok : FnOk P w K mg base CX0 k f fd ps sp) : Cl P w K mg base k x sp := ⟨f, fd, ps, ok, hm, F.kp, hb⟩
theorem pe_c {X : Cx} {k j : Nat} {x : Str} {sp : Sp} {p pos : Pos} {e : Expr} {es : List Expr} {t : TA}
    (c : Cl X.prog X.w X.K X.mg X.base k x sp) (hr : Room j X.A) (hk : k ≤ j) (hg : Gl X x) (ha : PA X (e :: es) t)
    (h1 : (x == ("__debug__" : Str)) = false := by decide)
    (h2 : starEach (e :: es) X.env = (false, eval e X.env) :: starEach es X.env := by rfl)
    (h3 : (backTo pos (starEach es X.env)).any (·.1) = false := by rfl) :
    PE X (.Call (.Name x p) (e :: es) [] pos) (tCall sp [] E0 t) := by
  obtain ⟨f, fd, ps, F, hm, kp, b⟩ := c.ex
  exact pe_call F (hr.mono hk) hg hm kp b .nil pass0 ha h1 h2 h3

/-! ### heaps: all stays but the list of draws at L -/
def Fr (L : Addr) (H H' : Hp) : Prop := ∀ b o, b ≠ L → H b = some o → H' b = some o
theorem Fr.refl (L : Addr) (H : Hp) : Fr L H H := fun _ _ _ h => h
theorem Fr.trans {L : Addr} {H H1 H2 : Hp} (a : Fr L H H1) (b : Fr L H1 H2) : Fr L H H2 :=
  fun c o n h => b c o n (a c o n h)
theorem Fr.of {L : Addr} {H H' : Hp} (a : Same H H') : Fr L H H' := fun b o _ h => a b o h
theorem same_new {H : Hp} {p : Addr} {o : HO} (h : H p = none) : Same H (upd H p o) := fun b x e => by
  rw [upd_ne (ne_of_none e h)]; exact e
theorem Fr.new {L : Addr} {H : Hp} {p : Addr} {o : HO} (h : H p = none) : Fr L H (upd H p o) := Fr.of (same_new h)
/-- what is new to the first heap may change -/
theorem Fr.put {L : Addr} {H H' : Hp} {p : Addr} {o : HO} (a : Fr L H H') (h : H p = none) : Fr L H (upd H' p o) :=
  fun b x n e => by rw [upd_ne (ne_of_none e h)]; exact a b x n e
theorem Same.put {H H' : Hp} {p : Addr} {o : HO} (a : Same H H') (h : H p = none) : Same H (upd H' p o) :=
  fun b x e => by rw [upd_ne (ne_of_none e h)]; exact a b x e
theorem Fr.putL {L : Addr} {H H' : Hp} {o : HO} (a : Fr L H H') : Fr L H (upd H' L o) :=
  fun b x n e => by rw [upd_ne n]; exact a b x n e

/-! ### the list of draws -/
def Lf (H : Hp) (L : Addr) (c : Int) : Prop :=
  ∃ x y z : Int, H L = some (.lst [.int x, .int y, .int z]) ∧ 0 ≤ x ∧ 0 ≤ z ∧ z ≤ c
theorem Lf.mono {H : Hp} {L : Addr} {c d : Int} (h : Lf H L c) (e : c ≤ d) : Lf H L d := by
  obtain ⟨x, y, z, h1, h2, h3, h4⟩ := h
  exact ⟨x, y, z, h1, h2, h3, Int.le_trans h4 e⟩
theorem Lf.same {H H' : Hp} {L : Addr} {c : Int} (h : Lf H L c) (e : Same H H') : Lf H' L c := by
  obtain ⟨x, y, z, h1, h2⟩ := h
  exact ⟨x, y, z, e _ _ h1, h2⟩
theorem Lf.new {H : Hp} {L p : Addr} {c : Int} {o : HO} (h : Lf H L c) (e : H p = none) : Lf (upd H p o) L c := h.same (same_new e)
theorem Lf.ne {H : Hp} {L p : Addr} {c : Int} (h : Lf H L c) (e : H p = none) : p ≠ L := by
  obtain ⟨x, y, z, h1, h2⟩ := h
  rintro rfl; rw [h1] at e; cases e
theorem Lf.put {H : Hp} {L p : Addr} {c : Int} {o : HO} (h : Lf H L c) (e : p ≠ L) : Lf (upd H p o) L c := by
  obtain ⟨x, y, z, h1, h2⟩ := h
  exact ⟨x, y, z, by rw [upd_ne (Ne.symm e)]; exact h1, h2⟩
theorem Lf.free {H H' : Hp} {L p : Addr} {c' : Int} (a : Fr L H H') (h' : Lf H' L c') (e : H' p = none) : H p = none := by
  have n := h'.ne e
  cases q : H p with
  | none => rfl
  | some o => rw [a p o n q] at e; cases e
theorem Lf.tup {H H' : Hp} {L p : Addr} {c : Int} {xs : List V} (a : Fr L H H') (h : Lf H L c) (e : H p = some (.tup xs)) : H' p = some (.tup xs) := by
  refine a p _ ?_ e
  obtain ⟨x, y, z, h1, h2⟩ := h
  rintro rfl; rw [h1] at e; cases e

/-! ### ties, rows of ties, webs -/
def Tie (H : Hp) (v : V) (t : Int × Int) : Prop := ∃ p, v = .ref p ∧ H p = some (.tup [.int t.1, .int t.2])
def Ties (H : Hp) : List V → List (Int × Int) → Prop
  | [], [] => True
  | v :: vs, t :: ts => Tie H v t ∧ Ties H vs ts
  | _, _ => False
/-- tuples stay -/
def Tst (H H' : Hp) : Prop := ∀ b xs, H b = some (.tup xs) → H' b = some (.tup xs)
theorem Tst.refl (H : Hp) : Tst H H := fun _ _ h => h
theorem Tst.trans {H H1 H2 : Hp} (a : Tst H H1) (b : Tst H1 H2) : Tst H H2 := fun c o h => b c o (a c o h)
theorem Same.tst {H H' : Hp} (a : Same H H') : Tst H H' := fun b xs h => a b _ h
theorem Lf.tst {H H' : Hp} {L : Addr} {c : Int} (h : Lf H L c) (a : Fr L H H') : Tst H H' := fun b xs e => Lf.tup a h e
theorem tst_new {H : Hp} {p : Addr} {o : HO} (h : H p = none) : Tst H (upd H p o) := Same.tst (same_new h)
theorem tst_put {H : Hp} {p : Addr} {o : HO} {xs : List V} (h : H p = some (.lst xs)) : Tst H (upd H p o) := fun b ys e => by
  rw [upd_ne]
  · exact e
  · rintro rfl; rw [h] at e; cases e
theorem Tie.mono {H H' : Hp} {v : V} {t : Int × Int} (a : Tst H H') (h : Tie H v t) : Tie H' v t := by
  obtain ⟨p, e, h⟩ := h
  exact ⟨p, e, a _ _ h⟩
theorem Ties.mono {H H' : Hp} (a : Tst H H') : ∀ {vs : List V} {ts : List (Int × Int)}, Ties H vs ts → Ties H' vs ts
  | [], [], _ => trivial
  | _ :: _, _ :: _, h => ⟨h.1.mono a, Ties.mono a h.2⟩
  | [], _ :: _, h => h.elim
  | _ :: _, [], h => h.elim
theorem Ties.app {H : Hp} : ∀ {vs : List V} {ts : List (Int × Int)} {us : List V} {rs : List (Int × Int)}, Ties H vs ts → Ties H us rs → Ties H (vs ++ us) (ts ++ rs)
  | [], [], _, _, _, k => k
  | _ :: _, _ :: _, _, _, h, k => ⟨h.1, Ties.app h.2 k⟩
  | [], _ :: _, _, _, h, _ => h.elim
  | _ :: _, [], _, _, h, _ => h.elim
theorem Ties.len {H : Hp} : ∀ {vs : List V} {ts : List (Int × Int)}, Ties H vs ts → vs.length = ts.length
  | [], [], _ => rfl
  | _ :: _, _ :: _, h => congrArg (· + 1) (Ties.len h.2)
  | [], _ :: _, h => h.elim
  | _ :: _, [], h => h.elim
theorem Ties.at {H : Hp} : ∀ {vs : List V} {ts : List (Int × Int)} {i : Nat} {v : V}, Ties H vs ts → vs[i]? = some v → ∃ t, ts[i]? = some t ∧ Tie H v t
  | [], [], _, _, _, e => by cases e
  | _ :: _, t :: _, 0, _, h, e => by cases e; exact ⟨t, rfl, h.1⟩
  | _ :: _, _ :: _, i + 1, _, h, e => Ties.at (i := i) h.2 e
  | [], _ :: _, _, _, h, _ => h.elim
  | _ :: _, [], _, _, h, _ => h.elim
theorem Ties.one {H : Hp} {v : V} {t : Int × Int} (h : Tie H v t) : Ties H [v] [t] := ⟨h, trivial⟩
theorem Tie.new {H : Hp} {p : Addr} {a b : Int} : Tie (upd H p (.tup [.int a, .int b])) (.ref p) (a, b) := ⟨p, rfl, upd_same⟩

/-! ### what a web is -/
def ltT (s t : Int × Int) : Prop := s.1 < t.1 ∨ (s.1 = t.1 ∧ s.2 < t.2)
def WOk (n : Nat) (ts : List (Int × Int)) : Prop := ts.Pairwise ltT ∧ ∀ t ∈ ts, 0 ≤ t.1 ∧ t.1 < t.2 ∧ t.2 < (n : Int)
def Web (H : Hp) (v : V) (n : Nat) (ts : List (Int × Int)) : Prop :=
  ∃ p q vs, v = .ref p ∧ H p = some (.tup [.int (n : Int), .ref q]) ∧ H q = some (.tup vs) ∧ Ties H vs ts
theorem Web.mono {H H' : Hp} {v : V} {n : Nat} {ts : List (Int × Int)} (a : Tst H H') (h : Web H v n ts) : Web H' v n ts := by
  obtain ⟨p, q, vs, e, h1, h2, h3⟩ := h
  exact ⟨p, q, vs, e, a _ _ h1, a _ _ h2, h3.mono a⟩

theorem sz {n : Nat} (h : n ≤ 100000) : n ≤ sizeLine := Nat.le_trans h (by decide)
theorem sz' {n : Nat} (h : n < 100000) : n < sizeLine := Nat.lt_of_lt_of_le h (by decide)

theorem bi (b : Bool) : -(2 ^ 64) < (if b = true then (1 : Int) else 0) ∧ (if b = true then (1 : Int) else 0) < 2 ^ 64 ∧ 0 ≤ (if b = true then (1 : Int) else 0) := by
  cases b <;> decide

theorem yes {σ : L2.St} {H : Hp} {R N : Hp → Prop} (h : R H) : tYes σ H (fun b H3 => if b = true then R H3 else N H3) := by
  show (if true = true then R H else N H)
  exact iteT h

/-! ### all pairs, rising -/
def prow (a : Nat) (j : Nat) : List (Int × Int) := (List.range j).map fun (i : Nat) => ((a : Int), (a : Int) + 1 + (i : Int))
def pup (n i : Nat) : List (Int × Int) := (List.range i).flatMap fun a => prow a (n - (a + 1))
theorem prow_succ (a j : Nat) : prow a (j + 1) = prow a j ++ [((a : Int), (a : Int) + 1 + (j : Int))] := by
  unfold prow; rw [List.range_succ, List.map_append]; rfl
theorem pup_succ (n i : Nat) : pup n (i + 1) = pup n i ++ prow i (n - (i + 1)) := by
  unfold pup; rw [List.range_succ, List.flatMap_append, List.flatMap_singleton]
theorem prow_len (a j : Nat) : (prow a j).length = j := by unfold prow; rw [List.length_map, List.length_range]
theorem mem_prow {a j : Nat} {t : Int × Int} : t ∈ prow a j ↔ t.1 = a ∧ (a : Int) < t.2 ∧ t.2 < (a : Int) + 1 + j := by
  unfold prow
  rw [List.mem_map]
  constructor
  · rintro ⟨i, hi, rfl⟩
    have := List.mem_range.mp hi
    refine ⟨rfl, ?_, ?_⟩ <;> dsimp only <;> omega
  · rintro ⟨h1, h2, h3⟩
    refine ⟨(t.2 - a - 1).toNat, List.mem_range.mpr (by omega), ?_⟩
    cases t with
    | mk x y =>
      dsimp only at h1 h2 h3
      rw [h1]
      congr 1
      omega
theorem mem_pup {n i : Nat} {t : Int × Int} (hi : i ≤ n) : t ∈ pup n i ↔ 0 ≤ t.1 ∧ t.1 < i ∧ t.1 < t.2 ∧ t.2 < n := by
  unfold pup
  rw [List.mem_flatMap]
  constructor
  · rintro ⟨a, ha, h⟩
    have := List.mem_range.mp ha
    have := mem_prow.mp h
    omega
  · rintro ⟨h1, h2, h3, h4⟩
    refine ⟨t.1.toNat, List.mem_range.mpr (by omega), mem_prow.mpr ?_⟩
    omega
theorem prow_pw (a : Nat) : ∀ j, (prow a j).Pairwise ltT
  | 0 => by exact List.Pairwise.nil
  | j + 1 => by
    rw [prow_succ, List.pairwise_append]
    refine ⟨prow_pw a j, List.pairwise_singleton _ _, fun s hs t ht => ?_⟩
    have h := mem_prow.mp hs
    have e := List.mem_singleton.mp ht
    subst e
    refine .inr ⟨h.1, ?_⟩
    show s.2 < (a : Int) + 1 + j
    omega
theorem pup_pw (n : Nat) : ∀ i, i ≤ n → (pup n i).Pairwise ltT
  | 0, _ => by exact List.Pairwise.nil
  | i + 1, h => by
    rw [pup_succ, List.pairwise_append]
    refine ⟨pup_pw n i (by omega), prow_pw i _, fun s hs t ht => ?_⟩
    have h1 := (mem_pup (by omega)).mp hs
    have h2 := mem_prow.mp ht
    refine .inl ?_
    omega
theorem pup_len (n : Nat) : ∀ i, (pup n i).length ≤ i * n
  | 0 => Nat.zero_le _
  | i + 1 => by
    rw [pup_succ, List.length_append, prow_len, Nat.succ_mul]
    have := pup_len n i
    omega
theorem pup_len' {n i : Nat} (hn : n ≤ 100) (hi : i ≤ n) : (pup n i).length ≤ 10000 :=
  Nat.le_trans (pup_len n i) (Nat.le_trans (Nat.mul_le_mul (Nat.le_trans hi hn) hn) (by decide))
theorem wok_sub {n : Nat} {ts : List (Int × Int)} (h : ts.Sublist (pup n n)) : WOk n ts :=
  ⟨(pup_pw n n (Nat.le_refl n)).sublist h, fun t ht => by
    have := (mem_pup (Nat.le_refl n)).mp (h.subset ht)
    omega⟩

/-! ### the numbers below n -/
def up (n : Nat) : List Int := (List.range n).map fun (i : Nat) => (i : Int)
theorem up_succ (n : Nat) : up (n + 1) = up n ++ [(n : Int)] := by unfold up; rw [List.range_succ, List.map_append]; rfl
theorem up_len (n : Nat) : (up n).length = n := by unfold up; rw [List.length_map, List.length_range]
theorem mem_up {n : Nat} {x : Int} : x ∈ up n ↔ 0 ≤ x ∧ x < n := by
  unfold up
  rw [List.mem_map]
  constructor
  · rintro ⟨i, hi, rfl⟩
    have := List.mem_range.mp hi
    omega
  · intro h
    exact ⟨x.toNat, List.mem_range.mpr (by omega), by omega⟩
theorem up_nodup (n : Nat) : (up n).Nodup := by
  unfold up
  rw [List.nodup_iff_pairwise_ne, List.pairwise_map]
  exact (List.nodup_iff_pairwise_ne.mp List.nodup_range).imp fun h e => h (by omega)
theorem ins_perm {α : Type} (l : List α) (x : α) (k : Nat) : (l.take k ++ [x] ++ l.drop k).Perm (l ++ [x]) := by
  have h : (l.take k ++ [x] ++ l.drop k).Perm (l.take k ++ (l.drop k ++ [x])) := by
    rw [List.append_assoc]
    exact List.Perm.append_left _ List.perm_append_comm
  refine h.trans ?_
  rw [← List.append_assoc, List.take_append_drop]

/-! ### where a number stands in a list -/
theorem all_flat (ns : List Int) : (ns.map V.int).all flatV = true := by
  rw [List.all_map, List.all_eq_true]; intro x _; rfl
theorem idx_at {ns : List Int} {x : Int} (h : x ∈ ns) : (ns.map V.int)[ns.idxOf x]? = some (.int x) := by
  have hl := List.idxOf_lt_length_of_mem h
  rw [List.getElem?_map, List.getElem?_eq_getElem hl, List.getElem_idxOf hl]; rfl
theorem idx_first {ns : List Int} {x : Int} : ∀ (m : Nat) (z : V), m < ns.idxOf x → (ns.map V.int)[m]? = some z → eqV z (.int x) = false := by
  intro m z hm hz
  rw [List.getElem?_map] at hz
  have hml : m < ns.length := Nat.lt_of_lt_of_le hm List.idxOf_le_length
  rw [List.getElem?_eq_getElem hml] at hz
  cases hz
  have : ns[m] ≠ x := fun e => by
    have := List.not_of_lt_findIdx (xs := ns) (p := fun y => y == x) hm
    rw [e] at this
    simp at this
  exact beq_eq_false_iff_ne.mpr this

/-! ### readings by name -/
abbrev rLenK (K : PySem.W.Frag) : List V → Hp → VK → Prop :=
  fun xs H Q => ∃ p ys, xs = [.ref p] ∧ (SqL K H p ys ∨ SqT K H p ys) ∧ Q (.int ys.length) H
abbrev rTupK (K : PySem.W.Frag) : List V → Hp → VK → Prop :=
  fun xs H Q => ∃ p ys, xs = [.ref p] ∧ ((SqL K H p ys ∧ ∀ l, H l = none → Q (.ref l) (upd H l (.tup ys))) ∨ (SqT K H p ys ∧ Q (.ref p) H))
abbrev rLstK (K : PySem.W.Frag) : List V → Hp → VK → Prop :=
  fun xs H Q => ∃ p ys, xs = [.ref p] ∧ (SqL K H p ys ∨ SqT K H p ys) ∧ ∀ l, H l = none → Q (.ref l) (upd H l (.lst ys))

/-! ### the built-in names -/
structure Bts (mg : Str → Option Value) : Prop where
  len : mg "len" = none
  range : mg "range" = none
  tuple : mg "tuple" = none
  list : mg "list" = none
  int : mg "int" = none
  abs : mg "abs" = none
  min : mg "min" = none
  sorted : mg "sorted" = none
  set : mg "set" = none
  all : mg "all" = none
  any : mg "any" = none
  enumerate : mg "enumerate" = none
  zip : mg "zip" = none
  isinstance : mg "isinstance" = none
  bool : mg "bool" = none
  str : mg "str" = none
  dict : mg "dict" = none
  max : mg "max" = none
  reversed : mg "reversed" = none
  sum : mg "sum" = none
end My

set_option Elab.async false
set_option linter.all false
set_option maxRecDepth 100000
namespace My
open PySem PySem.Spec PyProof.Rows L2

/-! ### the pair that a value tells -/
theorem Tie.inj {H : Hp} {v : V} {s t : Int × Int} (h : Tie H v s) (k : Tie H v t) : s = t := by
  obtain ⟨p, rfl, h⟩ := h
  obtain ⟨q, e, k⟩ := k
  cases e
  rw [h] at k
  cases s; cases t
  cases k
  rfl
open Classical in
noncomputable def key (H : Hp) (v : V) : Int × Int := if h : ∃ t, Tie H v t then h.choose else (0, 0)
theorem key_of {H : Hp} {v : V} {t : Int × Int} (h : Tie H v t) : key H v = t := by
  unfold key
  rw [dif_pos ⟨t, h⟩]
  exact (Exists.choose_spec (⟨t, h⟩ : ∃ t, Tie H v t)).inj h
theorem Ties.key {H : Hp} : ∀ {vs : List V} {ts : List (Int × Int)}, Ties H vs ts → ts = vs.map (My.key H)
  | [], [], _ => rfl
  | _ :: _, _ :: _, h => by rw [List.map_cons, key_of h.1, ← Ties.key h.2]
  | [], _ :: _, h => h.elim
  | _ :: _, [], h => h.elim
theorem Ties.all {H : Hp} : ∀ {vs : List V} {ts : List (Int × Int)}, Ties H vs ts → ∀ v ∈ vs, Tie H v (My.key H v)
  | [], [], _, _, hv => by cases hv
  | _ :: _, _ :: _, h, v, hv => by
    rcases List.mem_cons.mp hv with rfl | hv
    · rw [key_of h.1]; exact h.1
    · exact Ties.all h.2 v hv
  | [], _ :: _, h, _, _ => h.elim
  | _ :: _, [], h, _, _ => h.elim
theorem ties_mk {H : Hp} : ∀ {vs : List V}, (∀ v ∈ vs, Tie H v (My.key H v)) → Ties H vs (vs.map (My.key H))
  | [], _ => trivial
  | v :: vs, h => ⟨h v List.mem_cons_self, ties_mk fun u hu => h u (List.mem_cons_of_mem _ hu)⟩

/-! ### a list of ties, sorted -/
theorem srt_ties {H : Hp} {xs ys : List V} {ts : List (Int × Int)} (hs : SrtO.Srtd (ltP (My.key H)) ys) (hb : ys.Perm xs) (hT : Ties H xs ts) :
    ∃ ts', Ties H ys ts' ∧ ts'.Perm ts ∧ ts'.Pairwise (fun s t => ¬ ltT t s) := by
  refine ⟨ys.map (My.key H), ties_mk fun v hv => hT.all v (hb.mem_iff.mp hv), ?_, ?_⟩
  · rw [hT.key]; exact hb.map _
  · rw [List.pairwise_map]
    refine hs.imp fun {a b} h l => ?_
    have : ltP (My.key H) b a = true := SrtO.lexB_iff.mpr l
    rw [this] at h
    cases h
theorem ltT_tri (s t : Int × Int) : ltT s t ∨ s = t ∨ ltT t s := by
  cases s with | mk a b =>
  cases t with | mk c d =>
  unfold ltT
  by_cases h1 : a < c
  · exact .inl (.inl h1)
  · by_cases h2 : c < a
    · exact .inr (.inr (.inl h2))
    · have e : a = c := by omega
      subst e
      by_cases h3 : b < d
      · exact .inl (.inr ⟨rfl, h3⟩)
      · by_cases h4 : d < b
        · exact .inr (.inr (.inr ⟨rfl, h4⟩))
        · have e : b = d := by omega
          subst e
          exact .inr (.inl rfl)
theorem ltT_irr {s : Int × Int} : ¬ ltT s s := by unfold ltT; omega
theorem ltT_tr {s t u : Int × Int} (h : ltT s t) (k : ltT t u) : ltT s u := by unfold ltT at *; omega
theorem pw_lt {ts : List (Int × Int)} (h : ts.Pairwise (fun s t => ¬ ltT t s)) (nd : ts.Nodup) : ts.Pairwise ltT := by
  refine (h.and (List.nodup_iff_pairwise_ne.mp nd)).imp ?_
  rintro s t ⟨h1, h2⟩
  rcases ltT_tri s t with h | h | h
  · exact h
  · exact absurd h h2
  · exact absurd h h1
/-- two rising lists with the same items are one -/
theorem pw_eq : ∀ {as bs : List (Int × Int)}, as.Pairwise ltT → bs.Pairwise ltT → (∀ t, t ∈ as ↔ t ∈ bs) → as = bs
  | [], [], _, _, _ => rfl
  | [], b :: bs, _, _, h => by have := (h b).mpr List.mem_cons_self; cases this
  | a :: as, [], _, _, h => by have := (h a).mp List.mem_cons_self; cases this
  | a :: as, b :: bs, ha, hb, h => by
    have ha' := List.pairwise_cons.mp ha
    have hb' := List.pairwise_cons.mp hb
    have e : a = b := by
      rcases List.mem_cons.mp ((h a).mp List.mem_cons_self) with e | m1
      · exact e
      · rcases List.mem_cons.mp ((h b).mpr List.mem_cons_self) with e | m2
        · exact e.symm
        · exact absurd (ltT_tr (ha'.1 b m2) (hb'.1 a m1)) ltT_irr
    subst e
    rw [pw_eq ha'.2 hb'.2 fun t => ⟨fun m => ?_, fun m => ?_⟩]
    · rcases List.mem_cons.mp ((h t).mp (List.mem_cons_of_mem _ m)) with e | m'
      · subst e; exact absurd (ha'.1 t m) ltT_irr
      · exact m'
    · rcases List.mem_cons.mp ((h t).mpr (List.mem_cons_of_mem _ m)) with e | m'
      · subst e; exact absurd (hb'.1 t m) ltT_irr
      · exact m'

/-! ### ties as data -/
def dT (t : Int × Int) : PyData := .tuple [.int t.1, .int t.2]
theorem Tie.dp {K : PySem.W.Frag} {H : Hp} {v : V} {t : Int × Int} (h : Tie H v t) : Dp K H v (dT t) := by
  obtain ⟨p, rfl, h⟩ := h
  exact .tup (Or.inl (Or.inl h)) (.cons (.int _) (.cons (.int _) .nil))
theorem Ties.dp {K : PySem.W.Frag} {H : Hp} : ∀ {vs : List V} {ts : List (Int × Int)}, Ties H vs ts → DpAll K H vs (ts.map dT)
  | [], [], _ => .nil
  | _ :: _, _ :: _, h => .cons h.1.dp (Ties.dp h.2)
  | [], _ :: _, h => h.elim
  | _ :: _, [], h => h.elim
theorem shaped_dT (t : Int × Int) : SeqAt.shaped (dT t) = true := rfl
theorem can_ties (ts : List (Int × Int)) : PyData.canLayAll0 (ts.map dT) = true := by
  induction ts with
  | nil => rfl
  | cons t ts ih => rw [List.map_cons, PyData.canLayAll0, ih]; rfl
theorem dep_ties (ts : List (Int × Int)) : PyData.depthAll (ts.map dT) ≤ 1 := by
  induction ts with
  | nil => exact Nat.zero_le _
  | cons t ts ih =>
    rw [List.map_cons, PyData.depthAll]
    exact Nat.max_le.mpr ⟨Nat.le_refl _, ih⟩
theorem shaped_ties (ts : List (Int × Int)) : SeqAt.shaped (.list (ts.map dT)) = true := by
  unfold SeqAt.shaped
  rw [Bool.and_eq_true, decide_eq_true_eq]
  refine ⟨can_ties ts, ?_⟩
  show PyData.depthAll (ts.map dT) + 1 ≤ 64
  have := dep_ties ts
  omega
theorem eqv_dT (s t : Int × Int) : PyData.eqv (dT s) (dT t) = decide (s = t) := by
  cases s with | mk a b =>
  cases t with | mk c d =>
  show ((a == c) && ((b == d) && true)) = _
  by_cases h : a = c <;> by_cases k : b = d <;> simp [h, k]
theorem two {A : Hp → Prop} {C : Prop} (R : Hp → Prop) (k : (∀ H, R H → A H) → C) (h : ∀ H, R H → A H) : C := k h
theorem at_mem {ns : List Int} {j : Int} (h1 : -(ns.length : Int) ≤ j) (h2 : j < ns.length) : ∃ x, atI (ns.map V.int) j = some (.int x) ∧ x ∈ ns := by
  unfold atI ixN
  rw [List.length_map]
  by_cases h0 : 0 ≤ j
  · have hl : j.toNat < ns.length := by omega
    rw [if_pos h0, if_pos h2]
    refine ⟨ns[j.toNat], ?_, List.getElem_mem hl⟩
    show (ns.map V.int)[j.toNat]? = _
    rw [List.getElem?_map, List.getElem?_eq_getElem hl]; rfl
  · have hl : (j + ns.length).toNat < ns.length := by omega
    rw [if_neg h0, if_pos h1]
    refine ⟨ns[(j + ns.length).toNat], ?_, List.getElem_mem hl⟩
    show (ns.map V.int)[(j + ns.length).toNat]? = _
    rw [List.getElem?_map, List.getElem?_eq_getElem hl]; rfl
theorem perm2 {ns : List Int} {x y : Int} (h : ns.Perm [x, y]) (s : ns.Pairwise (· ≤ ·)) : ns = [if x ≤ y then x else y, if x ≤ y then y else x] := by
  match ns, h.length_eq with
  | [a, b], _ =>
    have ab : a ≤ b := (List.pairwise_cons.mp s).1 b (List.mem_singleton.mpr rfl)
    have ha := h.mem_iff (a := a) |>.mp List.mem_cons_self
    have hb := h.mem_iff (a := b) |>.mp (List.mem_cons_of_mem _ List.mem_cons_self)
    have hx := h.mem_iff (a := x) |>.mpr List.mem_cons_self
    have hy := h.mem_iff (a := y) |>.mpr (List.mem_cons_of_mem _ List.mem_cons_self)
    simp only [List.mem_cons, List.not_mem_nil, or_false] at ha hb hx hy
    by_cases c : x ≤ y
    · rw [if_pos c, if_pos c]
      have : a = x ∧ b = y := by omega
      rw [this.1, this.2]
    · rw [if_neg c, if_neg c]
      have : a = y ∧ b = x := by omega
      rw [this.1, this.2]
/-! ### ties by their places, for sets -/
def prT (p : Addr × List Int) : Int × Int := (p.2.getD 0 0, p.2.getD 1 0)
theorem Ties.addr {H : Hp} : ∀ {vs : List V} {ts : List (Int × Int)}, Ties H vs ts → ∃ ks : List (Addr × List Int), vs = (ks.map fun p => V.ref p.1) ∧
    (∀ p ∈ ks, H p.1 = some (.tup (p.2.map V.int)) ∧ ∃ t ∈ ts, p.2 = [t.1, t.2]) ∧ ks.map prT = ts
  | [], [], _ => ⟨[], rfl, (fun _ h => by cases h), rfl⟩
  | v :: vs, t :: ts, h => by
    obtain ⟨ks, e1, e2, e3⟩ := Ties.addr h.2
    obtain ⟨p, rfl, hp⟩ := h.1
    refine ⟨(p, [t.1, t.2]) :: ks, by rw [e1]; rfl, fun q hq => ?_, by rw [List.map_cons, e3]; rfl⟩
    rcases List.mem_cons.mp hq with rfl | hq
    · exact ⟨hp, t, List.mem_cons_self, rfl⟩
    · obtain ⟨g1, t', g2, g3⟩ := e2 q hq
      exact ⟨g1, t', List.mem_cons_of_mem _ g2, g3⟩
  | [], _ :: _, h => h.elim
  | _ :: _, [], h => h.elim
theorem ties_addr {H : Hp} : ∀ {ks : List (Addr × List Int)}, (∀ p ∈ ks, H p.1 = some (.tup (p.2.map V.int)) ∧ ∃ t : Int × Int, p.2 = [t.1, t.2]) → Ties H (ks.map fun p => V.ref p.1) (ks.map prT)
  | [], _ => trivial
  | p :: ks, h => by
    refine ⟨?_, ties_addr fun q hq => h q (List.mem_cons_of_mem _ hq)⟩
    obtain ⟨g1, t, g2⟩ := h p List.mem_cons_self
    refine ⟨p.1, rfl, ?_⟩
    unfold prT
    rw [g1, g2]; rfl
theorem u65 {k : Nat} {A : Around} (r : Room k A) : A.units + 65 < cLine := by have := r.un; omega
end My

set_option Elab.async false
set_option linter.all false
set_option maxRecDepth 100000
namespace My
open PySem PySem.Spec PyProof.Rows L2

/-! ### lists side by side -/
def All2 {α : Type} (R : V → α → Prop) : List V → List α → Prop
  | [], [] => True
  | v :: vs, t :: ts => R v t ∧ All2 R vs ts
  | _, _ => False
section
variable {α : Type} {R S : V → α → Prop}
theorem All2.imp (a : ∀ v t, R v t → S v t) : ∀ {vs : List V} {ts : List α}, All2 R vs ts → All2 S vs ts
  | [], [], _ => trivial
  | _ :: _, _ :: _, h => ⟨a _ _ h.1, All2.imp a h.2⟩
  | [], _ :: _, h => h.elim
  | _ :: _, [], h => h.elim
theorem All2.app : ∀ {vs us : List V} {ts rs : List α}, All2 R vs ts → All2 R us rs → All2 R (vs ++ us) (ts ++ rs)
  | [], _, [], _, _, k => k
  | _ :: _, _, _ :: _, _, h, k => ⟨h.1, All2.app h.2 k⟩
  | [], _, _ :: _, _, h, _ => h.elim
  | _ :: _, _, [], _, h, _ => h.elim
theorem All2.len : ∀ {vs : List V} {ts : List α}, All2 R vs ts → vs.length = ts.length
  | [], [], _ => rfl
  | _ :: _, _ :: _, h => congrArg (· + 1) (All2.len h.2)
  | [], _ :: _, h => h.elim
  | _ :: _, [], h => h.elim
theorem All2.at : ∀ {vs : List V} {ts : List α} {i : Nat} {v : V}, All2 R vs ts → vs[i]? = some v → ∃ t, ts[i]? = some t ∧ R v t
  | [], [], _, _, _, e => by cases e
  | _ :: _, t :: _, 0, _, h, e => by cases e; exact ⟨t, rfl, h.1⟩
  | _ :: _, _ :: _, i + 1, _, h, e => All2.at (i := i) h.2 e
  | [], _ :: _, _, _, h, _ => h.elim
  | _ :: _, [], _, _, h, _ => h.elim
theorem All2.at' : ∀ {vs : List V} {ts : List α} {i : Nat} {t : α}, All2 R vs ts → ts[i]? = some t → ∃ v, vs[i]? = some v ∧ R v t
  | [], [], _, _, _, e => by cases e
  | v :: _, _ :: _, 0, _, h, e => by cases e; exact ⟨v, rfl, h.1⟩
  | _ :: _, _ :: _, i + 1, _, h, e => All2.at' (i := i) h.2 e
  | [], _ :: _, _, _, h, _ => h.elim
  | _ :: _, [], _, _, h, _ => h.elim
theorem All2.erase : ∀ {vs : List V} {ts : List α} (k : Nat), All2 R vs ts → All2 R (vs.eraseIdx k) (ts.eraseIdx k)
  | [], [], _, _ => trivial
  | _ :: _, _ :: _, 0, h => h.2
  | _ :: _, _ :: _, k + 1, h => ⟨h.1, All2.erase k h.2⟩
  | [], _ :: _, _, h => h.elim
  | _ :: _, [], _, h => h.elim
end

/-! ### pairs of places of unlike groups -/
def norm (a b : Int) : Int × Int := (if a ≤ b then a else b, if a ≤ b then b else a)
theorem norm_inj {a b c d : Int} (h : norm a b = norm c d) : (a = c ∧ b = d) ∨ (a = d ∧ b = c) := by
  unfold norm at h
  have h1 := congrArg Prod.fst h
  have h2 := congrArg Prod.snd h
  dsimp only at h1 h2
  by_cases x : a ≤ b <;> by_cases y : c ≤ d
  · rw [if_pos x, if_pos y] at h1 h2; omega
  · rw [if_pos x, if_neg y] at h1 h2; omega
  · rw [if_neg x, if_pos y] at h1 h2; omega
  · rw [if_neg x, if_neg y] at h1 h2; omega
def newA (g h : List Int) : List (Int × Int) := g.flatMap fun a => h.map fun b => norm a b
def newK (s : List (List Int)) (cd : Nat → Nat → Bool) (k j : Nat) : List (Int × Int) :=
  (List.range j).flatMap fun j => newA (if cd k j = true then s.getD k [] else []) (s.getD j [])
def news (s : List (List Int)) (cd : Nat → Nat → Bool) (m : Nat) : List (Int × Int) := (List.range m).flatMap fun k => newK s cd k k
theorem newA_app (g g' h : List Int) : newA (g ++ g') h = newA g h ++ newA g' h := by unfold newA; rw [List.flatMap_append]
theorem newA_one (a : Int) (h : List Int) : newA [a] h = h.map fun b => norm a b := by unfold newA; rw [List.flatMap_singleton]
theorem newK_succ (s : List (List Int)) (cd : Nat → Nat → Bool) (k j : Nat) : newK s cd k (j + 1) = newK s cd k j ++ newA (if cd k j = true then s.getD k [] else []) (s.getD j []) := by
  unfold newK; rw [List.range_succ, List.flatMap_append, List.flatMap_singleton]
theorem news_succ (s : List (List Int)) (cd : Nat → Nat → Bool) (m : Nat) : news s cd (m + 1) = news s cd m ++ newK s cd m m := by
  unfold news; rw [List.range_succ, List.flatMap_append, List.flatMap_singleton]
theorem mem_newA {g h : List Int} {t : Int × Int} : t ∈ newA g h ↔ ∃ a ∈ g, ∃ b ∈ h, t = norm a b := by
  unfold newA
  simp only [List.mem_flatMap, List.mem_map]
  constructor
  · rintro ⟨a, ha, b, hb, rfl⟩; exact ⟨a, ha, b, hb, rfl⟩
  · rintro ⟨a, ha, b, hb, rfl⟩; exact ⟨a, ha, b, hb, rfl⟩
theorem mem_newK {s : List (List Int)} {cd : Nat → Nat → Bool} {k j : Nat} {t : Int × Int} (h : t ∈ newK s cd k j) :
    ∃ j' < j, ∃ a ∈ s.getD k [], ∃ b ∈ s.getD j' [], t = norm a b := by
  unfold newK at h
  obtain ⟨j', hj, h⟩ := List.mem_flatMap.mp h
  obtain ⟨a, ha, b, hb, e⟩ := mem_newA.mp h
  refine ⟨j', List.mem_range.mp hj, a, ?_, b, hb, e⟩
  split at ha
  · exact ha
  · cases ha
theorem mem_news {s : List (List Int)} {cd : Nat → Nat → Bool} {m : Nat} {t : Int × Int} (h : t ∈ news s cd m) :
    ∃ k < m, ∃ j < k, ∃ a ∈ s.getD k [], ∃ b ∈ s.getD j [], t = norm a b := by
  unfold news at h
  obtain ⟨k, hk, h⟩ := List.mem_flatMap.mp h
  obtain ⟨j, hj, r⟩ := mem_newK h
  exact ⟨k, List.mem_range.mp hk, j, hj, r⟩
/-- a place is in one group alone -/
theorem grp_one {s : List (List Int)} (nd : s.flatten.Nodup) {a : Int} {i j : Nat} (hi : a ∈ s.getD i []) (hj : a ∈ s.getD j []) : i = j := by
  have li : i < s.length := by
    rcases Nat.lt_or_ge i s.length with h | h
    · exact h
    · rw [List.getD_eq_getElem?_getD, List.getElem?_eq_none h] at hi; cases hi
  have lj : j < s.length := by
    rcases Nat.lt_or_ge j s.length with h | h
    · exact h
    · rw [List.getD_eq_getElem?_getD, List.getElem?_eq_none h] at hj; cases hj
  rw [List.getD_eq_getElem?_getD, List.getElem?_eq_getElem li] at hi
  rw [List.getD_eq_getElem?_getD, List.getElem?_eq_getElem lj] at hj
  dsimp only [Option.getD_some] at hi hj
  have pw := (List.pairwise_flatten.mp (List.nodup_iff_pairwise_ne.mp nd)).2
  rw [List.pairwise_iff_getElem] at pw
  rcases Nat.lt_trichotomy i j with h | h | h
  · exact absurd rfl (pw i j li lj h a hi a hj)
  · exact h
  · exact absurd rfl (pw j i lj li h a hj a hi)
theorem grp_nd {s : List (List Int)} (nd : s.flatten.Nodup) (i : Nat) : (s.getD i []).Nodup := by
  rcases Nat.lt_or_ge i s.length with h | h
  · rw [List.getD_eq_getElem?_getD, List.getElem?_eq_getElem h]
    exact List.nodup_iff_pairwise_ne.mpr ((List.pairwise_flatten.mp (List.nodup_iff_pairwise_ne.mp nd)).1 _ (List.getElem_mem h))
  · rw [List.getD_eq_getElem?_getD, List.getElem?_eq_none h]; exact List.nodup_nil
theorem four_inj {s : List (List Int)} (nd : s.flatten.Nodup) {k j k' j' : Nat} {a b a' b' : Int} (hj : j < k) (hj' : j' < k') (ha : a ∈ s.getD k []) (hb : b ∈ s.getD j [])
    (ha' : a' ∈ s.getD k' []) (hb' : b' ∈ s.getD j' []) (e : norm a b = norm a' b') : k = k' ∧ j = j' ∧ a = a' ∧ b = b' := by
  rcases norm_inj e with ⟨rfl, rfl⟩ | ⟨rfl, rfl⟩
  · exact ⟨grp_one nd ha ha', grp_one nd hb hb', rfl, rfl⟩
  · have e1 := grp_one nd ha hb'
    have e2 := grp_one nd hb ha'
    omega
theorem news_nd {s : List (List Int)} (nd : s.flatten.Nodup) (cd : Nat → Nat → Bool) (m : Nat) : (news s cd m).Nodup := by
  unfold news
  rw [List.nodup_iff_pairwise_ne, List.pairwise_flatMap]
  refine ⟨fun k hk => ?_, ?_⟩
  · unfold newK
    rw [List.pairwise_flatMap]
    refine ⟨fun j hj => ?_, ?_⟩
    · have hj := List.mem_range.mp hj
      unfold newA
      rw [List.pairwise_flatMap]
      refine ⟨fun a ha => ?_, ?_⟩
      · rw [List.pairwise_map]
        refine (List.nodup_iff_pairwise_ne.mp (grp_nd nd j)).imp_of_mem fun {b b'} hb hb' ne e => ?_
        have ha : a ∈ s.getD k [] := by split at ha; exact ha; cases ha
        exact ne (four_inj nd hj hj ha hb ha hb' e).2.2.2
      · have nda : (if cd k j = true then s.getD k [] else []).Nodup := by split; exact grp_nd nd k; exact List.nodup_nil
        refine (List.nodup_iff_pairwise_ne.mp nda).imp_of_mem fun {a a'} ha ha' ne x hx y hy e => ?_
        have ha : a ∈ s.getD k [] := by split at ha; exact ha; cases ha
        have ha' : a' ∈ s.getD k [] := by split at ha'; exact ha'; cases ha'
        obtain ⟨b, hb, rfl⟩ := List.mem_map.mp hx
        obtain ⟨b', hb', rfl⟩ := List.mem_map.mp hy
        exact ne (four_inj nd hj hj ha hb ha' hb' e).2.2.1
    · refine (List.nodup_iff_pairwise_ne.mp List.nodup_range).imp_of_mem fun {j j'} hj hj' ne x hx y hy e => ?_
      have hj := List.mem_range.mp hj
      have hj' := List.mem_range.mp hj'
      obtain ⟨a, ha, b, hb, rfl⟩ := mem_newA.mp hx
      obtain ⟨a', ha', b', hb', rfl⟩ := mem_newA.mp hy
      have ha : a ∈ s.getD k [] := by split at ha; exact ha; cases ha
      have ha' : a' ∈ s.getD k [] := by split at ha'; exact ha'; cases ha'
      exact ne (four_inj nd hj hj' ha hb ha' hb' e).2.1
  · refine (List.nodup_iff_pairwise_ne.mp List.nodup_range).imp_of_mem fun {k k'} hk hk' ne x hx y hy e => ?_
    obtain ⟨j, hj, a, ha, b, hb, rfl⟩ := mem_newK hx
    obtain ⟨j', hj', a', ha', b', hb', rfl⟩ := mem_newK hy
    exact ne (four_inj nd hj hj' ha hb ha' hb' e).1

/-- what holds of groups and ties between two turns -/
structure PInv (n : Nat) (gs : List (List Int)) (ts : List (Int × Int)) : Prop where
  fl : gs.flatten.Perm (up n)
  nd : ts.Nodup
  bd : ∀ t ∈ ts, 0 ≤ t.1 ∧ t.1 < t.2 ∧ t.2 < (n : Int)
  one : ∀ t ∈ ts, ∃ g ∈ gs, t.1 ∈ g ∧ t.2 ∈ g
theorem nd_len {α : Type} [DecidableEq α] : ∀ {l m : List α}, l.Nodup → (∀ x ∈ l, x ∈ m) → l.length ≤ m.length
  | [], _, _, _ => Nat.zero_le _
  | a :: l, m, nd, h => by
    have nd' := List.nodup_cons.mp nd
    have ha := h a List.mem_cons_self
    have := nd_len (l := l) (m := m.erase a) nd'.2 fun x hx => (List.mem_erase_of_ne (fun (e : x = a) => nd'.1 (by rw [← e]; exact hx))).mpr (h x (List.mem_cons_of_mem _ hx))
    rw [List.length_erase_of_mem ha] at this
    have := List.length_pos_of_mem ha
    rw [List.length_cons]
    omega
theorem PInv.len {n : Nat} {gs : List (List Int)} {ts : List (Int × Int)} (h : PInv n gs ts) (hn : n ≤ 100) : ts.length ≤ 10000 := by
  refine Nat.le_trans (nd_len (m := pup n n) h.nd fun t ht => ?_) (pup_len' hn (Nat.le_refl n))
  have := h.bd t ht
  exact (mem_pup (Nat.le_refl n)).mpr (by omega)
theorem norm_ends {a b : Int} {g : List Int} (h1 : (norm a b).1 ∈ g) (h2 : (norm a b).2 ∈ g) : a ∈ g ∧ b ∈ g := by
  unfold norm at h1 h2
  dsimp only at h1 h2
  by_cases x : a ≤ b
  · rw [if_pos x] at h1 h2; exact ⟨h1, h2⟩
  · rw [if_neg x] at h1 h2; exact ⟨h2, h1⟩
theorem PInv.next {n : Nat} {gs s r : List (List Int)} {ts : List (Int × Int)} (h : PInv n gs ts) (pm : gs.Perm (s ++ r)) (cd : Nat → Nat → Bool) :
    PInv n (r ++ [s.flatten]) (ts ++ news s cd s.length) := by
  have pf : (s ++ r).flatten.Perm (up n) := pm.flatten.symm.trans h.fl
  have ndf : (s ++ r).flatten.Nodup := pf.nodup_iff.mpr (up_nodup n)
  have nds : s.flatten.Nodup := by
    rw [List.flatten_append] at ndf
    exact (List.nodup_append.mp ndf).1
  have gd : ∀ i, i < s.length → (s ++ r).getD i [] = s.getD i [] := fun i hi => by
    rw [List.getD_eq_getElem?_getD, List.getD_eq_getElem?_getD, List.getElem?_append_left hi]
  have inS : ∀ {a : Int} {k : Nat}, a ∈ s.getD k [] → a ∈ s.flatten ∧ k < s.length := fun {a k} ha => by
    rcases Nat.lt_or_ge k s.length with hk | hk
    · rw [List.getD_eq_getElem?_getD, List.getElem?_eq_getElem hk] at ha
      exact ⟨List.mem_flatten.mpr ⟨_, List.getElem_mem hk, ha⟩, hk⟩
    · rw [List.getD_eq_getElem?_getD, List.getElem?_eq_none hk] at ha; cases ha
  have bd : ∀ {a : Int}, a ∈ s.flatten → 0 ≤ a ∧ a < (n : Int) := fun {a} ha =>
    mem_up.mp (pf.mem_iff.mp (by rw [List.flatten_append]; exact List.mem_append_left _ ha))
  refine ⟨?_, ?_, ?_, ?_⟩
  · refine List.Perm.trans ?_ pf
    rw [List.flatten_append, List.flatten_append]
    have : [s.flatten].flatten = s.flatten := by simp
    rw [this]
    exact List.perm_append_comm
  · rw [List.nodup_append]
    refine ⟨h.nd, news_nd nds cd _, fun t ht t' ht' e => ?_⟩
    subst e
    obtain ⟨k, hk, j, hj, a, ha, b, hb, rfl⟩ := mem_news ht'
    obtain ⟨g, hg, g1, g2⟩ := h.one _ ht
    obtain ⟨ga, gb⟩ := norm_ends g1 g2
    obtain ⟨i, hi, e⟩ := List.getElem_of_mem (pm.mem_iff.mp hg)
    have gi : (s ++ r).getD i [] = g := by rw [List.getD_eq_getElem?_getD, List.getElem?_eq_getElem hi, e]; rfl
    have e1 := grp_one ndf (i := i) (j := k) (by rw [gi]; exact ga) (by rw [gd k hk]; exact ha)
    have e2 := grp_one ndf (i := i) (j := j) (by rw [gi]; exact gb) (by rw [gd j (by omega)]; exact hb)
    omega
  · intro t ht
    rcases List.mem_append.mp ht with ht | ht
    · exact h.bd t ht
    · obtain ⟨k, hk, j, hj, a, ha, b, hb, rfl⟩ := mem_news ht
      have b1 := bd (inS ha).1
      have b2 := bd (inS hb).1
      have ne : a ≠ b := fun e => by subst e; have := grp_one nds ha hb; omega
      unfold norm
      dsimp only
      split <;> omega
  · intro t ht
    rcases List.mem_append.mp ht with ht | ht
    · obtain ⟨g, hg, g1, g2⟩ := h.one t ht
      rcases List.mem_append.mp (pm.mem_iff.mp hg) with m | m
      · exact ⟨s.flatten, List.mem_append_right _ (List.mem_singleton.mpr rfl), List.mem_flatten.mpr ⟨g, m, g1⟩, List.mem_flatten.mpr ⟨g, m, g2⟩⟩
      · exact ⟨g, List.mem_append_left _ m, g1, g2⟩
    · obtain ⟨k, hk, j, hj, a, ha, b, hb, rfl⟩ := mem_news ht
      refine ⟨s.flatten, List.mem_append_right _ (List.mem_singleton.mpr rfl), ?_, ?_⟩
      · unfold norm; dsimp only; split
        · exact (inS ha).1
        · exact (inS hb).1
      · unfold norm; dsimp only; split
        · exact (inS hb).1
        · exact (inS ha).1
theorem flat_one : ∀ ns : List Int, (ns.map fun x => [x]).flatten = ns
  | [] => rfl
  | a :: l => by rw [List.map_cons, List.flatten_cons, flat_one l]; rfl
theorem erase_perm {α : Type} : ∀ {l : List α} {i : Nat} (h : i < l.length), (l[i] :: l.eraseIdx i).Perm l
  | _ :: _, 0, _ => .refl _
  | a :: l, i + 1, h => by
    show (l[i]'(Nat.lt_of_succ_lt_succ h) :: a :: l.eraseIdx i).Perm (a :: l)
    exact (List.Perm.swap _ _ _).trans ((erase_perm (Nat.lt_of_succ_lt_succ h)).cons a)
/-! ### lengths -/
theorem newA_len {g h : List Int} {x y : Nat} (hg : g.length ≤ x) (hh : h.length ≤ y) : (newA g h).length ≤ x * y := by
  have : ∀ g : List Int, (newA g h).length = g.length * h.length := by
    intro g
    induction g with
    | nil => simp [newA]
    | cons a g ih =>
      have e : newA (a :: g) h = newA [a] h ++ newA g h := newA_app [a] g h
      rw [e, List.length_append, ih, newA_one, List.length_map, List.length_cons, Nat.succ_mul, Nat.add_comm]
  rw [this]
  exact Nat.mul_le_mul hg hh
theorem newK_len {s : List (List Int)} {cd : Nat → Nat → Bool} {k : Nat} (hs : ∀ i, (s.getD i []).length ≤ 12) : ∀ j, (newK s cd k j).length ≤ j * 144
  | 0 => Nat.zero_le _
  | j + 1 => by
    rw [newK_succ, List.length_append]
    have h1 := newK_len (s := s) (cd := cd) (k := k) hs j
    have h2 : (newA (if cd k j = true then s.getD k [] else []) (s.getD j [])).length ≤ 12 * 12 := newA_len (by split; exact hs k; exact Nat.zero_le _) (hs j)
    omega
theorem news_len {s : List (List Int)} {cd : Nat → Nat → Bool} (hs : ∀ i, (s.getD i []).length ≤ 12) : ∀ m, m ≤ 10 → (news s cd m).length ≤ m * 1440
  | 0, _ => Nat.zero_le _
  | m + 1, h => by
    rw [news_succ, List.length_append]
    have h1 := news_len (s := s) (cd := cd) hs m (by omega)
    have h2 := newK_len (s := s) (cd := cd) (k := m) hs m
    omega
theorem grp_len {n : Nat} {s : List (List Int)} {r : List (List Int)} (h : (s ++ r).flatten.Perm (up n)) (i : Nat) : (s.getD i []).length ≤ n := by
  rcases Nat.lt_or_ge i s.length with hi | hi
  · rw [List.getD_eq_getElem?_getD, List.getElem?_eq_getElem hi]
    have e := h.length_eq
    rw [up_len, List.flatten_append, List.length_append] at e
    have : ∀ (l : List (List Int)) (g : List Int), g ∈ l → g.length ≤ l.flatten.length := by
      intro l g hg
      induction l with
      | nil => cases hg
      | cons x l ih =>
        rw [List.flatten_cons, List.length_append]
        rcases List.mem_cons.mp hg with rfl | hg
        · omega
        · have := ih hg; omega
    have := this s _ (List.getElem_mem hi)
    show s[i].length ≤ n
    omega
  · rw [List.getD_eq_getElem?_getD, List.getElem?_eq_none hi]; exact Nat.zero_le _
end My

set_option Elab.async false
set_option linter.all false
set_option maxRecDepth 100000
set_option maxHeartbeats 2000000
namespace My
open PySem PySem.Spec PyProof.Rows L2 GxR

/-! ### the frame of a generator expression -/
abbrev gcx (X : Cx) (A' : Around) (s : Shared) (H : Hp) (cenv : Env) (fp : List Addr) (pn : List (Addr × Obj)) : Cx :=
  { X with A := A', s_0 := s, H_0 := H, env := cenv, outer := X.stack, stack := cenv :: X.stack, ex := fp, fn := fun _ => false, calm := true, pn := pn, xe := fun _ _ => False }
structure GsOk (scope : Scope) : Prop where
  co : scope.isCoroutine = false
  cell : ∀ y ∈ scope.names, y.2 ≠ .cell
  dot : scope.names.lookup (".0" : Str) = some NameKind.local

section
variable {X : Cx} {pins : List (Addr × Obj)} {σ : L2.St} {H : Hp} {s : Shared}
abbrev gEnv (X : Cx) (scope : Scope) (C : Addr) (code : Value) : Env :=
  genEnv scope (cloFrom X.env.cells scope.names []) C code builtinsNs X.env
theorem gen_inv {scope : Scope} {own : List (Str × Nat)} {fp : List Addr} {A' : Around} {C : Addr} {code : Value} {s5 : Shared}
    {m : Str → Option Value} {pn : List (Addr × Obj)} (I : Inv X pins σ H s) (ok : BlkOk X.N X.env.scope scope own) (hN : X.N.Nodup)
    (S : GsOk scope) (hfp : ∀ b ∈ fp, FpOk X pins H b ∧ b < s.heap.objs.size) (hC : C = s.heap.objs.size) (hA : A'.handled = none)
    (hF : A'.frames = some (gEnv X scope C code :: X.stack)) (kp : ∀ b o, s.heap.get? b = some o → s5.heap.get? b = some o)
    (hns : s5.heap.Ns C m) (hos : s5.os = s.os) (hb : AllBare s5.gens)
    (hpn : ∀ p ∈ pn, s5.heap.get? p.1 = some p.2 ∧ s.heap.objs.size < p.1 ∧ ∀ v, p.2.data ≠ .cell v) :
    Inv (gcx X A' s H (gEnv X scope C code) fp pn) [] (wipe σ (own.map (·.2))) H s5 := by
  have cm : ∀ {y : Str} {c : Addr}, (cloFrom X.env.cells scope.names []).lookup y = some c → X.env.cells.lookup y = some c ∧ c < s.heap.objs.size := fun {y c} e => by
    rcases cloFrom_mem (PySem.mem_of_lookup e) with z | ⟨h1, rfl⟩
    · cases z
    · have : ∃ c, X.env.cells.lookup y = some c := by
        rcases ok.free _ h1 rfl with k | k
        · exact I.ok.has _ (.inl k)
        · exact I.ok.has _ (.inr k)
      obtain ⟨c, hc⟩ := this
      rw [hc]
      obtain ⟨w, z⟩ := I.cell _ _ hc
      exact ⟨rfl, z.lt⟩
  have look : ∀ {y : Str}, scope.names.lookup y = some .free → ∃ c, (cloFrom X.env.cells scope.names []).lookup y = some c ∧ X.env.cells.lookup y = some c := fun {y} hl => by
    obtain ⟨c, e⟩ := mem_lookup (cloFrom_has (cells := X.env.cells) (acc := []) (PySem.mem_of_lookup hl))
    exact ⟨c, e, (cm e).1⟩
  have hCs : s.heap.objs.size ≤ C := Nat.le_of_eq hC.symm
  have okB : (gcx X A' s H (gEnv X scope C code) fp pn).Ok := by
    refine ⟨I.ok.mod, ok.kind, I.ok.glob, rfl, hCs, fun y z c e1 e2 => I.ok.inj y z c (cm e1).1 (cm e2).1, fun y hy => ?_, (fun y c z e => by cases z), fun _ => hA, hF, .inr ⟨rfl, rfl⟩,
      fun b hb => ⟨?_, fun y c e => (hfp b hb).1.2.2.2.2.1 y c (cm e).1⟩, I.bs, Nat.le_trans I.ok.bsz I.sz, fun b o e hb => ?_, fun b hb z => ?_, I.stack, I.stkFree⟩
    · rcases hy with hy | hy
      · exact absurd rfl (S.cell _ (PySem.mem_of_lookup (show scope.names.lookup y = some .cell from hy)))
      · obtain ⟨c, e, _⟩ := look (show scope.names.lookup y = some .free from hy)
        exact ⟨c, e⟩
    · show b ≠ C
      rw [hC]; exact Nat.ne_of_lt (hfp b hb).2
    · rcases (hfp b hb).1.2.2.2.1 with z | z
      · exact I.ok.noex b o e z
      · exact absurd (Nat.lt_of_lt_of_le (Heap.lt_size e) (Nat.le_trans I.ok.bsz z)) (Nat.lt_irrefl _)
    · rcases List.mem_cons.mp (I.stkSub b z) with z | z
      · exact (hfp b hb).1.2.1 z
      · exact (hfp b hb).1.2.2.1 z
  refine ⟨okB, hos, hb, Un.kept kp, ⟨m, hns, fun i y v e1 e2 e3 => ?_⟩, fun y c e => ?_, ?_, fun y c e => I.freeC y c (cm e).1, fun p hp => ?_, I.hok.kept kp, by rw [wipe_length]; exact I.len⟩
  · obtain ⟨e2, hne⟩ := wipe_some e2
    have no : ∀ k, scope.names.lookup y = some k → ¬ (k = .local ∨ k = .cell) := fun k e hh => by
      rcases ok.own _ (PySem.mem_of_lookup e) hh with z | z
      · obtain ⟨p, hp, hpy⟩ := List.mem_map.mp z
        have e4 := ok.ix p hp
        have hpy : p.1 = y := hpy
        rw [hpy] at e4
        exact hne (List.mem_map.mpr ⟨p, hp, nodup_ix hN e4 e1⟩)
      · exact z (List.mem_of_getElem? e1)
    have e3 : Vis scope y := e3
    have fr : scope.names.lookup y = some .free := by
      rcases e3 with e3 | e3 | e3
      · exact absurd (.inl rfl) (no _ e3)
      · exact absurd (.inr rfl) (no _ e3)
      · exact e3
    obtain ⟨m', hn, hl⟩ := I.loc
    have k := ok.free _ (PySem.mem_of_lookup fr) rfl
    have hv : Vis X.env.scope y := by
      rcases k with k | k
      · exact .inr (.inl k)
      · exact .inr (.inr k)
    obtain ⟨w, r, q⟩ := hl i y v e1 e2 hv
    refine ⟨w, r, .inr ⟨.inr fr, ?_⟩⟩
    obtain ⟨c, h1, h2⟩ := look fr
    rcases q with ⟨z, _⟩ | ⟨_, c', e', z⟩
    · have z : X.env.scope.names.lookup y = some .local := z
      rcases k with k | k <;> (have k : X.env.scope.names.lookup y = _ := k; rw [k] at z; cases z)
    · rw [h2] at e'; cases e'
      exact ⟨c, h1, z.keeps kp⟩
  · obtain ⟨w, z⟩ := I.cell y c (cm e).1
    exact ⟨w, z.keeps kp⟩
  · exact I.hok.fresh hCs
  · rw [List.append_nil] at hp
    obtain ⟨h1, h2, h3⟩ := hpn p hp
    refine ⟨h1, I.hok.fresh (Nat.le_of_lt h2), ?_, fun z => ?_, h3⟩
    · show p.1 ≠ C
      rw [hC]; exact Nat.ne_of_gt h2
    · rcases List.mem_cons.mp (I.stkSub p.1 z) with z | z
      · have := I.lt
        rw [← z] at this
        exact absurd (Nat.lt_trans h2 this) (Nat.lt_irrefl _)
      · exact I.nofs (Nat.le_of_lt h2) z
theorem inv_gens {gs : Array GenState} (I : Inv X pins σ H s) (hb : AllBare gs) : Inv X pins σ H { s with gens := gs } :=
  ⟨I.ok, I.os, hb, I.base, I.loc, I.cell, I.free, I.freeC, I.pin, I.hok, I.len⟩
theorem inv_setGen {g : Nat} {x : GenState} (I : Inv X pins σ H s) (hx : x.bare = true) : Inv X pins σ H (s.setGen g x) := by
  refine inv_gens I fun y hy => ?_
  rcases Array.mem_or_eq_of_mem_setIfInBounds hy with h | h
  · exact I.bare y h
  · rw [h]; exact hx
end

/-! ### the loop of a generator expression -/
section
variable {prog : Program} {w : World} {A : Around}
/-- n: how many more may come; Yl m v s: v is handed out, fewer than m turns are left; St m s: ready for the next turn -/
def protoG (St : Nat → Shared → Prop) (Yl : Nat → Value → Shared → Prop) : Protocol := fun n _ v s kap =>
  (∃ m, m ≤ n ∧ Yl m v s) ∧ ∀ s'' m', m' < n → St m' s'' → kap (.send .none) s''
theorem seg_loopG {elt tg iter : Expr} {scope : Scope} {pos : Pos} {it : Addr} {cenv : Env} (hco : cenv.scope.isCoroutine = false)
    (St : Nat → Shared → Prop) (En : Shared → Prop) (Yl : Nat → Value → Shared → Prop)
    (turn : ∀ m s, St m s → wpAny (model prog w) (A.over (.compLoop (.GeneratorExp elt [⟨tg, iter, [], 0⟩] scope pos) 0 (.ref it) .none cenv) []) (pyNext (.ref it)) (fun r s1 => match r with
      | none => En s1
      | some u => wpAny (model prog w) (A.over (.compLoop (.GeneratorExp elt [⟨tg, iter, [], 0⟩] scope pos) 0 (.ref it) .none cenv) []) (letOwnedTupleGo tg (.ref it) u) (fun _ s2 =>
          wpAny (model prog w) (A.over (.compLoop (.GeneratorExp elt [⟨tg, iter, [], 0⟩] scope pos) 0 (.ref it) .none cenv) []) (assign tg cenv u) (fun _ s3 =>
            wpAny (model prog w) (A.over (.compLoop (.GeneratorExp elt [⟨tg, iter, [], 0⟩] scope pos) 0 (.ref it) .none cenv) []) (eval elt cenv) (fun v s4 => Yl m v s4) (fun _ _ => False) s3) (fun _ _ => False) s2) (fun _ _ => False) s1) (fun _ _ => False) s) :
    ∀ (n m : Nat) (s₀ s : Shared), m < n → St m s →
      Seg (model prog w) A (fun _ _ r s₁ => r = .ok .next ∧ En s₁) (protoG St Yl) n s₀
        (.compLoop (.GeneratorExp elt [⟨tg, iter, [], 0⟩] scope pos) 0 (.ref it) .none cenv)
        ((model prog w).den (.compLoop (.GeneratorExp elt [⟨tg, iter, [], 0⟩] scope pos) 0 (.ref it) .none cenv)) [] s := by
  intro n
  induction n with
  | zero => intro m _ _ h; exact absurd h (Nat.not_lt_zero _)
  | succ n ih =>
    intro m s₀ s hm hst
    show Seg _ A _ _ _ s₀ _ ((compTurn (.GeneratorExp elt [⟨tg, iter, [], 0⟩] scope pos) 0 (.ref it) .none cenv).onRaise (leaving cenv)) [] s
    rw [compTurn_gen, Sem.onRaise_eq_wrap]
    refine seg_bind_wrap (wpAny_standAt ?_)
    refine seg_bind_wrap (wpAny_mono (turn m s hst) (fun r s1 h1 => ?_) fun _ _ e => e.elim)
    cases r with
    | none => exact seg_end (.ok .next) ⟨rfl, h1⟩
    | some u =>
      refine seg_bind_wrap (wpAny_mono h1 (fun _ s2 h2 => ?_) fun _ _ e => e.elim)
      refine seg_bind_wrap (wpAny_mono h2 (fun _ s3 h3 => ?_) fun _ _ e => e.elim)
      refine seg_bind_wrap ?_
      simp only [List.forIn_nil]
      refine wpAny_pure ?_
      simp only [if_true]
      have hy : ∀ v, yieldOut cenv v = yieldValue v := fun v => by simp only [yieldOut, hco, Bool.false_eq_true, if_false]
      simp only [hy]
      rw [Sem.bind_eq_wrap', Sem.bind_eq_wrap', Sem.wrap_wrap, Sem.wrap_wrap]
      refine seg_wrap (wpAny_mono h3 (fun v s4 h4 => ?_) fun _ _ e => e.elim)
      refine seg_at (seg_yield rfl rfl rfl ⟨⟨m, Nat.le_of_lt_succ hm, h4⟩, fun s'' m' hm' hst' => ?_⟩)
      exact seg_again rfl (ih m' s'' s'' hm' hst')
end
end My

set_option Elab.async false
set_option linter.all false
set_option maxRecDepth 100000
set_option maxHeartbeats 2000000
namespace My
open PySem PySem.Spec PyProof.Rows L2 GxR GenW

abbrev genObj (g : Nat) (x y : Value) : Obj := { cls := .type "generator", data := .fields #[.int g 0, x, y] }
/-- a generator expression is made: what stands then -/
structure Made (X : Cx) (pins : List (Addr × Obj)) (σ : L2.St) (elt tg iter : Expr) (scope : Scope) (gpos : Pos) (P : Addr) (J : It) (H1 H2 : Hp)
    (it : Addr) (fp : List Addr) (tn : Nat → Heap → Prop) (s4 s5 : Shared) (C a : Addr) (code : Value) (g : Nat) (x y : Value) : Prop where
  tab : Tabbed P H1 H2
  inv : Inv X pins σ H2 s4
  tu : Turn X.prog X.w X.K tg J fp it tn
  st : tn 0 s4.heap
  fp : ∀ b ∈ fp, FpOk X pins H2 b ∧ b < s4.heap.objs.size
  c : C = s4.heap.objs.size
  kp : ∀ b o, s4.heap.get? b = some o → s5.heap.get? b = some o
  ns : s5.heap.Ns C (fun y => if y = (".0" : Str) then some (.ref it) else none)
  os : s5.os = s4.os
  bare : AllBare s5.gens
  obj : s5.heap.get? a = some (genObj g x y)
  lt : s4.heap.objs.size < a
  gs : s5.gens[g]? = some (.fresh (.compStart (.GeneratorExp elt [⟨tg, iter, [], 0⟩] scope gpos) 0 (.ref it) .none (gEnv X scope C code)))

section
variable {X : Cx} {pins : List (Addr × Obj)} {σ : L2.St} {H : Hp} {s : Shared}
theorem gen_mk {c P : Addr} {elt tg iter : Expr} {gpos : Pos} {scope : Scope} {own : List (Str × Nat)} {wi : TI} {k : Nat} {Q' : Value → Shared → Prop} {R : It → Hp → Prop}
    (hr : Room k X.A) (TB : TabB X.base X.mg c P) (hcode : X.env.code = .ref c) (S : GsOk scope) (ok : BlkOk X.N X.env.scope scope own) (hi : PI X tg iter wi)
    (hs : ∀ v, genFold iter X.env v = pure v) (I : Inv X pins σ H s) (h : wi σ H fun J H1 => TabG H1 P ∧ R J H1)
    (hQ : ∀ J H1 H2 it fp tn s4 s5 C a code g x y, R J H1 → Made X pins σ elt tg iter scope gpos P J H1 H2 it fp tn s4 s5 C a code g x y → Q' (.ref a) s5) :
    wpAny (model X.prog X.w) X.A (eval (.GeneratorExp elt [⟨tg, iter, [], 0⟩] scope gpos) X.env) Q' X.xe s := by
  have hfree : ∀ y ∈ scope.names, y.2 = .free → ∃ c, X.env.cells.lookup y.1 = some c := fun y hy e => (ok.free y hy e).elim (fun k => I.ok.has _ (.inl k)) fun k => I.ok.has _ (.inr k)
  refine wpAny_GeneratorExp_make S.co (closure_ok hfree) S.cell S.dot ok.kind (by have := hr.dp; omega) ?_ hs
  refine thn (hi.run pins s σ H _ I h) fun xv s1 hx => thn hx fun itv s2 h2 => ?_
  obtain ⟨it, fp, tn, J, H1, rfl, I2, T, st2, f2, ⟨ps, hP, ht⟩, q⟩ := h2
  have hPs : s2.heap.get? P = some { cls := .none, data := .fields ps } := I2.hok P _ hP
  have cd : PySem.W.CodeHd s2.heap c P := TB.code.keeps fun b u e => I2.bk b u e
  have cont : ∀ (code : Value) (h3 : Heap) (tk : Nat) (more : Array Value), Heap.ExtBut P s2.heap h3 → s2.heap.objs.size ≤ h3.objs.size → h3.get? P = some { cls := .none, data := .fields (ps ++ more) } → TriplesOk (ps ++ more).toList →
      wpAny (model X.prog X.w) X.A (builtinsFor X.env.globals X.env.builtins) (fun bi s₄ =>
        ∀ h', h'.Ns s₄.heap.objs.size (fun y => if y = ".0" then some (Value.ref it) else none) → Heap.SameBut s₄.heap.objs.size (s₄.heap.push { cls := .type "frame", data := .dict #[] }) h' →
          Q' (.ref h'.objs.size) { s₄ with
            gens := s₄.gens.push (.fresh (.compStart (.GeneratorExp elt [⟨tg, iter, [], 0⟩] scope gpos) 0 (.ref it) .none (genEnv scope (cloFrom X.env.cells scope.names []) s₄.heap.objs.size code bi X.env))),
            toks := s₄.toks + 1 + 1 + 1,
            heap := h'.push { cls := .type "generator", data := .fields #[.int s₄.gens.size 0, .str "<genexpr>" (s₄.toks + 1), .str (X.env.qual ++ "<genexpr>") (s₄.toks + 1 + 1)] } }) X.xe { s2 with heap := h3, toks := tk } := by
    intro code h3 tk more hx hsz hP3 ht3
    obtain ⟨bm, ob, e1, e2, e3, e4, e5, e6, e7, e8⟩ := TB.bm
    have keep3 : ∀ b u, b ≠ P → s2.heap.get? b = some u → h3.get? b = some u := fun b u hb e => hx b u hb e
    refine wpAny_builtinsFor (m := X.mg) (by rw [I2.ok.glob]; exact (I2.mod.glob.keeps I2.bk).extBut hx TB.gP) e1 e2 (keep3 _ _ e4 (I2.bk _ _ e5)) e6 e7 e8 ?_
    intro h' hns hsb
    have I4 := inv_tab (more := more) (h' := h3) (g' := s2.gens) (d' := s2.drawn) (t' := tk) I2 hP keep3 hP3 I2.bare
    have old : ∀ b u, h3.get? b = some u → h'.get? b = some u := fun b u e => hsb.extBut b u (Nat.ne_of_lt (Heap.lt_size e)) (Heap.get?_push_of_some _ e)
    have hsz' : h'.objs.size = h3.objs.size + 1 := by rw [hsb.1, Heap.size_push]
    refine hQ J H1 (upd H1 P (.tbl (ps ++ more))) it fp tn { s2 with heap := h3, toks := tk } _ h3.objs.size _ code s2.gens.size _ _ q
      ⟨⟨⟨_, upd_same, ht3⟩, fun b hb => upd_ne hb⟩, I4, T, ?_, fun b hb => ⟨?_, ?_⟩, rfl, fun b o e => Heap.get?_push_of_some _ (old b o e), hns.keeps fun b o e => Heap.get?_push_of_some _ e, rfl, I2.bare.push rfl, Heap.get?_push_size _ rfl, ?_, ?_⟩
    · refine T.keep _ _ _ st2 fun b hb o e => keep3 b o (fun z => ?_) e
      have z2 := (f2 b hb).1
      rw [z, hP] at z2; cases z2
    · refine ⟨?_, (f2 b hb).2⟩
      have nb : b ≠ P := fun z => by
        have z2 := (f2 b hb).1
        rw [z, hP] at z2; cases z2
      rw [upd_ne nb]; exact (f2 b hb).1
    · obtain ⟨o, e, _⟩ := T.obj _ _ st2 b hb
      exact Nat.lt_of_lt_of_le (Heap.lt_size e) hsz
    · show h3.objs.size < h'.objs.size
      omega
    · show (s2.gens.push _)[s2.gens.size]? = _
      rw [Array.getElem?_push_size]
  refine ⟨I2.nolimit, ?_⟩
  cases hf : codeAmong gpos ps.toList with
  | none =>
    refine wpAny_genexprCodeX hcode (cd.code hPs ht) (cd.tab hPs) hf fun c' h' tk hx hge hlt hco' _ htab' _ => ?_
    obtain ⟨o1, vs, f1, tf, fl, tg', inF, tx, tt, op, _, _, _, _, _, _, _, _, _, htr, _⟩ := hco'
    exact cont _ h' tk _ hx (Nat.le_trans hge (Nat.le_of_lt hlt)) htab'.2 htr
  | some cv =>
    refine wpAny_genexprCode_hit hcode (cd.code hPs ht) hf ?_
    have z : ps ++ #[] = ps := by simp
    exact cont cv s2.heap s2.toks #[] (Heap.ExtBut.refl _ _) (Nat.le_refl _) (by rw [z]; exact hPs) (by rw [z]; exact ht)
end

/-! ### all, any: one item after another -/
section
variable {prog : Program} {w : World} {A : Around} {R : Result → Shared → Prop} {a : Addr} {g : Nat} {St : Nat → Shared → Prop} {En : Shared → Prop} {Yl : Nat → Value → Shared → Prop}
theorem allG_loop (hh : A.handled = none) (hd : A.in1.depth < recursionLimit)
    (hen : ∀ s₁ h', En s₁ → (∀ b o, s₁.heap.get? b = some o → h'.get? b = some o) → R (.ok (.ret (.bool true))) { s₁.setGen g .finished with heap := h' })
    (hyl : ∀ m v s₁ gs', gs'.bare = true → Yl m v s₁ → (v = .bool false ∧ R (.ok (.ret (.bool false))) (s₁.setGen g gs')) ∨
      (v = .bool true ∧ (s₁.setGen g gs').heap.NoLimit ∧ (s₁.setGen g gs').heap.IsGen a g ∧ ∃ m', m' < m ∧ St m' ((s₁.setGen g gs').setGen g .running))) :
    ∀ (n : Nat) (s : Shared), s.heap.NoLimit → s.heap.IsGen a g →
      (∃ gs, s.gens[g]? = some gs ∧ gs.Goes (model prog w) A.in1.in1 (fun _ _ r s₁ => r = .ok .next ∧ En s₁) (protoG St Yl) n (.send .none) (s.setGen g .running)) →
      codeAny (model prog w) A (.builtin "all.loop" ⟨[.ref a], []⟩) R s := by
  intro n
  induction n with
  | zero =>
    rintro s hl hg ⟨gs, hgs, hgo⟩
    refine codeAny_builtin F.entry_all_loop ?_
    rw [Around.under_plainId F.plain_all_loop _]
    show wpAny _ A.in1 (pyNext (.ref a) >>= _) _ _ s
    refine wpAny_bind (wpAny_pyNext_genexpQ (P := fun _ _ s₁ => En s₁) hh hl hd hg hgs hgo (fun v s₁ gs' hb hY => ?_) (fun s₁ hP h' hk => ?_))
    · obtain ⟨⟨m, hm, hy⟩, _⟩ := hY
      rcases hyl m v s₁ gs' hb hy with ⟨rfl, hR⟩ | ⟨_, _, _, m', hm', _⟩
      · refine wpAny_bind (wpAny_holding (wpAny_truthy_bool ?_))
        refine wpAny_bind (wpAny_letGo ?_)
        simp only [Bool.false_eq_true, if_false]
        exact wpAny_bind (wpAny_rule (wpAny_pure hR))
      · omega
    · exact wpAny_bind (wpAny_rule (wpAny_pure (hen s₁ h' hP hk)))
  | succ n ih =>
    rintro s hl hg ⟨gs, hgs, hgo⟩
    refine codeAny_builtin F.entry_all_loop ?_
    rw [Around.under_plainId F.plain_all_loop _]
    show wpAny _ A.in1 (pyNext (.ref a) >>= _) _ _ s
    have hsz : g + 1 ≤ s.gens.size := by
      rcases Nat.lt_or_ge g s.gens.size with z | z
      · exact z
      · rw [Array.getElem?_eq_none z] at hgs; cases hgs
    refine wpAny_bind (wpAny_gsz hsz (wpAny_pyNext_genexpQ (P := fun _ _ s₁ => En s₁) hh hl hd hg hgs hgo (fun v s₁ gs' hb hY hn => ?_) (fun s₁ hP h' hk _ => ?_)))
    · obtain ⟨⟨m, hm, hy⟩, hres⟩ := hY
      rcases hyl m v s₁ gs' hb hy with ⟨rfl, hR⟩ | ⟨rfl, hl', hg', m', hm', hst⟩
      · refine wpAny_bind (wpAny_holding (wpAny_truthy_bool ?_))
        refine wpAny_bind (wpAny_letGo ?_)
        simp only [Bool.false_eq_true, if_false]
        exact wpAny_bind (wpAny_rule (wpAny_pure hR))
      · refine wpAny_bind (wpAny_holding (wpAny_truthy_bool ?_))
        refine wpAny_bind (wpAny_letGo ?_)
        simp only [if_true]
        have hm : m ≤ n := hm
        refine wpAny_pure ⟨plainId_quiet F.plain_all_loop _, ih _ hl' hg' ⟨gs', ?_, hres _ m' (by omega) hst⟩⟩
        have hn' : g < s₁.gens.size := by
          rw [setGen_size] at hn; exact hn
        show (s₁.gens.setIfInBounds g gs')[g]? = some gs'
        rw [Array.getElem?_setIfInBounds_self, if_pos hn']
    · exact wpAny_bind (wpAny_rule (wpAny_pure (hen s₁ h' hP hk)))
end
end My

set_option Elab.async false
set_option linter.all false
set_option maxRecDepth 100000
set_option maxHeartbeats 2000000
namespace My
open PySem PySem.Spec PyProof.Rows L2 GxR GenW

/-- the around of the generator's frame, asked for by all or any -/
abbrev gA (X : Cx) (elt tg iter : Expr) (scope : Scope) (gpos : Pos) (it : Addr) (C : Addr) (code : Value) : Around :=
  X.A.in1.in1.over (.compLoop (.GeneratorExp elt [⟨tg, iter, [], 0⟩] scope gpos) 0 (.ref it) .none (gEnv X scope C code)) []
theorem gA_room {X : Cx} {elt tg iter : Expr} {scope : Scope} {gpos : Pos} {it C : Addr} {code : Value} {k : Nat} (hr : Room (k + 1) X.A) : Room k (gA X elt tg iter scope gpos it C code) := by
  have h1 : (gA X elt tg iter scope gpos it C code).depth = X.A.depth + 1 := rfl
  have h2 : (gA X elt tg iter scope gpos it C code).units ≤ X.A.units + 16 := by
    show X.A.in1.in1.units + _ + _ ≤ _
    have : X.A.in1.in1.units ≤ X.A.units + 8 := by
      first
        | exact Nat.le_add_right _ _
        | (show X.A.units + _ + _ ≤ _; omega)
    show X.A.in1.in1.units + 0 + 3 ≤ _
    omega
  exact ⟨hr.hd, by have := hr.dp; omega, by have := hr.un; omega⟩
theorem gA_frames {X : Cx} {elt tg iter : Expr} {scope : Scope} {gpos : Pos} {it C : Addr} {code : Value} (h : X.A.frames = some X.stack) :
    (gA X elt tg iter scope gpos it C code).frames = some (gEnv X scope C code :: X.stack) := by
  have e : (gA X elt tg iter scope gpos it C code).frames = pushEnvs [gEnv X scope C code] (pushEnvs [] X.A.frames) := rfl
  rw [e, h]; rfl

/-- all(e for tg in iter) -/
def tAllG (P : Addr) (wi : TI) (g : TG) (te : TE) (vs : List Nat) : TE := fun σ H Q => wi σ H fun J H1 => TabG H1 P ∧ ∀ H2, Tabbed P H1 H2 →
  ∃ W : Nat → Nat → Hp → Prop, (∃ m, W 0 m H2) ∧ ∀ i m H, W i m H → (J.stop i H ∧ Q (.bl true) H) ∨
    (J.go i H ∧ ∃ Nx : Hp → Prop, (∀ H', Nx H' → ∃ m', m' < m ∧ W (i + 1) m' H') ∧ ∀ x H', J.yld i H x H' → g x (wipe σ vs) H' fun σ2 H2 => wipe σ2 vs = wipe σ vs ∧
      te σ2 H2 fun y H3 => ∃ b, y = .bl b ∧ if b = true then Nx H3 else Q (.bl false) H3)

section
variable {X : Cx}
theorem pe_allG {c P : Addr} {elt tg iter : Expr} {p pos gpos : Pos} {scope : Scope} {own : List (Str × Nat)} {wi : TI} {g : TG} {te : TE} {k : Nat}
    (hc : X.calm = true) (hN : X.N.Nodup) (hr : Room (k + 1) X.A) (hgl : Gl X "all") (hm : X.mg "all" = none) (TB : TabB X.base X.mg c P) (hcode : X.env.code = .ref c)
    (S : GsOk scope) (ok : BlkOk X.N X.env.scope scope own) (hi : PI X tg iter wi)
    (hg : ∀ A' s H C code fp pn, PG (gcx X A' s H (gEnv X scope C code) fp pn) tg g)
    (he : ∀ A' s H C code fp pn, Room k A' → PE (gcx X A' s H (gEnv X scope C code) fp pn) elt te)
    (hs : ∀ v, genFold iter X.env v = pure v := by intro _; rfl)
    (h1 : starEach [.GeneratorExp elt [⟨tg, iter, [], 0⟩] scope gpos] X.env = (false, eval (.GeneratorExp elt [⟨tg, iter, [], 0⟩] scope gpos) X.env) :: starEach [] X.env := by rfl) :
    PE X (.Call (.Name "all" p) [.GeneratorExp elt [⟨tg, iter, [], 0⟩] scope gpos] [] pos) (tAllG P wi g te (own.map (·.2))) := by
  refine ⟨fun pins s σ H Q I h => ?_⟩
  refine wpAny_Call_Name_kw (ld_blt I hgl hm boot_all ?_)
  refine PyProof.Rows.callWith_builtin1 ?_ h1 (by rfl)
  rw [h1]
  show wpAny _ _ (spliced ((false, eval (.GeneratorExp elt [⟨tg, iter, [], 0⟩] scope gpos) X.env) :: backTo pos (starEach [] X.env))) _ _ s
  refine Calls.spliced_cons (gen_mk hr TB hcode S ok hi hs I h fun J H1 H2 it fp tn s4 s5 C a code gi x y q M => ?_)
  refine Calls.spliced_nil ?_
  obtain ⟨W, ⟨m0, w0⟩, turn⟩ := q H2 M.tab
  have hX : X.A.handled = none := M.inv.ok.hd hc
  have I5 : Inv (gcx X (gA X elt tg iter scope gpos it C code) s4 H2 (gEnv X scope C code) fp [(a, genObj gi x y)]) [] (wipe σ (own.map (·.2))) H2 s5 :=
    gen_inv M.inv ok hN S M.fp M.c hX (gA_frames M.inv.ok.frames) M.kp M.ns M.os M.bare fun p hp => by
      rw [List.mem_singleton.mp hp]
      exact ⟨M.obj, M.lt, fun v e => by cases e⟩
  have pg := hg (gA X elt tg iter scope gpos it C code) s4 H2 C code fp [(a, genObj gi x y)]
  have pe := he (gA X elt tg iter scope gpos it C code) s4 H2 C code fp [(a, genObj gi x y)] (gA_room hr)
  have T := M.tu
  generalize hY : gcx X (gA X elt tg iter scope gpos it C code) s4 H2 (gEnv X scope C code) fp [(a, genObj gi x y)] = Y at I5 pg pe
  have stat : ∀ {σ' : L2.St} {H' : Hp} {s' : Shared}, Inv Y [] σ' H' s' → (∀ b ∈ fp, H' b = none) → ∀ b ∈ fp, FpOk Y [] H' b := fun {σ' H' s'} I' hn b hb => by
    subst hY
    refine ⟨hn b hb, (I'.ok.exf b hb).1, I'.ok.exfs b hb, .inl hb, fun x c e => (I'.ok.exf b hb).2 x c e, fun p hp => ?_⟩
    have hp : p ∈ [(a, genObj gi x y)] ++ ([] : List (Addr × Obj)) := hp
    rw [List.append_nil] at hp
    rw [List.mem_singleton.mp hp]
    have h2 := (M.fp b hb).2
    have h3 := M.lt
    exact Nat.ne_of_gt (Nat.lt_trans h2 h3)
  have obj : ∀ {σ' : L2.St} {H' : Hp} {s' : Shared}, Inv Y [] σ' H' s' → s'.heap.IsGen a gi := fun {σ' H' s'} I' => by
    subst hY
    exact ⟨_, x, y, (I'.pin (a, genObj gi x y) (List.mem_append_left _ (List.mem_singleton.mpr rfl))).1, rfl, rfl, rfl⟩
  have back : ∀ {σ' : L2.St} {H' : Hp} {s' : Shared}, Inv Y [] σ' H' s' → Inv X pins σ H' s' := fun {σ' H' s'} I' => by
    subst hY
    exact M.inv.call' (ch := fp) I'.os I'.base I'.hok I'.bare fun b hb => ⟨(M.fp b hb).1.2.2.2.1, (M.fp b hb).1.2.1, (M.fp b hb).1.2.2.2.2.1, (M.fp b hb).1.2.2.2.2.2⟩
  have seg := seg_loopG (prog := X.prog) (w := X.w) (A := X.A.in1.in1) (elt := elt) (tg := tg) (iter := iter) (scope := scope) (pos := gpos) (it := it) (cenv := gEnv X scope C code) S.co
    (fun m s => ∃ i H', Inv Y [] (wipe σ (own.map (·.2))) H' s ∧ tn i s.heap ∧ (∀ b ∈ fp, H' b = none) ∧ W i m H')
    (fun s => ∃ H', Inv Y [] (wipe σ (own.map (·.2))) H' s ∧ Q (.bl true) H')
    (fun m v s => ∃ i H' b, v = .bool b ∧ Inv Y [] (wipe σ (own.map (·.2))) H' s ∧ tn i s.heap ∧ (∀ b ∈ fp, H' b = none) ∧ if b = true then ∃ m', m' < m ∧ W i m' H' else Q (.bl false) H') ?_
  · have hl5 : s5.heap.NoLimit := I5.nolimit
    refine call_function_tree F.kind_all F.plain_all F.entry_all (F.args_all1 _) ?_
    unfold Builtin.«all»
    refine wpAny_bind (m := oneArg "all" _) (wpAny_pure ?_)
    refine wpAny_bind (wpAny_pyIter_gen (obj I5) ?_)
    refine wpAny_pure ⟨plainId_quiet F.plain_all_loop _, ?_⟩
    refine allG_loop (g := gi) (n := m0 + 1) (St := fun m s => ∃ i H', Inv Y [] (wipe σ (own.map (·.2))) H' s ∧ tn i s.heap ∧ (∀ b ∈ fp, H' b = none) ∧ W i m H')
      (En := fun s => ∃ H', Inv Y [] (wipe σ (own.map (·.2))) H' s ∧ Q (.bl true) H')
      (Yl := fun m v s => ∃ i H' b, v = .bool b ∧ Inv Y [] (wipe σ (own.map (·.2))) H' s ∧ tn i s.heap ∧ (∀ b ∈ fp, H' b = none) ∧ if b = true then ∃ m', m' < m ∧ W i m' H' else Q (.bl false) H')
      hX (by have := hr.dp; show X.A.depth < _; omega) ?_ ?_ s5 hl5 (obj I5) ⟨_, M.gs, rfl, ?_⟩
    · rintro s₁ h' ⟨H', I', qq⟩ hk
      have I6 := inv_setGen (g := gi) (x := .finished) I' rfl
      have I7 := (back I6).kept (t' := s₁.toks) hk
      exact ⟨.bl true, H', I7, rfl, qq⟩
    · rintro m v s₁ gs' hb ⟨i, H', b, rfl, I', st', n', q'⟩
      have I6 := inv_setGen (g := gi) I' hb
      cases b with
      | false => exact .inl ⟨rfl, .bl false, H', back I6, rfl, q'⟩
      | true =>
        obtain ⟨m', hm', w'⟩ : ∃ m', m' < m ∧ W i m' H' := q'
        exact .inr ⟨rfl, I6.nolimit, obj I6, m', hm', i, H', inv_setGen I6 rfl, st', n', w'⟩
    · -- the start
      have I6 : Inv Y [] (wipe σ (own.map (·.2))) H2 (s5.setGen gi .running) := inv_setGen I5 rfl
      have st5 : tn 0 (s5.setGen gi .running).heap := T.keep _ _ _ M.st fun b _ o e => M.kp b o e
      have loop := seg (m0 + 1) m0 (s5.setGen gi .running) (s5.setGen gi .running) (Nat.lt_succ_self _) ⟨0, H2, I6, st5, fun b hb => (M.fp b hb).1.1, w0⟩
      show Seg _ X.A.in1.in1 _ _ _ _ _ ((compStart (.GeneratorExp elt [⟨tg, iter, [], 0⟩] scope gpos) 0 (.ref it) .none (gEnv X scope C code)).onRaise (leaving (gEnv X scope C code))) [] _
      unfold compStart
      rw [Sem.onRaise_eq_wrap]
      show Seg _ X.A.in1.in1 _ _ _ _ _ ((ask >>= _).wrap _ _ _ _) [] _
      refine seg_bind_wrap (wpAny_askSetting ?_)
      split
      · exact seg_again rfl loop
      · refine seg_bind_wrap (wpAny_rule ?_)
        show Seg _ X.A.in1.in1 _ _ _ _ _ ((standAt iter.pos >>= _).wrap _ _ _ _) [] _
        exact seg_bind_wrap (wpAny_standAt (seg_bind_wrap (T.self _ 0 _ _ _ st5 (seg_again rfl loop))))
  · rintro m s6 ⟨i, H', I', st', n', w'⟩
    rcases turn i m H' w' with ⟨stop, qq⟩ | ⟨go, Nx, hNx, step⟩
    · have td := T.done Y (by subst hY; rfl) (by subst hY; rfl) (by subst hY; rfl) (by subst hY; rfl) i [] s6 _ H' (fun _ _ => False) I' (stat I' n') st' stop
      subst hY
      refine wpAny_mono td (fun r s7 ⟨hr7, I7⟩ => ?_) fun _ _ e => e
      subst hr7
      exact ⟨H', I7, qq⟩
    · have ti := T.item Y (by subst hY; rfl) (by subst hY; rfl) (by subst hY; rfl) (by subst hY; rfl) i [] s6 _ H' (fun _ _ => False) I' (stat I' n') st' go
      subst hY
      refine wpAny_mono ti (fun r s7 ⟨u, hr7, h7⟩ => ?_) fun _ _ e => e
      subst hr7
      refine wpAny_mono h7 (fun _ s8 ⟨xv, H8, I8, r8, y8, st8, n8⟩ => ?_) fun _ _ e => e
      have I8' := I8.pinned (stat I8 n8) (T.obj _ _ st8)
      refine wpAny_mono (pg.run _ s8 _ H8 xv u _ I8' r8 (step xv H8 y8)) (fun _ s9 ⟨σ9, H9, I9, hw9, q9⟩ => ?_) fun _ _ e => e
      refine wpAny_mono (pe.run _ s9 σ9 H9 _ I9 q9) (fun v s10 ⟨yv, H10, I10, r10, b, eb, q10⟩ => ?_) fun _ _ e => e
      subst eb
      cases r10
      have pin' : ∀ b ∈ fp, ∀ o, s8.heap.get? b = some o → s10.heap.get? b = some o ∧ H10 b = none := fun b hb o e =>
        let z := I10.pin (b, o) (List.mem_append_right _ (List.mem_append_right _ (mem_pinsAt hb e)))
        ⟨z.1, z.2.1⟩
      have hl : (wipe σ (own.map (·.2))).length = σ9.length := by rw [← hw9, wipe_length]
      refine ⟨i + 1, H10, b, rfl, (I10.unpinned (pins := [])).weak hl (fun j v e => ?_), T.keep _ _ _ st8 fun b hb o e => (pin' b hb o e).1, fun b hb => ?_, ?_⟩
      · rw [← hw9] at e
        exact (wipe_some e).1
      · obtain ⟨o, e, _⟩ := T.obj _ _ st8 b hb
        exact (pin' b hb o e).2
      · cases b with
        | true => exact hNx H10 q10
        | false => exact q10
end
end My

set_option Elab.async false
set_option linter.all false
set_option maxRecDepth 100000
namespace My
open PySem PySem.Spec PyProof.Rows L2 GxR

/-! ### a def whose code object is known -/
section
variable {P : Program} {w : World} {K : PySem.W.Frag} {mg : Str → Option Value} {base : Heap}
theorem okC {x qual : Str} {st : Stmt} {f c : Addr} {fd : FuncData} {N ps : List Str} {k : Nat} {sp : Sp} (F : Fun K x qual st f fd) (hc : fd.code = .ref c) (S : FnScope N ps (defScope st))
    (len : ∀ vs H Q E, sp vs H Q E → vs.length = ps.length)
    (hbody : ∀ (A : Around) (outer : List Env) (s : Shared) (H : Hp) (vs : List V) (Q : VK) (E : XK), Room k (A.deeper (envOfC qual (defScope st) s.heap.objs.size f (.ref c))) → sp vs H Q E →
      ∃ t, PSs (cxOf CX0 P w K mg base N qual (defScope st) f (.ref c) A outer s H E).nox (defBody st) t ∧ t { nx := fun _ H' => Q .non H', rt := Q } (start N vs) H) : FnOk P w K mg base CX0 (k + 1) f fd ps sp := by
  obtain ⟨oc, od, kV, doc, pm, an, cdv, ct, osl, rfl, lk, hcd⟩ := F.ex
  have e : cdv = .ref c := hc
  subst e
  refine fn_of lk hcd S len fun A outer s H vs Q E hr hsp => ?_
  obtain ⟨t, h, q⟩ := hbody A outer s H vs Q E hr hsp
  exact ⟨t, h.nox, q⟩
theorem fun_of {x qual : Str} {st : Stmt} {f : Addr} {fd : FuncData} {kws : List (Str × V)} (F : FunD K x qual (defArgs st) (defBody st) (defScope st) [] kws f fd) : Fun K x qual st f fd := by
  obtain ⟨oc, od, dV, kV, doc, pm, an, cdv, ct, osl, rfl, lk, hcd, hD, _⟩ := F.ex
  rcases hD with ⟨_, rfl⟩ | ⟨e, _⟩
  · exact ⟨⟨oc, od, kV, doc, pm, an, cdv, ct, osl, rfl, lk, hcd⟩, F.kp⟩
  · exact absurd rfl e
end

/-! ### a < b < c < d -/
section
variable {X : Cx} {a b c d : Expr} {ta tb tc td : TE} {pos : Pos}
def tChain3 (r1 r2 r3 : R2) (ta tb tc td : TE) : TE := fun σ H Q => ta σ H fun x H1 => tb σ H1 fun y H2 => r1 x y H2 fun z H3 => ∃ k, z = .bl k ∧
  (if k = true then tc σ H3 fun v H4 => r2 y v H4 fun z H5 => ∃ k, z = .bl k ∧ (if k = true then td σ H5 fun u H6 => r3 v u H6 Q else Q (.bl false) H5) else Q (.bl false) H3)
theorem pe_chain3 {o1 o2 o3 : CmpOp} {r1 r2 r3 : R2} (h1 : OpR X (compareOp o1) r1) (h2 : OpR X (compareOp o2) r2) (h3 : OpR X (compareOp o3) r3) (ha : PE X a ta) (hb : PE X b tb) (hc : PE X c tc) (hd : PE X d td)
    (hm : lastMarks [o1, o2, o3] [b, c, d] = false := by with_unfolding_all rfl) : PE X (.Compare a [o1, o2, o3] [b, c, d] pos) (tChain3 r1 r2 r3 ta tb tc td) := by
  refine ⟨fun pins s σ H Q I h => ?_⟩
  refine Compare_chain (thn (ha.run pins s σ H _ I h) fun v s1 ⟨x, H1, I1, q1, p1⟩ => chain_link (thn (hb.run pins s1 σ H1 _ I1 p1) fun u s2 ⟨y, H2, I2, q2, p2⟩ =>
    thn (h1 pins s2 σ H2 x y v u _ I2 q1 q2 p2) fun e s3 ⟨z, H3, I3, q3, k, ek, p3⟩ => ?_)) hm
  subst ek
  cases q3
  refine wpAny_truthy_bool ?_
  cases k with
  | false => exact ite_ff ⟨.bl false, H3, I3, rfl, p3⟩
  | true =>
    refine ite_tt (chain_link (thn (hc.run pins s3 σ H3 _ I3 p3) fun u4 s4 ⟨y4, H4, I4, q4, p4⟩ => thn (h2 pins s4 σ H4 y y4 u u4 _ I4 q2 q4 p4) fun e5 s5 ⟨z5, H5, I5, q5, k5, ek5, p5⟩ => ?_))
    subst ek5
    cases q5
    refine wpAny_truthy_bool ?_
    cases k5 with
    | false => exact ite_ff ⟨.bl false, H5, I5, rfl, p5⟩
    | true => exact ite_tt (chain_last (thn (hd.run pins s5 σ H5 _ I5 p5) fun u6 s6 ⟨y6, H6, I6, q6, p6⟩ => h3 pins s6 σ H6 y4 y6 u4 u6 Q I6 q4 q6 p6))
end

/-! ### all over what is walked -/
theorem allG_it {J : It} {n : Nat} {G : Hp → Prop} {Y : Nat → Hp → V → Hp → Prop} (w : Walk J n G Y) {g : TG} {te : TE} {vs : List Nat} {σ : L2.St} {H0 : Hp} {QT QF : Hp → Prop} (Pv : Nat → Hp → Prop) (h0 : Pv 0 H0) (hG : ∀ i H, i ≤ n → Pv i H → G H)
    (hs : ∀ i x H H', i < n → Pv i H → Y i H x H' → g x (wipe σ vs) H' fun σ2 H2 => wipe σ2 vs = wipe σ vs ∧ te σ2 H2 fun y H3 => ∃ b, y = .bl b ∧ if b = true then Pv (i + 1) H3 else QF H3)
    (hd : ∀ H, Pv n H → QT H) :
    ∃ W : Nat → Nat → Hp → Prop, (∃ m, W 0 m H0) ∧ ∀ i m H, W i m H → (J.stop i H ∧ QT H) ∨
      (J.go i H ∧ ∃ Nx : Hp → Prop, (∀ H', Nx H' → ∃ m', m' < m ∧ W (i + 1) m' H') ∧ ∀ x H', J.yld i H x H' → g x (wipe σ vs) H' fun σ2 H2 => wipe σ2 vs = wipe σ vs ∧
        te σ2 H2 fun y H3 => ∃ b, y = .bl b ∧ if b = true then Nx H3 else QF H3) := by
  refine ⟨fun i m H => m = n - i ∧ i ≤ n ∧ Pv i H, ⟨n, rfl, Nat.zero_le _, h0⟩, ?_⟩
  rintro i m H ⟨rfl, hi, p⟩
  have q := hG i H hi p
  by_cases hlt : i < n
  · exact .inr ⟨w.goes i H hlt q, Pv (i + 1), fun H' p' => ⟨n - (i + 1), by omega, rfl, hlt, p'⟩, fun x H' y => hs i x H H' hlt p (w.yields i H x H' hlt q y)⟩
  · have e : i = n := by omega
    subst e
    exact .inl ⟨w.stops H q, hd H p⟩
theorem walk_zipT {K : PySem.W.Frag} {a b : Addr} {xs ys : List V} {n : Nat} (hn : n = min xs.length ys.length) :
    Walk (RZ.ItzT K a b) n (fun H => SqT K H a xs ∧ SqT K H b ys) (YPair (fun i => xs[i]?) (fun i => ys[i]?)) := by
  subst hn
  refine ⟨fun i _ hi q => ?_, fun _ q => ⟨xs, ys, q.1, q.2, by omega⟩, fun i H v H' _ q y => ?_⟩
  · have h1 : i < xs.length := by omega
    have h2 : i < ys.length := by omega
    exact ⟨xs, ys, xs[i], ys[i], q.1, q.2, List.getElem?_eq_getElem h1, List.getElem?_eq_getElem h2⟩
  · obtain ⟨T, x, z, h1, h2, h3, h4, h5⟩ := y
    exact ⟨T, x, z, h1, h2, h3, h4 xs q.1, h5 ys q.2⟩
theorem cut1 (xs : List V) : cutV xs (some 1) none = xs.drop 1 := by
  unfold cutV
  rw [show HT.sIx xs.length 0 (some 1) = min 1 xs.length from HT.sIx_nat xs.length 0 1, HT.sIx_none]
  cases xs with
  | nil => rfl
  | cons x r =>
    rw [show min 1 (x :: r).length = 1 by rw [List.length_cons]; omega]
    show (List.take ((x :: r).length - 1) r) = r
    rw [List.length_cons, Nat.add_sub_cancel]
    exact List.take_length
theorem lex_of {s t : Int × Int} (h : ltT s t) : HT.lexLt [s.1, s.2] [t.1, t.2] = true := by
  rw [HT.lexLt_cons]
  rcases h with h | ⟨h, k⟩
  · rw [if_neg (by omega)]; exact decide_eq_true h
  · rw [if_pos h, HT.lexLt_cons, if_neg (by omega)]; exact decide_eq_true k
end My

set_option Elab.async false
set_option linter.all false
set_option maxRecDepth 100000
namespace My
open PySem PySem.Spec PyProof.Rows L2
section
variable {P : Program} {w : World} {K : PySem.W.Frag} {mg : Str → Option Value} {base : Heap}

/-! ### _law_mix -/
abbrev N__law_mix : List Str := ["_law_cell", "_law_k", "_law_m"]
theorem sc__law_mix : FnScope N__law_mix ["_law_cell", "_law_k"] (defScope s__law_mix) := ⟨rfl, rfl, rfl, by decide +kernel, rfl, by decide +kernel, by decide +kernel⟩
def sp_mix : Sp := fun vs H Q _ => ∃ c k : Int, vs = [.int c, .int k] ∧ -(2 ^ 60) < k ∧ k < 2 ^ 60 ∧
  ∀ r : Int, 0 ≤ r → Q (.int r) H
theorem ok_mix {f : Addr} {fd : FuncData} (F : Fun K "_law_mix" "_law_mix" s__law_mix f fd) :
    FnOk P w K mg base CX0 1 f fd ["_law_cell", "_law_k"] sp_mix := by
  refine F.ok sc__law_mix (fun vs H Q E h => ?_) (fun cdv A outer s H vs Q E hr h => ?_)
  · obtain ⟨c, k, rfl, _⟩ := h; rfl
  · obtain ⟨c, k, rfl, h1, h2, q⟩ := h
    refine ⟨_, (pss_cons (ps_set (i := 2) sc__law_mix.nd rfl (by first | exact Or.inl rfl | exact Or.inr rfl) (pe_op op_mod (pe_op op_mul (pe_op op_add (pe_op op_add (pe_op op_mod (pv 0) pe_int) (pe_op op_mul (pe_op op_mul (pv 1) (pv 1)) pe_int)) pe_int) pe_int) pe_int))
    (pss_one (ps_ret (pe_op op_mod (pe_op op_mul (pv 2) (pv 2)) pe_int)))), ?_⟩
    refine ⟨_, rfl, _, _, rfl, rfl, (by decide : (0 : Int) < 2147483629), ?_⟩
    refine ⟨_, rfl, _, rfl, _, _, rfl, rfl, .inl ⟨by omega, by omega⟩, ?_⟩
    refine ⟨_, _, rfl, rfl, .inr ⟨by decide, by decide⟩, ?_⟩
    refine ⟨_, _, rfl, rfl, ?_⟩
    refine ⟨_, _, rfl, rfl, ?_⟩
    refine ⟨_, _, rfl, rfl, .inr ⟨by decide, by decide⟩, ?_⟩
    refine ⟨_, _, rfl, rfl, (by decide : (0 : Int) < 2147483647), ?_⟩
    have b1 : ∀ x : Int, 0 ≤ x % 2147483647 := fun x => Int.emod_nonneg _ (by decide)
    have b2 : ∀ x : Int, x % 2147483647 < 2147483647 := fun x => Int.emod_lt_of_pos _ (by decide)
    refine ⟨_, rfl, _, rfl, _, _, rfl, rfl, .inl ⟨by have := b1 (((c % 2147483629 + k * k * 7919) + 11) * 48271); omega, by have := b2 (((c % 2147483629 + k * k * 7919) + 11) * 48271); omega⟩, ?_⟩
    refine ⟨_, _, rfl, rfl, (by decide : (0 : Int) < 1999999973), ?_⟩
    exact q _ (Int.emod_nonneg _ (by decide))

/-! ### _law_left -/
abbrev N__law_left : List Str := ["_law_script", "_law_k", "_law_cell"]
theorem sc__law_left : FnScope N__law_left ["_law_script", "_law_k"] (defScope s__law_left) := ⟨rfl, rfl, rfl, by decide +kernel, rfl, by decide +kernel, by decide +kernel⟩
def sp_left (K : PySem.W.Frag) : Sp := fun vs H Q _ => ∃ (a : Addr) (ns : List Int) (k : Int), vs = [.ref a, .int k] ∧ SqL K H a (ns.map V.int) ∧ 0 ≤ k ∧ k < 2 ^ 60 ∧
  ∀ L H', H L = none → Same H H' → Lf H' L 0 → Q (.ref L) H'
theorem ok_left {f : Addr} {fd : FuncData} (B : Bts mg) (F : Fun K "_law_left" "_law_left" s__law_left f fd) :
    FnOk P w K mg base CX0 1 f fd ["_law_script", "_law_k"] (sp_left K) := by
  refine F.ok sc__law_left (fun vs H Q E h => ?_) (fun cdv A outer s H vs Q E hr h => ?_)
  · obtain ⟨c, k, _, rfl, _⟩ := h; rfl
  · obtain ⟨a, ns, k, rfl, hS, h1, h2, q⟩ := h
    refine ⟨_, (pss_cons (ps_set (i := 2) sc__law_left.nd rfl (by first | exact Or.inl rfl | exact Or.inr rfl) (pe_ifExp (pt_cmpR op_lt (pv 1) (pe_callB call_len_seq (by rfl) B.len (by decide +kernel) (pa_cons (pv 0) pa_nil)) (nomark _)) (pe_ix ix_list (pv 0) (pv 1) (fun _ _ => rfl)) pe_int))
    (pss_one (ps_ret (pe_lst (pa_cons (pe_op op_mul (pe_callB call_abs (by rfl) B.abs (by decide +kernel) (pa_cons (pv 2) pa_nil)) (pe_callTy call_int1 (by rfl) B.int (by decide +kernel) (pa_cons (pe_cmpR op_ge (pe_callB call_abs (by rfl) B.abs (by decide +kernel) (pa_cons (pv 2) pa_nil)) (pe_op op_pow pe_int pe_int) (nomark _)) pa_nil))) (pa_cons (pe_op op_add (pv 2) (pe_op op_mul pe_int (pv 1))) (pa_cons pe_int pa_nil))))))), ?_⟩
    have rest : ∀ x : Int, (tRet (tLst (tCons (tOp (rI CMul fun i j => .int (i * j)) (tCB (fun xs H Q => ∃ i, xs = [.int i] ∧ Q (.int (if i < 0 then -i else i)) H) (tCons (tVar 2) tNil)) (tCB (fun xs H Q => (∃ i, xs = [.int i] ∧ Q (.int i) H) ∨ ∃ k, xs = [.bl k] ∧ Q (.int (if k then 1 else 0)) H) (tCons (tOp (rI0 fun i j => .bl (decide (j ≤ i))) (tCB (fun xs H Q => ∃ i, xs = [.int i] ∧ Q (.int (if i < 0 then -i else i)) H) (tCons (tVar 2) tNil)) (tOp (rI CPow fun i j => .int (i ^ j.toNat)) (tC (.int 10)) (tC (.int 18)))) tNil))) (tCons (tOp (rI0 fun i j => .int (i + j)) (tVar 2) (tOp (rI CMul fun i j => .int (i * j)) (tC (.int 1000003)) (tVar 1))) (tCons (tC (.int 0)) tNil))))) { nx := fun _ H' => Q .non H', rt := Q } ((start N__law_left [.ref a, .int k]).set 2 (some (.int x))) H := by
      intro x
      refine ⟨_, rfl, _, rfl, ?_⟩
      refine ⟨_, rfl, _, rfl, ?_⟩
      refine ⟨_, _, rfl, rfl, ⟨by decide, by decide, by decide⟩, ?_⟩
      refine ⟨_, _, rfl, rfl, .inr ⟨_, rfl, ?_⟩⟩
      refine ⟨_, _, rfl, rfl, .inr ⟨?_, ?_⟩, ?_⟩
      · exact (bi _).1
      · exact (bi _).2.1
      refine ⟨_, rfl, _, rfl, _, _, rfl, rfl, .inl ⟨by decide, by decide⟩, ?_⟩
      refine ⟨_, _, rfl, rfl, ?_⟩
      refine ⟨by show 3 ≤ sizeLine; decide, fun p np => ?_⟩
      refine q p _ np (same_new np) ⟨_, _, _, upd_same, ?_, Int.le_refl _, Int.le_refl _⟩
      refine Int.mul_nonneg ?_ ?_
      · split <;> omega
      · exact (bi _).2.2
    refine ⟨_, rfl, _, rfl, a, _, rfl, .inl hS, _, _, rfl, rfl, _, rfl, ite2 (fun e => ?_) (fun e => ?_)⟩
    · have e := of_decide_eq_true e
      rw [List.length_map] at e
      have hk : k.toNat < ns.length := by omega
      have g : (ns.map V.int)[k.toNat]? = some (.int ns[k.toNat]) := by
        rw [List.getElem?_map, List.getElem?_eq_getElem hk]; rfl
      have g2 := atI_nat g
      rw [Int.toNat_of_nonneg h1] at g2
      refine ⟨_, rfl, _, rfl, a, _, k, _, rfl, rfl, hS, g2, ?_⟩
      exact rest _
    · exact rest 0

/-! ### _law_pick -/
abbrev N__law_pick : List Str := ["_law_left_here", "_law_many", "_law_digit"]
theorem sc__law_pick : FnScope N__law_pick ["_law_left_here", "_law_many"] (defScope s__law_pick) := ⟨rfl, rfl, rfl, by decide +kernel, rfl, by decide +kernel, by decide +kernel⟩
def sp_pick : Sp := fun vs H Q _ => ∃ (L : Addr) (m c : Int), vs = [.ref L, .int m] ∧ Lf H L c ∧ 0 < m ∧ m < 1000000 ∧ c < 2 ^ 50 ∧
  ∀ (r : Int) (H' : Hp), 0 ≤ r → r < m → Fr L H H' → Lf H' L (c + 1) → Q (.int r) H'
theorem ok_pick {f : Addr} {fd : FuncData} (F : Fun K "_law_pick" "_law_pick" s__law_pick f fd) (c__law_mix : Cl P w K mg base 1 "_law_mix" sp_mix) :
    FnOk P w K mg base CX0 2 f fd ["_law_left_here", "_law_many"] sp_pick := by
  refine F.ok sc__law_pick (fun vs H Q E h => ?_) (fun cdv A outer s H vs Q E hr h => ?_)
  · obtain ⟨c, k, _, rfl, _⟩ := h; rfl
  · obtain ⟨L, m, c, rfl, ⟨x, y, z, hL, hx, hz, hzc⟩, h1, h2, h3, q⟩ := h
    refine ⟨_, (pss_cons (ps_asg (pe_op op_add (pe_ix ix_list (pv 0) pe_int (fun _ _ => rfl)) pe_int) (pg_sub (pv 0) pe_int set_list))
    (pss_cons (ps_if (pt_cmpR op_gt (pe_ix ix_list (pv 0) pe_int (fun _ _ => rfl)) pe_int (nomark _)) (pss_cons (ps_set (i := 2) sc__law_pick.nd rfl (by first | exact Or.inl rfl | exact Or.inr rfl) (pe_op op_mod (pe_ix ix_list (pv 0) pe_int (fun _ _ => rfl)) (pv 1)))
      (pss_cons (ps_asg (pe_op op_fdiv (pe_ix ix_list (pv 0) pe_int (fun _ _ => rfl)) (pv 1)) (pg_sub (pv 0) pe_int set_list))
      (pss_one (ps_ret (pv 2))))) pss_nil)
    (pss_one (ps_ret (pe_op op_mod (pe_op op_fdiv (pe_c c__law_mix hr (by decide) (by rfl) (pa_cons (pe_c c__law_mix hr (by decide) (by rfl) (pa_cons (pe_ix ix_list (pv 0) pe_int (fun _ _ => rfl)) (pa_cons (pe_ix ix_list (pv 0) pe_int (fun _ _ => rfl)) pa_nil))) (pa_cons (pe_op op_add (pe_ix ix_list (pv 0) pe_int (fun _ _ => rfl)) pe_int) pa_nil))) pe_int) (pv 1)))))), ?_⟩
    refine ⟨_, rfl, L, _, _, _, rfl, rfl, SqL.of hL, rfl, _, _, rfl, rfl, ?_⟩
    refine ⟨_, rfl, L, _, _, _, rfl, rfl, hL, rfl, ?_⟩
    refine ⟨_, rfl, L, _, _, _, rfl, rfl, SqL.of upd_same, rfl, _, _, rfl, rfl, _, rfl, ite2 (fun e => ?_) (fun e => ?_)⟩
    · refine ⟨_, rfl, L, _, _, _, rfl, rfl, SqL.of upd_same, rfl, _, rfl, _, _, rfl, rfl, h1, ?_⟩
      refine ⟨_, rfl, L, _, _, _, rfl, rfl, SqL.of upd_same, rfl, _, rfl, _, _, rfl, rfl, ⟨h1, by omega⟩, ?_⟩
      refine ⟨_, rfl, L, _, _, _, rfl, rfl, upd_same, rfl, ?_⟩
      refine ⟨_, rfl, ?_⟩
      refine q _ _ (Int.emod_nonneg _ (by omega)) (Int.emod_lt_of_pos _ h1) ((Fr.refl L H).putL.putL) ⟨_, _, _, upd_same, ?_, ?_, ?_⟩
      · exact Int.ediv_nonneg hx (Int.le_of_lt h1)
      · omega
      · omega
    · refine ⟨_, rfl, L, _, _, _, rfl, rfl, SqL.of upd_same, rfl, ?_⟩
      refine ⟨_, rfl, L, _, _, _, rfl, rfl, SqL.of upd_same, rfl, ?_⟩
      refine ⟨_, _, rfl, by omega, by omega, fun r hr0 => ?_⟩
      refine ⟨_, rfl, L, _, _, _, rfl, rfl, SqL.of upd_same, rfl, _, _, rfl, rfl, ?_⟩
      refine ⟨_, _, rfl, by omega, by omega, fun r2 hr2 => ?_⟩
      refine ⟨_, _, rfl, rfl, ⟨by decide, by decide⟩, ?_⟩
      refine ⟨_, rfl, _, _, rfl, rfl, h1, ?_⟩
      exact q _ _ (Int.emod_nonneg _ (by omega)) (Int.emod_lt_of_pos _ h1) (Fr.refl L H).putL ⟨_, _, _, upd_same, hx, by omega, by omega⟩
end
end My

set_option Elab.async false
set_option linter.all false
set_option maxRecDepth 100000
namespace My
open PySem PySem.Spec PyProof.Rows L2
section
variable {P : Program} {w : World} {K : PySem.W.Frag} {mg : Str → Option Value} {base : Heap}

/-! ### _law_pairs -/
abbrev N__law_pairs : List Str := ["_law_many", "_law_found", "_law_a", "_law_b"]
theorem sc__law_pairs : FnScope N__law_pairs ["_law_many"] (defScope s__law_pairs) := ⟨rfl, rfl, rfl, by decide +kernel, rfl, by decide +kernel, by decide +kernel⟩
def sp_pairs : Sp := fun vs H Q _ => ∃ n : Nat, vs = [.int (n : Int)] ∧ n ≤ 100 ∧
  ∀ p vs H', H p = none → Same H H' → H' p = some (.lst vs) → Ties H' vs (pup n n) → Q (.ref p) H'
theorem ok_pairs {f : Addr} {fd : FuncData} (B : Bts mg) (F : Fun K "_law_pairs" "_law_pairs" s__law_pairs f fd) :
    FnOk P w K mg base CX0 1 f fd ["_law_many"] sp_pairs := by
  refine F.ok sc__law_pairs (fun vs H Q E h => ?_) (fun cdv A outer s H vs Q E hr h => ?_)
  · obtain ⟨n, rfl, _⟩ := h; rfl
  · obtain ⟨n, rfl, hn, q⟩ := h
    refine ⟨_, (pss_cons (ps_set (i := 1) sc__law_pairs.nd rfl (by first | exact Or.inl rfl | exact Or.inr rfl) (pe_lst pa_nil))
    (pss_cons (ps_for PassesOwn.never rfl (pi_range1 (by rfl) B.range (pa_cons (pv 0) pa_nil)) (pg_name (i := 2) sc__law_pairs.nd rfl (by first | exact Or.inl rfl | exact Or.inr rfl))
      (pss_one (ps_expr (pe_bm PySem.F.plainAttrs_list PySem.F.slot_list_extend PySem.F.type_list_extend mt_extend (pv 1) (pa_cons (pe_lc (own := [("_law_b", 3)]) (g := (gName 3)) (tt := tYes) rfl sc__law_pairs.nd (pi_range2 (by rfl) B.range (pa_cons (pe_op op_add (pv 2) pe_int) (pa_cons (pv 0) pa_nil))) (blkOk_by (own := [("_law_b", 3)]) (N := N__law_pairs) (sc := defScope s__law_pairs) (by decide +kernel)) (fun _ _ _ _ _ => (pg_name (i := 3) sc__law_pairs.nd rfl (by first | exact Or.inl rfl | exact Or.inr rfl))) (fun _ _ _ _ _ => pts_nil) (fun _ _ _ _ _ => (pe_tup (pa_cons (pv 2) (pa_cons (pv 3) pa_nil))))) pa_nil)))))
    (pss_one (ps_ret (pv 1))))), ?_⟩
    refine ⟨Nat.zero_le _, fun o no => ?_⟩
    refine ⟨_, rfl, _, rfl, by omega, by omega, ?_⟩
    refine for_range (fun i σ H1 => ∃ vs y2 y3, σ = [some (.int (n : Int)), some (.ref o), y2, y3] ∧ Same H H1 ∧ H1 o = some (.lst vs) ∧ Ties H1 vs (pup n i)) ⟨[], none, none, rfl, same_new no, upd_same, trivial⟩ ?_ ?_
    · rintro i σ H1 hi ⟨vs, y2, y3, rfl, sm, eo, hT⟩
      have hi : i < n := by omega
      refine ⟨_, rfl, .inl ⟨rfl, _, SqL.of eo⟩, ?_⟩
      refine ⟨_, rfl, _, _, rfl, rfl, _, rfl, _, _, rfl, ⟨by omega, by omega, by omega, by omega⟩, fun D nD => ?_⟩
      refine lc_range (fun j H2 => ∃ us, Same H1 H2 ∧ H2 D = some (.lst us) ∧ Ties H2 us (prow i j)) ⟨[], same_new nD, upd_same, trivial⟩ ?_ ?_
      · rintro j H2 hj ⟨us, sm2, eD, hU⟩
        refine ⟨rfl, yes ?_⟩
        refine ⟨_, rfl, _, rfl, by show 2 ≤ sizeLine; decide, fun t nt => ?_⟩
        have nDt : D ≠ t := ne_of_none eD nt
        refine ⟨us, by rw [upd_ne nDt]; exact eD, sz' (by rw [hU.len, prow_len]; omega), us ++ [.ref t], ?_, upd_same, ?_⟩
        · exact Same.put (sm2.trans (same_new nt)) nD
        · rw [prow_succ]
          have a1 : Tst (upd H2 t (.tup [.int (0 + (i : Int)), .int (0 + (i : Int) + 1 + (j : Int))])) (upd (upd H2 t (.tup [.int (0 + (i : Int)), .int (0 + (i : Int) + 1 + (j : Int))])) D (.lst (us ++ [.ref t]))) := tst_put (by rw [upd_ne nDt]; exact eD)
          refine ((hU.mono (tst_new nt)).mono a1).app (Ties.one ?_)
          rw [Int.zero_add] at a1 ⊢
          exact Tie.new.mono a1
      · rintro H2 ⟨us, sm2, eD, hU⟩
        have e : ((n : Int) - (0 + (i : Int) + 1)).toNat = n - (i + 1) := by omega
        rw [e] at hU
        have eo2 := sm2 _ _ eo
        have l1 := pup_len' hn (Nat.le_of_lt hi)
        refine ⟨o, D, vs, us, rfl, rfl, eo2, eD, sz (by rw [hT.len, hU.len, prow_len]; omega), ?_⟩
        refine ⟨vs ++ us, _, y3, rfl, Same.put (sm.trans sm2) no, upd_same, ?_⟩
        rw [pup_succ]
        exact ((hT.mono (Same.tst sm2)).app hU).mono (tst_put eo2)
    · rintro σ H1 ⟨vs, y2, y3, rfl, sm, eo, hT⟩
      rw [Int.toNat_natCast] at hT
      exact ⟨_, rfl, q o vs H1 no sm eo hT⟩

/-! ### _law_row -/
abbrev N__law_row : List Str := ["_law_left_here", "_law_many", "_law_row_here", "_law_k"]
theorem sc__law_row : FnScope N__law_row ["_law_left_here", "_law_many"] (defScope s__law_row) := ⟨rfl, rfl, rfl, by decide +kernel, rfl, by decide +kernel, by decide +kernel⟩
def sp_row : Sp := fun vs H Q _ => ∃ (L : Addr) (n : Nat) (c : Int), vs = [.ref L, .int (n : Int)] ∧ Lf H L c ∧ n ≤ 100 ∧ c < 2 ^ 49 ∧
  ∀ (p : Addr) (ns : List Int) (H' : Hp), H p = none → Fr L H H' → Lf H' L (c + n) → H' p = some (.lst (ns.map V.int)) → ns.Perm (up n) → Q (.ref p) H'
theorem ok_row {f : Addr} {fd : FuncData} (B : Bts mg) (F : Fun K "_law_row" "_law_row" s__law_row f fd) (c__law_pick : Cl P w K mg base 2 "_law_pick" sp_pick) :
    FnOk P w K mg base CX0 3 f fd ["_law_left_here", "_law_many"] sp_row := by
  refine F.ok sc__law_row (fun vs H Q E h => ?_) (fun cdv A outer s H vs Q E hr h => ?_)
  · obtain ⟨L, n, c, rfl, _⟩ := h; rfl
  · obtain ⟨L, n, c, rfl, hL, hn, hc, q⟩ := h
    refine ⟨_, (pss_cons (ps_set (i := 2) sc__law_row.nd rfl (by first | exact Or.inl rfl | exact Or.inr rfl) (pe_lst pa_nil))
    (pss_cons (ps_for PassesOwn.never rfl (pi_range1 (by rfl) B.range (pa_cons (pv 1) pa_nil)) (pg_name (i := 3) sc__law_row.nd rfl (by first | exact Or.inl rfl | exact Or.inr rfl))
      (pss_one (ps_expr (pe_bm PySem.F.plainAttrs_list PySem.F.slot_list_insert PySem.F.type_list_insert mt_insert (pv 2) (pa_cons (pe_c c__law_pick hr (by decide) (by rfl) (pa_cons (pv 0) (pa_cons (pe_op op_add (pv 3) pe_int) pa_nil))) (pa_cons (pv 3) pa_nil))))))
    (pss_one (ps_ret (pv 2))))), ?_⟩
    refine ⟨Nat.zero_le _, fun o no => ?_⟩
    refine ⟨_, rfl, _, rfl, by omega, by omega, ?_⟩
    refine for_range (fun i σ H1 => ∃ (ns : List Int) (y3 : Option V), σ = [some (.ref L), some (.int (n : Int)), some (.ref o), y3] ∧ Fr L H H1 ∧ Lf H1 L (c + i) ∧ H1 o = some (.lst (ns.map V.int)) ∧ ns.Perm (up i)) ⟨[], none, rfl, Fr.new no, (hL.new no).mono (by omega), upd_same, .refl _⟩ ?_ ?_
    · rintro i σ H1 hi ⟨ns, y3, rfl, fr, lf, eo, hp⟩
      have hi : i < n := by omega
      have no' : o ≠ L := hL.ne no
      refine ⟨_, rfl, .inl ⟨rfl, _, SqL.of eo⟩, ?_⟩
      refine ⟨_, rfl, _, rfl, _, _, rfl, rfl, ?_⟩
      refine ⟨L, _, c + i, rfl, lf, by omega, by omega, by omega, fun r H2 r0 r1 fr2 lf2 => ?_⟩
      refine ⟨_, rfl, ?_⟩
      have eo2 := fr2 _ _ no' eo
      refine ⟨o, _, _, _, rfl, rfl, eo2, sz' ?_, r0, by omega, ?_⟩
      · rw [List.length_map, hp.length_eq, up_len]; omega
      · refine ⟨ns.take r.toNat ++ [(i : Int)] ++ ns.drop r.toNat, _, rfl, ?_, ?_, ?_, ?_⟩
        · exact (fr.trans fr2).put no
        · exact (lf2.mono (by omega)).put no'
        · rw [upd_same, List.map_append, List.map_append, List.map_take, List.map_drop, Int.zero_add]; rfl
        · rw [up_succ]
          exact (ins_perm _ _ _).trans (hp.append_right _)
    · rintro σ H1 ⟨ns, y3, rfl, fr, lf, eo, hp⟩
      rw [Int.toNat_natCast] at lf hp
      exact ⟨_, rfl, q o ns H1 no fr lf eo hp⟩
end
end My

set_option Elab.async false
set_option linter.all false
set_option maxRecDepth 100000
namespace My
open PySem PySem.Spec PyProof.Rows L2
section
variable {P : Program} {w : World} {K : PySem.W.Frag} {mg : Str → Option Value} {base : Heap}

def sp_gen : Sp := fun vs H Q _ => ∃ (L : Addr) (n : Nat) (c : Int), vs = [.ref L, .int (n : Int)] ∧ Lf H L c ∧ n ≤ 12 ∧ c < 2 ^ 48 ∧
  ∀ (v : V) (H' : Hp) (ts : List (Int × Int)), Fr L H H' → Lf H' L (c + 100000) → Web H' v n ts → WOk n ts → Q v H'

end
end My

set_option Elab.async false
set_option linter.all false
set_option maxRecDepth 100000
namespace My
open PySem PySem.Spec PyProof.Rows L2
section
variable {P : Program} {w : World} {K : PySem.W.Frag} {mg : Str → Option Value} {base : Heap}

/-- rows of all places, each a list of its own, none of them at one of two places -/
def Rws (H : Hp) (n : Nat) (L D : Addr) (vs : List V) : Prop :=
  ∀ v ∈ vs, ∃ (p : Addr) (ns : List Int), v = .ref p ∧ p ≠ L ∧ p ≠ D ∧ H p = some (.lst (ns.map V.int)) ∧ ns.Perm (up n)

end
end My

set_option Elab.async false
set_option linter.all false
set_option maxRecDepth 100000
namespace My
open PySem PySem.Spec PyProof.Rows L2
section
variable {P : Program} {w : World} {K : PySem.W.Frag} {mg : Str → Option Value} {base : Heap}

end
end My

set_option Elab.async false
set_option linter.all false
set_option maxRecDepth 100000
namespace My
open PySem PySem.Spec PyProof.Rows L2

/-! ### heaps: all stays but what stands at some places -/
def FrM (M : List Addr) (H H' : Hp) : Prop := ∀ b o, b ∉ M → H b = some o → H' b = some o
theorem FrM.refl (M : List Addr) (H : Hp) : FrM M H H := fun _ _ _ h => h
theorem FrM.trans {M : List Addr} {H H1 H2 : Hp} (a : FrM M H H1) (b : FrM M H1 H2) : FrM M H H2 := fun c o n h => b c o n (a c o n h)
theorem FrM.same {M : List Addr} {H H' : Hp} (a : Same H H') : FrM M H H' := fun b o _ h => a b o h
theorem FrM.wk {M N : List Addr} {H H' : Hp} (a : FrM M H H') (h : ∀ x ∈ M, x ∈ N) : FrM N H H' := fun b o n e => a b o (fun m => n (h b m)) e
theorem FrM.put {M : List Addr} {H H' : Hp} {p : Addr} {o : HO} (a : FrM M H H') (h : p ∈ M) : FrM M H (upd H' p o) := fun b x n e => by
  rw [upd_ne (fun z => n (by rw [z]; exact h))]; exact a b x n e
theorem FrM.putN {M : List Addr} {H H' : Hp} {p : Addr} {o : HO} (a : FrM M H H') (h : H p = none) : FrM M H (upd H' p o) := fun b x n e => by
  rw [upd_ne (ne_of_none e h)]; exact a b x n e
theorem FrM.tst {M : List Addr} {H H' : Hp} (a : FrM M H H') (h : ∀ x ∈ M, ∃ xs, H x = some (.lst xs)) : Tst H H' := fun b xs e => by
  refine a b _ (fun m => ?_) e
  obtain ⟨ys, z⟩ := h b m
  rw [z] at e; cases e
theorem Fr.m {L : Addr} {M : List Addr} {H H' : Hp} (a : Fr L H H') (h : L ∈ M) : FrM M H H' := fun b o n e => a b o (fun z => n (by rw [z]; exact h)) e

/-- a list of numbers that stands at none of some places -/
def Gp (M : List Addr) (H : Hp) (v : V) (g : List Int) : Prop := ∃ p, v = .ref p ∧ p ∉ M ∧ H p = some (.lst (g.map V.int))
theorem Gp.mono {M N : List Addr} {H H' : Hp} {v : V} {g : List Int} (h : Gp M H v g) (a : FrM M H H') (s : ∀ x ∈ N, x ∈ M) : Gp N H' v g := by
  obtain ⟨p, e, n, h⟩ := h
  exact ⟨p, e, fun m => n (s p m), a p _ n h⟩
theorem Gp.new {M : List Addr} {H : Hp} {v : V} {g : List Int} {D : Addr} {o : HO} (h : Gp M H v g) (nD : H D = none) : Gp (D :: M) (upd H D o) v g := by
  obtain ⟨p, e, n, h⟩ := h
  have ne := ne_of_none h nD
  refine ⟨p, e, fun m => ?_, by rw [upd_ne ne]; exact h⟩
  rcases List.mem_cons.mp m with m | m
  · exact ne m
  · exact n m
theorem ixN_in {n : Nat} {i : Int} (h0 : 0 ≤ i) (h1 : i < n) : ixN n i = some i.toNat := by unfold ixN; rw [if_pos h0, if_pos h1]

section
variable {P : Program} {w : World} {K : PySem.W.Frag} {mg : Str → Option Value} {base : Heap}

end
end My

set_option Elab.async false
set_option linter.all false
set_option maxRecDepth 100000
namespace My
open PySem PySem.Spec PyProof.Rows L2
section
variable {P : Program} {w : World} {K : PySem.W.Frag} {mg : Str → Option Value} {base : Heap}

end
end My

set_option Elab.async false
set_option linter.all false
set_option maxRecDepth 100000
namespace My
open PySem PySem.Spec PyProof.Rows L2 GxR
/-! ### tables -/
theorem tabG_new {H : Hp} {P p : Addr} {o : HO} (h : TabG H P) (e : H p = none) : TabG (upd H p o) P := by
  obtain ⟨ps, h1, h2⟩ := h
  exact ⟨ps, by rw [upd_ne (ne_of_none h1 e)]; exact h1, h2⟩
theorem tb_frM {H H' : Hp} {P : Addr} (h : Tabbed P H H') : FrM [P] H H' := fun b o n e => by
  rw [h.2 b (fun z => n (by rw [z]; exact List.mem_singleton.mpr rfl))]; exact e
theorem tb_tst {H H' : Hp} {P : Addr} (h : Tabbed P H H') (hP : TabG H P) : Tst H H' := fun b xs e => by
  refine tb_frM h b _ (fun z => ?_) e
  obtain ⟨ps, h1, _⟩ := hP
  rw [List.mem_singleton.mp z, h1] at e; cases e
section
variable {P : Program} {w : World} {K : PySem.W.Frag} {mg : Str → Option Value} {base : Heap}

end
end My

set_option Elab.async false
set_option linter.all false
set_option maxRecDepth 100000
namespace My
open PySem PySem.Spec PyProof.Rows L2 GxR

/-! ### things alike -/
def Atom (x : V) : Prop := x = .non ∨ (∃ b, x = .bl b) ∨ (∃ i, x = .int i) ∨ ∃ z, x = .str z
def Eqd : Nat → Hp → V → V → Prop
  | 0, _, x, y => x = y ∧ Atom x
  | m + 1, H, x, y => (x = y ∧ Atom x) ∨ ∃ a b xs ys, x = .ref a ∧ y = .ref b ∧ ((H a = some (.tup xs) ∧ H b = some (.tup ys)) ∨ (H a = some (.lst xs) ∧ H b = some (.lst ys))) ∧
      xs.length = ys.length ∧ xs.length ≤ 10000 ∧ ∀ (i : Nat) (v u : V), xs[i]? = some v → ys[i]? = some u → Eqd m H v u
theorem Eqd.mono : ∀ {m : Nat} {H H' : Hp} {x y : V}, Same H H' → Eqd m H x y → Eqd m H' x y
  | 0, _, _, _, _, _, h => h
  | m + 1, H, H', _, _, s, .inl h => .inl h
  | m + 1, H, H', _, _, s, .inr ⟨a, b, xs, ys, e1, e2, h, l, l2, k⟩ => .inr ⟨a, b, xs, ys, e1, e2, h.imp (fun z => ⟨s _ _ z.1, s _ _ z.2⟩) (fun z => ⟨s _ _ z.1, s _ _ z.2⟩), l, l2, fun i v u e f => Eqd.mono s (k i v u e f)⟩
theorem Eqd.int {m : Nat} {H : Hp} {i : Int} : Eqd m H (.int i) (.int i) := by
  cases m with
  | zero => exact ⟨rfl, .inr (.inr (.inl ⟨i, rfl⟩))⟩
  | succ m => exact .inl ⟨rfl, .inr (.inr (.inl ⟨i, rfl⟩))⟩
theorem Eqd.up : ∀ {m : Nat} {H : Hp} {x y : V}, Eqd m H x y → Eqd (m + 1) H x y
  | 0, _, _, _, h => .inl h
  | m + 1, _, _, _, .inl h => .inl h
  | m + 1, _, _, _, .inr ⟨a, b, xs, ys, e1, e2, h, l, l2, k⟩ => .inr ⟨a, b, xs, ys, e1, e2, h, l, l2, fun i v u e f => (k i v u e f).up⟩
theorem tie_eqd {H : Hp} {v u : V} {t : Int × Int} (h : Tie H v t) (k : Tie H u t) : Eqd 1 H v u := by
  obtain ⟨p, rfl, h⟩ := h
  obtain ⟨q, rfl, k⟩ := k
  refine .inr ⟨p, q, _, _, rfl, rfl, .inl ⟨h, k⟩, rfl, by show 2 ≤ 10000; decide, fun i v u e f => ?_⟩
  match i, e, f with
  | 0, e, f => cases e; cases f; exact Eqd.int
  | 1, e, f => cases e; cases f; exact Eqd.int
theorem tup_eqd {H : Hp} {p q : Addr} {vs us : List V} {ts : List (Int × Int)} (hp : H p = some (.tup vs)) (hq : H q = some (.tup us)) (h : Ties H vs ts) (k : Ties H us ts) (l : ts.length ≤ 10000) : Eqd 2 H (.ref p) (.ref q) := by
  refine .inr ⟨p, q, vs, us, rfl, rfl, .inl ⟨hp, hq⟩, by rw [h.len, k.len], by rw [h.len]; exact l, fun i v u e f => ?_⟩
  obtain ⟨t1, e1, h1⟩ := h.at e
  obtain ⟨t2, e2, h2⟩ := k.at f
  rw [e1] at e2; cases e2
  exact tie_eqd h1 h2
theorem web_eqd {H : Hp} {v u : V} {n : Nat} {ts : List (Int × Int)} (h : Web H v n ts) (k : Web H u n ts) (l : ts.length ≤ 10000) : Eqd 3 H v u := by
  obtain ⟨p, q, vs, rfl, h1, h2, h3⟩ := h
  obtain ⟨p', q', us, rfl, k1, k2, k3⟩ := k
  refine .inr ⟨p, p', _, _, rfl, rfl, .inl ⟨h1, k1⟩, rfl, by show 2 ≤ 10000; decide, fun i v u e f => ?_⟩
  match i, e, f with
  | 0, e, f => cases e; cases f; exact Eqd.int
  | 1, e, f => cases e; cases f; exact tup_eqd h2 k2 h3 k3 l

section
variable {P : Program} {w : World} {K : PySem.W.Frag} {mg : Str → Option Value} {base : Heap}
/-! ### _law_same -/
abbrev N__law_same : List Str := ["_law_found", "_law_due", "_law_one", "_law_other"]
theorem sc__law_same : FnScope N__law_same ["_law_found", "_law_due"] (defScope s__law_same) := ⟨rfl, rfl, rfl, by decide +kernel, rfl, by decide +kernel, by decide +kernel⟩
def sp_same : Nat → Sp
  | 0 => fun _ _ _ _ => False
  | m + 1 => fun vs H Q _ => ∃ x y, vs = [x, y] ∧ Eqd m H x y ∧ ∀ H', Same H H' → Q (.bl true) H'
theorem kany {t : Value} {a b : Bool} (h1 : PySem.W.kitOne K t (.type "list") = some a) (h2 : PySem.W.kitOne K t (.type "tuple") = some b) : PySem.W.kitAny K t [.type "list", .type "tuple"] = some (a || b) := by
  refine kitAny_cons h1 (fun z => ?_) (fun z => by rw [z]; rfl)
  subst z
  exact kitAny_cons h2 (fun z => by rw [z]; rfl) (fun z => by rw [z]; rfl)
theorem all_rep (n : Nat) : (List.replicate n true).all id = true := by
  rw [List.all_eq_true]
  intro x hx
  rw [(List.mem_replicate.mp hx).2]; rfl
theorem ok_same1 {f : Addr} {fd : FuncData} {m : Nat} (B : Bts mg) (F : Fun K "_law_same" "_law_same" s__law_same f fd) (c__law_same : Cl P w K mg base m "_law_same" (sp_same m)) :
    FnOk P w K mg base CX0 (m + 1) f fd ["_law_found", "_law_due"] (sp_same (m + 1)) := by
  refine F.ok sc__law_same (fun vs H Q E h => ?_) (fun cdv A outer s H vs Q E hr h => ?_)
  · obtain ⟨x, y, rfl, _⟩ := h; rfl
  · obtain ⟨x, y, rfl, hE, q⟩ := h
    refine ⟨_, (pss_cons (ps_if (pt_val (pe_callB call_isiT (by rfl) B.isinstance (by decide +kernel) (pa_cons (pv 1) (pa_cons (pe_tup (pa_cons (pe_bltn (v := .ty "list") (by rfl) B.list (by decide +kernel) rfl) (pa_cons (pe_bltn (v := .ty "tuple") (by rfl) B.tuple (by decide +kernel) rfl) pa_nil))) pa_nil)))) (pss_cons (ps_if (PW.pt (pw_or (pt_cmpR op_ne (pe_callB call_isi (by rfl) B.isinstance (by decide +kernel) (pa_cons (pv 0) (pa_cons (pe_bltn (v := .ty "list") (by rfl) B.list (by decide +kernel) rfl) pa_nil))) (pe_callB call_isi (by rfl) B.isinstance (by decide +kernel) (pa_cons (pv 1) (pa_cons (pe_bltn (v := .ty "list") (by rfl) B.list (by decide +kernel) rfl) pa_nil))) (nomark _)) (pw_or1 (pt_cmpR op_ne (pe_callB call_isi (by rfl) B.isinstance (by decide +kernel) (pa_cons (pv 0) (pa_cons (pe_bltn (v := .ty "tuple") (by rfl) B.tuple (by decide +kernel) rfl) pa_nil))) (pe_callB call_isi (by rfl) B.isinstance (by decide +kernel) (pa_cons (pv 1) (pa_cons (pe_bltn (v := .ty "tuple") (by rfl) B.tuple (by decide +kernel) rfl) pa_nil))) (nomark _))))) (pss_one (ps_ret pe_bl)) pss_nil)
      (pss_one (ps_ret (pe_and (pe_cmpR op_eq (pe_callB call_len_seq (by rfl) B.len (by decide +kernel) (pa_cons (pv 0) pa_nil)) (pe_callB call_len_seq (by rfl) B.len (by decide +kernel) (pa_cons (pv 1) pa_nil)) (nomark _)) (pe_one (pe_callB (cr_all rfl) (by rfl) B.all (by decide +kernel) (pa_cons (pe_lc (own := [("_law_one", 2), ("_law_other", 3)]) (g := (gTup K 2 (gCons (gName 2) (gCons (gName 3) gNil)))) (tt := tYes) rfl sc__law_same.nd (RZ.pi_zipA (by rfl) B.zip (pa_cons (pv 0) (pa_cons (pv 1) pa_nil))) (blkOk_by (own := [("_law_one", 2), ("_law_other", 3)]) (N := N__law_same) (sc := defScope s__law_same) (by decide +kernel)) (fun _ _ _ _ _ => (pg_tup rfl (pgs_cons (pg_name (i := 2) sc__law_same.nd rfl (by first | exact Or.inl rfl | exact Or.inr rfl)) (pgs_cons (pg_name (i := 3) sc__law_same.nd rfl (by first | exact Or.inl rfl | exact Or.inr rfl)) pgs_nil)))) (fun _ _ _ _ _ => pts_nil) (fun _ _ _ _ _ => (pe_c c__law_same hr (Nat.le_refl _) (by rfl) (pa_cons (pv 2) (pa_cons (pv 3) pa_nil))))) pa_nil))))))) pss_nil)
    (pss_cons (ps_if (PW.pt (pw_or (pt_cmpR op_isN (pv 1) pe_non (nomark _)) (pw_or1 (pt_val (pe_callB call_isi (by rfl) B.isinstance (by decide +kernel) (pa_cons (pv 1) (pa_cons (pe_bltn (v := .ty "str") (by rfl) B.str (by decide +kernel) rfl) pa_nil))))))) (pss_one (ps_ret (pe_and (pe_cmpR op_eq (pv 0) (pv 1) (nomark _)) (pe_one (pe_cmpR op_eq (pe_callB call_isi (by rfl) B.isinstance (by decide +kernel) (pa_cons (pv 0) (pa_cons (pe_bltn (v := .ty "str") (by rfl) B.str (by decide +kernel) rfl) pa_nil))) (pe_callB call_isi (by rfl) B.isinstance (by decide +kernel) (pa_cons (pv 1) (pa_cons (pe_bltn (v := .ty "str") (by rfl) B.str (by decide +kernel) rfl) pa_nil))) (nomark _)))))) pss_nil)
    (pss_cons (ps_if (pt_val (pe_callB call_isi (by rfl) B.isinstance (by decide +kernel) (pa_cons (pv 1) (pa_cons (pe_bltn (v := .ty "bool") (by rfl) B.bool (by decide +kernel) rfl) pa_nil)))) (pss_one (ps_ret (pe_and (pe_callB call_isi (by rfl) B.isinstance (by decide +kernel) (pa_cons (pv 0) (pa_cons (pe_bltn (v := .ty "bool") (by rfl) B.bool (by decide +kernel) rfl) pa_nil))) (pe_one (pe_cmpR op_eq (pv 0) (pv 1) (nomark _)))))) pss_nil)
    (pss_one (ps_ret (pe_and (pe_callB call_isi (by rfl) B.isinstance (by decide +kernel) (pa_cons (pv 0) (pa_cons (pe_bltn (v := .ty "int") (by rfl) B.int (by decide +kernel) rfl) pa_nil))) (pe_and (pe_not (pe_callB call_isi (by rfl) B.isinstance (by decide +kernel) (pa_cons (pv 0) (pa_cons (pe_bltn (v := .ty "bool") (by rfl) B.bool (by decide +kernel) rfl) pa_nil)))) (pe_one (pe_cmpR op_eq (pv 0) (pv 1) (nomark _)))))))))), ?_⟩
    have nw : ∀ {tp : Addr} {o : HO}, H tp = none → Same H (upd H tp o) := fun h => same_new h
    have hE' : (x = y ∧ Atom x) ∨ ∃ m', m = m' + 1 ∧ ∃ a b xs ys, x = .ref a ∧ y = .ref b ∧ ((H a = some (.tup xs) ∧ H b = some (.tup ys)) ∨ (H a = some (.lst xs) ∧ H b = some (.lst ys))) ∧
        xs.length = ys.length ∧ xs.length ≤ 10000 ∧ ∀ (i : Nat) (v u : V), xs[i]? = some v → ys[i]? = some u → Eqd m' H v u := by
      cases m with
      | zero => exact .inl hE
      | succ m =>
        rcases hE with h | h
        · exact .inl h
        · exact .inr ⟨m, rfl, h⟩
    rcases hE' with ⟨e, ha⟩ | ⟨m, rfl, a, b, xs, ys, rfl, rfl, hab, hl, hl2, hk⟩
    · subst e
      rcases ha with rfl | ⟨b, rfl⟩ | ⟨i, rfl⟩ | ⟨z, rfl⟩
      · refine ⟨_, rfl, by show 2 ≤ sizeLine; decide, fun tp ntp => ⟨_, tp, _, _, _, _, rfl, upd_same, .cons (.ty _) (.cons (.ty _) .nil), .base .non, kany (a := false) (b := false) (kit_ty (by decide +kernel)) (kit_ty (by decide +kernel)), false, rfl, iteF ?_⟩⟩
        refine ⟨_, rfl, rfl, _, rfl, iteT (iteT ?_)⟩
        refine ⟨_, rfl, _, rfl, rfl, true, rfl, iteT ?_⟩
        refine ⟨_, rfl, _, _, _, _, false, rfl, .ty _, .base .non, kit_ty (by decide +kernel), ?_⟩
        refine ⟨_, rfl, _, _, _, _, false, rfl, .ty _, .base .non, kit_ty (by decide +kernel), rfl, ?_⟩
        exact q _ (nw ntp)
      · refine ⟨_, rfl, by show 2 ≤ sizeLine; decide, fun tp ntp => ⟨_, tp, _, _, _, _, rfl, upd_same, .cons (.ty _) (.cons (.ty _) .nil), .base (.bl b), kany (a := false) (b := false) (kit_ty (by decide +kernel)) (kit_ty (by decide +kernel)), false, rfl, iteF ?_⟩⟩
        refine ⟨_, rfl, rfl, _, rfl, iteF ?_⟩
        refine ⟨_, rfl, _, _, _, _, false, rfl, .ty _, .base (.bl b), kit_ty (by decide +kernel), false, rfl, iteF ?_⟩
        refine ⟨_, rfl, _, _, _, _, true, rfl, .ty _, .base (.bl b), kit_ty (by decide +kernel), true, rfl, iteT ?_⟩
        refine ⟨_, rfl, _, _, _, _, true, rfl, .ty _, .base (.bl b), kit_ty (by decide +kernel), true, rfl, iteT ?_⟩
        refine ⟨_, rfl, _, rfl, rfl, ?_⟩
        rw [decide_eq_true rfl]
        exact q _ (nw ntp)
      · refine ⟨_, rfl, by show 2 ≤ sizeLine; decide, fun tp ntp => ⟨_, tp, _, _, _, _, rfl, upd_same, .cons (.ty _) (.cons (.ty _) .nil), .base (.int i), kany (a := false) (b := false) (kit_ty (by decide +kernel)) (kit_ty (by decide +kernel)), false, rfl, iteF ?_⟩⟩
        refine ⟨_, rfl, rfl, _, rfl, iteF ?_⟩
        refine ⟨_, rfl, _, _, _, _, false, rfl, .ty _, .base (.int i), kit_ty (by decide +kernel), false, rfl, iteF ?_⟩
        refine ⟨_, rfl, _, _, _, _, false, rfl, .ty _, .base (.int i), kit_ty (by decide +kernel), false, rfl, iteF ?_⟩
        refine ⟨_, rfl, _, _, _, _, true, rfl, .ty _, .base (.int i), kit_ty (by decide +kernel), true, rfl, iteT ?_⟩
        refine ⟨_, rfl, _, _, _, _, false, rfl, .ty _, .base (.int i), kit_ty (by decide +kernel), false, rfl, true, rfl, iteT ?_⟩
        refine ⟨_, rfl, _, rfl, rfl, ?_⟩
        rw [decide_eq_true rfl]
        exact q _ (nw ntp)
      · refine ⟨_, rfl, by show 2 ≤ sizeLine; decide, fun tp ntp => ⟨_, tp, _, _, _, _, rfl, upd_same, .cons (.ty _) (.cons (.ty _) .nil), .base (.str z), kany (a := false) (b := false) (kit_ty (by decide +kernel)) (kit_ty (by decide +kernel)), false, rfl, iteF ?_⟩⟩
        refine ⟨_, rfl, rfl, _, rfl, iteF ?_⟩
        refine ⟨_, rfl, _, _, _, _, true, rfl, .ty _, .base (.str z), kit_ty (by decide +kernel), true, rfl, iteT ?_⟩
        refine ⟨_, rfl, _, rfl, rfl, _, rfl, ?_⟩
        rw [decide_eq_true rfl]
        refine iteT ⟨_, rfl, _, _, _, _, true, rfl, .ty _, .base (.str z), kit_ty (by decide +kernel), ?_⟩
        refine ⟨_, rfl, _, _, _, _, true, rfl, .ty _, .base (.str z), kit_ty (by decide +kernel), rfl, ?_⟩
        exact q _ (nw ntp)
    · rcases hab with ⟨ea, eb⟩ | ⟨ea, eb⟩
      · refine ⟨_, rfl, by show 2 ≤ sizeLine; decide, fun tp ntp => ?_⟩
        have s1 := nw (o := .tup [.ty "list", .ty "tuple"]) ntp
        have ea1 := s1 _ _ ea
        have eb1 := s1 _ _ eb
        refine ⟨_, tp, _, _, _, _, rfl, upd_same, .cons (.ty _) (.cons (.ty _) .nil), .base (.tup eb1), kany (a := false) (b := true) (kit_ty (by decide +kernel)) (kit_ty (by decide +kernel)), true, rfl, iteT ?_⟩
        refine ⟨_, rfl, _, _, _, _, false, rfl, .ty _, .base (.tup ea1), kit_ty (by decide +kernel), ?_⟩
        refine ⟨_, rfl, _, _, _, _, false, rfl, .ty _, .base (.tup eb1), kit_ty (by decide +kernel), rfl, false, rfl, iteF ?_⟩
        refine ⟨_, rfl, _, _, _, _, true, rfl, .ty _, .base (.tup ea1), kit_ty (by decide +kernel), ?_⟩
        refine ⟨_, rfl, _, _, _, _, true, rfl, .ty _, .base (.tup eb1), kit_ty (by decide +kernel), rfl, false, rfl, iteF ?_⟩
        refine ⟨_, rfl, a, xs, rfl, .inr (SqT.of ea1), _, rfl, b, ys, rfl, .inr (SqT.of eb1), rfl, _, rfl, ?_⟩
        rw [decide_eq_true (by rw [hl])]
        refine iteT ⟨_, rfl, _, rfl, a, b, xs, ys, rfl, .inr ⟨SqT.of ea1, SqT.of eb1, fun D nD => ?_⟩⟩
        refine lc_it (walk_zipT (K := K) (a := a) (b := b) (xs := xs) (ys := ys) rfl) (fun i H2 => Same (upd H tp (.tup [.ty "list", .ty "tuple"])) H2 ∧ H2 D = some (.lst ((List.replicate i true).map V.bl))) ⟨same_new nD, upd_same⟩ ?_ ?_ ?_
        · rintro i H2 _ ⟨s2, _⟩
          exact ⟨SqT.of (s2 _ _ ea1), SqT.of (s2 _ _ eb1)⟩
        · rintro i v H2 H3 hi ⟨s2, eD⟩ ⟨T, x1, x2, rfl, nT, rfl, ex1, ex2⟩
          refine ⟨T, _, rfl, SqT.of upd_same, rfl, _, _, rfl, _, _, rfl, rfl, rfl, yes ?_⟩
          have s3 := s2.trans (same_new (o := .tup [x1, x2]) nT)
          refine ⟨_, rfl, _, rfl, x1, x2, rfl, (hk i x1 x2 ex1 ex2).mono (s1.trans s3), fun H4 s4 => ?_⟩
          have eD4 := s4 _ _ ((same_new (o := .tup [x1, x2]) nT) _ _ eD)
          refine ⟨_, eD4, sz' (by rw [List.length_map, List.length_replicate]; omega), Same.put (s3.trans s4) nD, ?_⟩
          rw [upd_same, List.replicate_succ', List.map_append]; rfl
        · rintro H2 ⟨s2, eD⟩
          refine ⟨D, _, rfl, SqL.of eD, ?_⟩
          rw [all_rep]
          exact q _ (s1.trans s2)
      · refine ⟨_, rfl, by show 2 ≤ sizeLine; decide, fun tp ntp => ?_⟩
        have s1 := nw (o := .tup [.ty "list", .ty "tuple"]) ntp
        have ea1 := s1 _ _ ea
        have eb1 := s1 _ _ eb
        refine ⟨_, tp, _, _, _, _, rfl, upd_same, .cons (.ty _) (.cons (.ty _) .nil), .base (.lst eb1), kany (a := true) (b := false) (kit_ty (by decide +kernel)) (kit_ty (by decide +kernel)), true, rfl, iteT ?_⟩
        refine ⟨_, rfl, _, _, _, _, true, rfl, .ty _, .base (.lst ea1), kit_ty (by decide +kernel), ?_⟩
        refine ⟨_, rfl, _, _, _, _, true, rfl, .ty _, .base (.lst eb1), kit_ty (by decide +kernel), rfl, false, rfl, iteF ?_⟩
        refine ⟨_, rfl, _, _, _, _, false, rfl, .ty _, .base (.lst ea1), kit_ty (by decide +kernel), ?_⟩
        refine ⟨_, rfl, _, _, _, _, false, rfl, .ty _, .base (.lst eb1), kit_ty (by decide +kernel), rfl, false, rfl, iteF ?_⟩
        refine ⟨_, rfl, a, xs, rfl, .inl (SqL.of ea1), _, rfl, b, ys, rfl, .inl (SqL.of eb1), rfl, _, rfl, ?_⟩
        rw [decide_eq_true (by rw [hl])]
        refine iteT ⟨_, rfl, _, rfl, a, b, xs, ys, rfl, .inl ⟨SqL.of ea1, SqL.of eb1, fun D nD => ?_⟩⟩
        refine lc_it (walk_zip (K := K) (a := a) (b := b) (xs := xs) (ys := ys) rfl) (fun i H2 => Same (upd H tp (.tup [.ty "list", .ty "tuple"])) H2 ∧ H2 D = some (.lst ((List.replicate i true).map V.bl))) ⟨same_new nD, upd_same⟩ ?_ ?_ ?_
        · rintro i H2 _ ⟨s2, _⟩
          exact ⟨SqL.of (s2 _ _ ea1), SqL.of (s2 _ _ eb1)⟩
        · rintro i v H2 H3 hi ⟨s2, eD⟩ ⟨T, x1, x2, rfl, nT, rfl, ex1, ex2⟩
          refine ⟨T, _, rfl, SqT.of upd_same, rfl, _, _, rfl, _, _, rfl, rfl, rfl, yes ?_⟩
          have s3 := s2.trans (same_new (o := .tup [x1, x2]) nT)
          refine ⟨_, rfl, _, rfl, x1, x2, rfl, (hk i x1 x2 ex1 ex2).mono (s1.trans s3), fun H4 s4 => ?_⟩
          have eD4 := s4 _ _ ((same_new (o := .tup [x1, x2]) nT) _ _ eD)
          refine ⟨_, eD4, sz' (by rw [List.length_map, List.length_replicate]; omega), Same.put (s3.trans s4) nD, ?_⟩
          rw [upd_same, List.replicate_succ', List.map_append]; rfl
        · rintro H2 ⟨s2, eD⟩
          refine ⟨D, _, rfl, SqL.of eD, ?_⟩
          rw [all_rep]
          exact q _ (s1.trans s2)
theorem ok_same {f : Addr} {fd : FuncData} (B : Bts mg) (F : Fun K "_law_same" "_law_same" s__law_same f fd) (hm : mg "_law_same" = some (.ref f)) (hb : Binds K fd ["_law_found", "_law_due"] []) :
    ∀ m, FnOk P w K mg base CX0 m f fd ["_law_found", "_law_due"] (sp_same m)
  | 0 => ⟨fun _ _ _ _ h => h.elim, fun _ _ _ _ _ _ _ _ _ _ _ _ _ h => h.elim⟩
  | m + 1 => ok_same1 B F (Cl.mk' F hm hb (ok_same B F hm hb m))
end
end My

set_option Elab.async false
set_option linter.all false
set_option maxRecDepth 100000
namespace My
open PySem PySem.Spec PyProof.Rows L2 GxR

/-! ### dict comprehensions over what is walked -/
theorem dc_it {J : It} {n : Nat} {G : Hp → Prop} {Y : Nat → Hp → V → Hp → Prop} (w : Walk J n G Y) {g : TG} {tt : TT} {tk tv : TE} {vs : List Nat} {σ : L2.St} {H1 : Hp} {D : Addr} {Qd : Hp → Prop} (Pv : Nat → Hp → Prop)
    (h0 : Pv 0 (upd H1 D (.dK []))) (hG : ∀ i H, i ≤ n → Pv i H → G H)
    (hs : ∀ i x H H', i < n → Pv i H → Y i H x H' → g x (wipe σ vs) H' fun σ2 H2 => wipe σ2 vs = wipe σ vs ∧ tt σ2 H2 fun b H3 =>
      if b = true then tk σ2 H3 fun y H4 => tv σ2 H4 fun z H5 => ∃ kvs k, y = kV k ∧ H5 D = some (.dK kvs) ∧ kvs.length < sizeLine ∧ Pv (i + 1) (upd H5 D (.dK (putK kvs k z))) else Pv (i + 1) H3)
    (hd : ∀ H, Pv n H → Qd H) :
    ∃ W : Nat → Nat → Hp → Prop, (∃ m, W 0 m (upd H1 D (.dK []))) ∧ ∀ i m H, W i m H → (J.stop i H ∧ Qd H) ∨
      (J.go i H ∧ ∃ Nx : Hp → Prop, (∀ H', Nx H' → ∃ m', m' < m ∧ W (i + 1) m' H') ∧ ∀ x H', J.yld i H x H' → g x (wipe σ vs) H' fun σ2 H2 => wipe σ2 vs = wipe σ vs ∧ tt σ2 H2 fun b H3 =>
        if b = true then tk σ2 H3 fun y H4 => tv σ2 H4 fun z H5 => ∃ kvs k, y = kV k ∧ H5 D = some (.dK kvs) ∧ kvs.length < sizeLine ∧ Nx (upd H5 D (.dK (putK kvs k z))) else Nx H3) := by
  refine ⟨fun i m H => m = n - i ∧ i ≤ n ∧ Pv i H, ⟨n, rfl, Nat.zero_le _, h0⟩, ?_⟩
  rintro i m H ⟨rfl, hi, p⟩
  have q := hG i H hi p
  by_cases hlt : i < n
  · exact .inr ⟨w.goes i H hlt q, Pv (i + 1), fun H' p' => ⟨n - (i + 1), by omega, rfl, hlt, p'⟩, fun x H' y => hs i x H H' hlt p (w.yields i H x H' hlt q y)⟩
  · have e : i = n := by omega
    subst e
    exact .inl ⟨w.stops H q, hd H p⟩

/-! ### what a dict tells behind a store -/
theorem valV_put {κ : Type} [DecidableEq κ] (kvs : List (κ × V)) (k : κ) (v : V) (j : κ) : valV (putK kvs k v) j = if j = k then some v else valV kvs j := by
  unfold putK
  by_cases h : (kvs.any fun kv => decide (kv.1 = k)) = true
  · rw [if_pos h]
    induction kvs with
    | nil => cases h
    | cons p r ih =>
      rw [List.map_cons]
      by_cases hp : p.1 = k
      · rw [if_pos hp]
        by_cases hj : j = k
        · rw [if_pos hj, valV_pos (by rw [hj]; exact hp)]
        · rw [if_neg hj, valV_neg (fun z => hj (by rw [← z]; exact hp)), valV_neg (fun z => hj (by rw [← z]; exact hp))]
          by_cases hr : (r.any fun kv => decide (kv.1 = k)) = true
          · have := ih hr
            rw [if_neg hj] at this
            exact this
          · have : (r.map fun kv => if kv.1 = k then (kv.1, v) else kv) = r := by
              clear ih h
              induction r with
              | nil => rfl
              | cons q s ih2 =>
                rw [List.any_cons, Bool.or_eq_true] at hr
                have h1 : ¬ q.1 = k := fun z => hr (.inl (decide_eq_true z))
                have h2 : ¬ (s.any fun kv => decide (kv.1 = k)) = true := fun z => hr (.inr z)
                rw [List.map_cons, if_neg h1, ih2 h2]
            rw [this]
      · rw [if_neg hp]
        rw [List.any_cons, decide_eq_false hp, Bool.false_or] at h
        have := ih h
        by_cases hj : p.1 = j
        · rw [valV_pos hj, valV_pos hj, if_neg (fun z => hp (by rw [hj]; exact z))]
        · rw [valV_neg hj, valV_neg hj]; exact this
  · rw [if_neg h]
    induction kvs with
    | nil =>
      rw [List.nil_append]
      by_cases hj : j = k
      · rw [if_pos hj, valV_pos hj.symm]
      · rw [if_neg hj, valV_neg (fun z => hj z.symm)]
    | cons p r ih =>
      rw [List.any_cons, Bool.or_eq_true] at h
      have h1 : ¬ p.1 = k := fun z => h (.inl (decide_eq_true z))
      have h2 : ¬ (r.any fun kv => decide (kv.1 = k)) = true := fun z => h (.inr z)
      rw [List.cons_append]
      by_cases hj : p.1 = j
      · rw [valV_pos hj, valV_pos hj, if_neg (fun z => h1 (by rw [hj]; exact z))]
      · rw [valV_neg hj, valV_neg hj]; exact ih h2
theorem len_put {κ : Type} [DecidableEq κ] (kvs : List (κ × V)) (k : κ) (v : V) : (putK kvs k v).length ≤ kvs.length + 1 := by
  unfold putK
  split
  · rw [List.length_map]; exact Nat.le_succ _
  · rw [List.length_append]; exact Nat.le_refl _

/-! ### rising lists of places, parts of webs -/
def Ris (n : Nat) (pl : List Int) : Prop := pl.Pairwise (· < ·) ∧ ∀ p ∈ pl, 0 ≤ p ∧ p < (n : Int)
theorem Ris.nodup {n : Nat} {pl : List Int} (h : Ris n pl) : pl.Nodup := List.nodup_iff_pairwise_ne.mpr (h.1.imp fun {a b} z e => by omega)
theorem Ris.len {n : Nat} {pl : List Int} (h : Ris n pl) : pl.length ≤ n := by
  have := nd_len (m := up n) h.nodup fun x hx => mem_up.mpr (h.2 x hx)
  rwa [up_len] at this
theorem idx_get {pl : List Int} {a : Int} (h : a ∈ pl) : pl[pl.idxOf a]? = some a := by
  have hl := List.idxOf_lt_length_of_mem h
  rw [List.getElem?_eq_getElem hl, List.getElem_idxOf hl]
theorem idx_of {pl : List Int} (nd : pl.Nodup) {i : Nat} {a : Int} (h : pl[i]? = some a) : pl.idxOf a = i := by
  obtain ⟨hi, e⟩ := List.getElem?_eq_some_iff.mp h
  have hm : a ∈ pl := List.mem_of_getElem? h
  have hl := List.idxOf_lt_length_of_mem hm
  have e2 := List.getElem_idxOf hl
  have pw := List.pairwise_iff_getElem.mp (List.nodup_iff_pairwise_ne.mp nd)
  rcases Nat.lt_trichotomy (pl.idxOf a) i with z | z | z
  · exact absurd (e2.trans e.symm) (pw _ _ hl hi z)
  · exact z
  · exact absurd (e.trans e2.symm) (pw _ _ hi hl z)
theorem ris_lt {n : Nat} {pl : List Int} (h : Ris n pl) {i j : Nat} {a b : Int} (hi : pl[i]? = some a) (hj : pl[j]? = some b) : i < j ↔ a < b := by
  obtain ⟨li, ei⟩ := List.getElem?_eq_some_iff.mp hi
  obtain ⟨lj, ej⟩ := List.getElem?_eq_some_iff.mp hj
  have pw := List.pairwise_iff_getElem.mp h.1
  constructor
  · intro z
    have := pw i j li lj z
    omega
  · intro z
    rcases Nat.lt_trichotomy i j with c | c | c
    · exact c
    · subst c; omega
    · have := pw j i lj li c
      omega
def partL (ts : List (Int × Int)) (pl : List Int) : List (Int × Int) :=
  (ts.filter fun t => decide (t.1 ∈ pl) && decide (t.2 ∈ pl)).map fun t => ((pl.idxOf t.1 : Int), (pl.idxOf t.2 : Int))
theorem mem_part {ts : List (Int × Int)} {pl : List Int} (nd : pl.Nodup) {t : Int × Int} : t ∈ partL ts pl ↔
    ∃ (i j : Nat) (a b : Int), t = ((i : Int), (j : Int)) ∧ pl[i]? = some a ∧ pl[j]? = some b ∧ (a, b) ∈ ts := by
  unfold partL
  rw [List.mem_map]
  constructor
  · rintro ⟨s, hs, rfl⟩
    obtain ⟨h1, h2⟩ := List.mem_filter.mp hs
    rw [Bool.and_eq_true, decide_eq_true_eq, decide_eq_true_eq] at h2
    exact ⟨_, _, s.1, s.2, rfl, idx_get h2.1, idx_get h2.2, h1⟩
  · rintro ⟨i, j, a, b, rfl, hi, hj, h⟩
    refine ⟨(a, b), List.mem_filter.mpr ⟨h, ?_⟩, ?_⟩
    · rw [Bool.and_eq_true, decide_eq_true_eq, decide_eq_true_eq]
      exact ⟨List.mem_of_getElem? hi, List.mem_of_getElem? hj⟩
    · dsimp only
      rw [idx_of nd hi, idx_of nd hj]
theorem part_pw {n : Nat} {ts : List (Int × Int)} {pl : List Int} (hp : Ris n pl) (hw : ts.Pairwise ltT) : (partL ts pl).Pairwise ltT := by
  unfold partL
  rw [List.pairwise_map]
  refine (hw.sublist List.filter_sublist).imp_of_mem fun {s t} hs ht h => ?_
  have h1 := (List.mem_filter.mp hs).2
  have h2 := (List.mem_filter.mp ht).2
  rw [Bool.and_eq_true, decide_eq_true_eq, decide_eq_true_eq] at h1 h2
  have l1 := ris_lt hp (idx_get h1.1) (idx_get h2.1)
  have l2 := ris_lt hp (idx_get h1.2) (idx_get h2.2)
  rcases h with h | ⟨h, k⟩
  · exact .inl (by have := l1.mpr h; dsimp only; omega)
  · refine .inr ⟨by dsimp only; rw [h], ?_⟩
    have := l2.mpr k
    dsimp only; omega
theorem part_wok {n : Nat} {ts : List (Int × Int)} {pl : List Int} (hp : Ris n pl) (hw : WOk n ts) : WOk pl.length (partL ts pl) := by
  refine ⟨part_pw hp hw.1, fun t ht => ?_⟩
  obtain ⟨i, j, a, b, rfl, hi, hj, h⟩ := (mem_part hp.nodup).mp ht
  have hb := hw.2 _ h
  have l := ris_lt hp hi hj
  have := l.mpr hb.2.1
  have := (List.getElem?_eq_some_iff.mp hj).1
  dsimp only
  omega
theorem part_len {ts : List (Int × Int)} {pl : List Int} : (partL ts pl).length ≤ ts.length := by
  unfold partL; rw [List.length_map]; exact List.length_filter_le _ _
theorem ris_up (n : Nat) : Ris n (up n) := by
  refine ⟨?_, fun p hp => mem_up.mp hp⟩
  unfold up
  rw [List.pairwise_map]
  exact List.pairwise_lt_range.imp fun h => by omega
theorem up_get {n i : Nat} (h : i < n) : (up n)[i]? = some (i : Int) := by
  unfold up
  rw [List.getElem?_map, List.getElem?_range h]; rfl
theorem part_up {n : Nat} {ts : List (Int × Int)} (hw : WOk n ts) : partL ts (up n) = ts := by
  refine pw_eq (part_pw (ris_up n) hw.1) hw.1 fun t => ?_
  rw [mem_part (ris_up n).nodup]
  constructor
  · rintro ⟨i, j, a, b, rfl, hi, hj, h⟩
    have li : i < n := by have := (List.getElem?_eq_some_iff.mp hi).1; rwa [up_len] at this
    have lj : j < n := by have := (List.getElem?_eq_some_iff.mp hj).1; rwa [up_len] at this
    rw [up_get li] at hi
    rw [up_get lj] at hj
    cases hi; cases hj
    exact h
  · intro h
    have b := hw.2 t h
    refine ⟨t.1.toNat, t.2.toNat, t.1, t.2, ?_, ?_, ?_, h⟩
    · cases t with | mk x y => dsimp only at b ⊢; congr 1 <;> omega
    · rw [up_get (by omega)]; congr 1; omega
    · rw [up_get (by omega)]; congr 1; omega
theorem part_nil (ts : List (Int × Int)) : partL ts [] = [] := by
  unfold partL
  have : (ts.filter fun t => decide (t.1 ∈ ([] : List Int)) && decide (t.2 ∈ ([] : List Int))) = [] := by
    rw [List.filter_eq_nil_iff]; intro a _; simp
  rw [this]; rfl
/-- some of the places -/
def pick (pl inn : List Int) : List Int := inn.map fun p => pl.getD p.toNat 0
theorem pick_get {pl inn : List Int} {n : Nat} (hi : Ris pl.length inn) {i : Nat} {p : Int} (h : inn[i]? = some p) : ∃ a, pl[p.toNat]? = some a ∧ (pick pl inn)[i]? = some a := by
  have b := hi.2 p (List.mem_of_getElem? h)
  have hl : p.toNat < pl.length := by omega
  refine ⟨pl[p.toNat], List.getElem?_eq_getElem hl, ?_⟩
  unfold pick
  rw [List.getElem?_map, h]
  show some (pl.getD p.toNat 0) = _
  rw [List.getD_eq_getElem?_getD, List.getElem?_eq_getElem hl]; rfl
theorem pick_ris {n : Nat} {pl inn : List Int} (hp : Ris n pl) (hi : Ris pl.length inn) : Ris n (pick pl inn) := by
  refine ⟨?_, fun x hx => ?_⟩
  · rw [List.pairwise_iff_getElem]
    intro i j li lj hij
    have li' : i < inn.length := by unfold pick at li; rwa [List.length_map] at li
    have lj' : j < inn.length := by unfold pick at lj; rwa [List.length_map] at lj
    obtain ⟨a, ha, ga⟩ := pick_get (n := n) hi (List.getElem?_eq_getElem li')
    obtain ⟨b, hb, gb⟩ := pick_get (n := n) hi (List.getElem?_eq_getElem lj')
    rw [List.getElem?_eq_getElem li] at ga
    rw [List.getElem?_eq_getElem lj] at gb
    have e1 := Option.some.inj ga
    have e2 := Option.some.inj gb
    rw [e1, e2]
    have := (List.pairwise_iff_getElem.mp hi.1) i j li' lj' hij
    have b1 := hi.2 _ (List.getElem_mem li')
    have b2 := hi.2 _ (List.getElem_mem lj')
    exact (ris_lt hp ha hb).mp (by omega)
  · unfold pick at hx
    obtain ⟨p, hp', rfl⟩ := List.mem_map.mp hx
    have b := hi.2 p hp'
    have hl : p.toNat < pl.length := by omega
    rw [List.getD_eq_getElem?_getD, List.getElem?_eq_getElem hl]
    exact hp.2 _ (List.getElem_mem hl)
theorem part_part {n : Nat} {ts : List (Int × Int)} {pl inn : List Int} (hw : ts.Pairwise ltT) (hp : Ris n pl) (hi : Ris pl.length inn) :
    partL (partL ts pl) inn = partL ts (pick pl inn) := by
  have hq := pick_ris hp hi
  refine pw_eq (part_pw hi (part_pw hp hw)) (part_pw hq hw) fun t => ?_
  rw [mem_part hi.nodup, mem_part hq.nodup]
  constructor
  · rintro ⟨i, j, a, b, rfl, h1, h2, h3⟩
    obtain ⟨i', j', a', b', e, k1, k2, k3⟩ := (mem_part hp.nodup).mp h3
    cases e
    obtain ⟨x, hx, gx⟩ := pick_get (n := n) hi h1
    obtain ⟨y, hy, gy⟩ := pick_get (n := n) hi h2
    rw [Int.toNat_natCast, k1] at hx
    rw [Int.toNat_natCast, k2] at hy
    cases hx; cases hy
    exact ⟨i, j, _, _, rfl, gx, gy, k3⟩
  · rintro ⟨i, j, a, b, rfl, h1, h2, h3⟩
    have li : i < inn.length := by have := (List.getElem?_eq_some_iff.mp h1).1; unfold pick at this; rwa [List.length_map] at this
    have lj : j < inn.length := by have := (List.getElem?_eq_some_iff.mp h2).1; unfold pick at this; rwa [List.length_map] at this
    obtain ⟨x, hx, gx⟩ := pick_get (n := n) hi (List.getElem?_eq_getElem li)
    obtain ⟨y, hy, gy⟩ := pick_get (n := n) hi (List.getElem?_eq_getElem lj)
    rw [h1] at gx
    rw [h2] at gy
    cases gx; cases gy
    have b1 := hi.2 _ (List.getElem_mem li)
    have b2 := hi.2 _ (List.getElem_mem lj)
    refine ⟨i, j, inn[i], inn[j], rfl, List.getElem?_eq_getElem li, List.getElem?_eq_getElem lj, (mem_part hp.nodup).mpr ⟨inn[i].toNat, inn[j].toNat, a, b, ?_, hx, hy, h3⟩⟩
    congr 1 <;> omega
end My

set_option Elab.async false
set_option linter.all false
set_option maxRecDepth 100000
namespace My
open PySem PySem.Spec PyProof.Rows L2 GxR

/-! ### dict comprehensions with keys of any kind (DPut) -/
section
variable {X : Cx}
theorem d_dictPut {pins : List (Addr × Obj)} {σ : L2.St} {H H' : Hp} {s : Shared} {E : Value → Shared → Prop} {D : Addr} {y v : V} {u r : Value} {Q : Unit → Shared → Prop} (hu : X.A.units + 1 < cLine) (I : Inv X pins σ H s) (g : DPut H D y v H')
    (ry : RelV y u) (rv : RelV v r) (h : ∀ s', Inv X pins σ H' s' → Q () s') : wpAny (model X.prog X.w) X.A (dictSet D u r) Q E s := by
  rcases g with ⟨kvs, k, e, rfl, l, rfl⟩ | ⟨kvs, k, b, e, rfl, eb, l, rfl⟩
  · exact d_dictSet I e l ry rv h
  · cases (show u = Value.ref b from ry)
    obtain ⟨z, hd, xs, rel, dd⟩ := dt_of I.hok e
    have hz : xs.length ≤ sizeLine := by
      rw [← Paired.length rel]; exact z
    have hp := length_putK kvs k v
    refine wpAny_dictSet_heap (hsz := hz) (show X.A.units < cLine from Nat.lt_of_succ_lt hu) (L2.key_of I.hok eb) dd fun h' dd' hs => h _ ?_
    obtain ⟨q, es, ep, hq, h2, h3, h4, _, h5⟩ := dd'
    refine d_write I (by rw [e]; exact True.intro) hs ⟨q, hq⟩ ⟨by omega, hd, _, (rel.put k eb rv).keeps fun c ys ec => ?_, q, es, ep, hq, h2, h3, h4, h5⟩
    rw [upd_ne (ne_of ec e (fun z => nomatch z))]; exact ec
/-- the turn behind what is yielded -/
def dcStep (g : TG) (tt : TT) (tk tv : TE) (vs : List Nat) (σ : L2.St) (D : Addr) (Nx : Hp → Prop) (x : V) (H' : Hp) : Prop :=
  g x (wipe σ vs) H' fun σ2 H2 => wipe σ2 vs = wipe σ vs ∧ tt σ2 H2 fun b H3 => if b = true then tk σ2 H3 fun y H4 => tv σ2 H4 fun z H5 => ∃ H6, DPut H5 D y z H6 ∧ Nx H6 else Nx H3
def tDcP (o0 : HO) (wi : TI) (g : TG) (tt : TT) (tk tv : TE) (vs : List Nat) : TE := fun σ H Q => wi σ H fun J H1 => ∀ D, H1 D = none → ∃ W : Nat → Nat → Hp → Prop, (∃ m, W 0 m (upd H1 D o0)) ∧ ∀ i m H, W i m H →
  (J.stop i H ∧ Q (.ref D) H) ∨ (J.go i H ∧ ∃ Nx : Hp → Prop, (∀ H', Nx H' → ∃ m', m' < m ∧ W (i + 1) m' H') ∧ ∀ x H', J.yld i H x H' → dcStep g tt tk tv vs σ D Nx x H')
/-- a new empty dict may be read so -/
def Empt (o0 : HO) : Prop := ∀ (P : Program) (w : World) (H : Hp) (h : Heap), sysModules < h.objs.size → ObjOk P w H (h.push { cls := .type "dict", data := .dict #[] }) h.objs.size o0
theorem empt_dK : Empt (.dK []) := fun _ _ _ h hb => dk_empty h hb
theorem empt_dT : Empt (.dT []) := fun _ _ _ h hb => dt_empty h hb
abbrev inCell (X : Cx) (s : Shared) (scope : Scope) : Env := compEnvC scope (cellsFrom (s.heap.objs.size + 1) scope.names (cloFrom X.env.cells scope.names [])) s.heap.objs.size X.env
theorem pe_dcP {o0 : HO} {kx vx tg iter : Expr} {ifs : List Expr} {scope : Scope} {own : List (Str × Nat)} {pos : Pos} {wi : TI} {g : TG} {tt : TT} {tk tv : TE} (em : Empt o0) (hu : X.A.units + 1 < cLine) (hc : X.calm = true) (hN : X.N.Nodup) (hi : PI X tg iter wi) (ok : BlkOk X.N X.env.scope scope own)
    (hg : ∀ (s : Shared) (H : Hp) (C : Addr) (cl : List (Str × Addr)) (fp : List Addr), PG (X.blk s H scope (compEnvC scope cl C X.env) fp) tg g)
    (ht : ∀ (s : Shared) (H : Hp) (C : Addr) (cl : List (Str × Addr)) (fp : List Addr), PTs (X.blk s H scope (compEnvC scope cl C X.env) fp) ifs tt)
    (hk : ∀ (s : Shared) (H : Hp) (C : Addr) (cl : List (Str × Addr)) (fp : List Addr), PE (X.blk s H scope (compEnvC scope cl C X.env) fp) kx tk)
    (he : ∀ (s : Shared) (H : Hp) (C : Addr) (cl : List (Str × Addr)) (fp : List Addr), PE (X.blk s H scope (compEnvC scope cl C X.env) fp) vx tv) (hs : ∀ x, foldedSetIterable iter X.env x = pure x := by intro _; rfl) :
    PE X (.DictComp kx vx [⟨tg, iter, ifs, 0⟩] scope pos) (tDcP o0 wi g tt tk tv (own.map (·.2))) := by
  refine ⟨fun pins s σ H Q I h => ?_⟩
  rw [arm_eval_DictComp]
  have fr : ∀ y ∈ scope.names, y.2 = .free → ∃ c, X.env.cells.lookup y.1 = some c := fun y hy e => (ok.free y hy e).elim (fun k => I.ok.has _ (.inl k)) fun k => I.ok.has _ (.inr k)
  refine wpAny_comprehension_free rfl hs (closure_ok fr) ok.kind (fun y hy e => by rw [ok.uniq y hy, e]) ?_
  refine thn (hi.run pins s σ H _ I h) fun _ _ hx => thn hx fun _ s2 h2 => ?_
  obtain ⟨it, fp, tn, J, H2, rfl, I2, T, st2, f2, q⟩ := h2
  refine wpAny_newObj_type (newEnv_comp ?_)
  generalize hD : s2.heap.objs.size = D
  obtain ⟨W, ⟨m0, w0⟩, turn⟩ := q D (I2.hok.fresh (Nat.le_of_eq hD))
  generalize hs3 : (⟨s2.heap.push { cls := .type "dict", data := .dict #[] }, s2.gens, s2.drawn, s2.toks, s2.os⟩ : Shared) = s3
  have I3 : Inv X pins σ (upd H2 D o0) s3 := by
    rw [← hs3]
    refine I2.laid (t' := s2.toks) (fun b o e => Heap.get?_push_of_some _ e) (Nat.le_of_eq hD) ?_
    rw [← hD]; exact em _ _ _ _ I2.big
  have h3 : s3.heap = s2.heap.push { cls := .type "dict", data := .dict #[] } := by rw [← hs3]
  have f3 : ∀ b ∈ fp, FpOk X pins (upd H2 D o0) b ∧ b < s3.heap.objs.size := fun b hb => by
    obtain ⟨o, e, _⟩ := T.obj _ _ st2 b hb
    have hlt := Heap.lt_size e
    refine ⟨⟨?_, (f2 b hb).2⟩, by rw [h3, Heap.size_push]; exact Nat.lt_succ_of_lt hlt⟩
    rw [upd_ne (by rw [← hD]; exact Nat.ne_of_lt hlt)]; exact (f2 b hb).1
  have st3 : tn 0 s3.heap := T.keep _ _ _ st2 fun b _ o e => by rw [h3]; exact Heap.get?_push_of_some _ e
  have I4 := block_start I3 ok hN f3
  have pg := hg s3 (upd H2 D o0) s3.heap.objs.size (cellsFrom (s3.heap.objs.size + 1) scope.names (cloFrom X.env.cells scope.names [])) fp
  have pt := ht s3 (upd H2 D o0) s3.heap.objs.size (cellsFrom (s3.heap.objs.size + 1) scope.names (cloFrom X.env.cells scope.names [])) fp
  have pk := hk s3 (upd H2 D o0) s3.heap.objs.size (cellsFrom (s3.heap.objs.size + 1) scope.names (cloFrom X.env.cells scope.names [])) fp
  have pe := he s3 (upd H2 D o0) s3.heap.objs.size (cellsFrom (s3.heap.objs.size + 1) scope.names (cloFrom X.env.cells scope.names [])) fp
  refine (?_ : codeAny _ _ (.compStart (.DictComp kx vx [⟨tg, iter, ifs, 0⟩] scope pos) 0 (.ref it) (.ref D) (inCell X s3 scope)) (compPost (model X.prog X.w) X.A X.xe none (fun v s' => ∃ x H', Inv X pins σ H' s' ∧ RelV x v ∧ Q x H') (.ref D) s3.heap.objs.size) { s3 with heap := pushCells (s3.heap.push { cls := .type "dict", data := .dict #[] }) scope.names })
  have nfp : ∀ b ∈ fp, (upd H2 D o0) b = none := fun b hb => (f3 b hb).1.1
  obtain ⟨ce, hce⟩ : ∃ ce, inCell X s3 scope = ce := ⟨_, rfl⟩
  have cL : ce.locals = s3.heap.objs.size := by rw [← hce]; rfl
  rw [show compEnvC scope (cellsFrom (s3.heap.objs.size + 1) scope.names (cloFrom X.env.cells scope.names [])) s3.heap.objs.size X.env = ce from hce] at I4 pg pt pk pe
  rw [hce]
  generalize upd H2 D o0 = H3 at I3 I4 pg pt pk pe w0 nfp f3
  obtain ⟨s4, hs4⟩ : ∃ s4 : Shared, { s3 with heap := pushCells (s3.heap.push { cls := .type "dict", data := .dict #[] }) scope.names } = s4 := ⟨_, rfl⟩
  rw [hs4] at I4 ⊢
  have st4 : tn 0 s4.heap := T.keep _ _ _ st3 fun b _ o e => by
    rw [← hs4]; exact pushCells_keeps _ _ _ _ (Heap.get?_push_of_some _ e)
  let Y := X.blk s3 H3 scope ce fp
  have stat : ∀ {σ' : L2.St} {H' : Hp} {s' : Shared}, Inv Y [] σ' H' s' → (∀ b ∈ fp, H' b = none) → ∀ b ∈ fp, FpOk Y [] H' b := fun {σ' H' s'} I' hn b hb =>
    ⟨hn b hb, (I'.ok.exf b hb).1, I'.ok.exfs b hb, .inl hb, fun x c e => (I'.ok.exf b hb).2 x c e, fun p hp => absurd (show p ∈ ([] : List (Addr × Obj)) ++ [] from hp) (by simp)⟩
  let Z : Nat → Shared → Prop := fun n s' => ∃ i H', Inv Y [] (wipe σ (own.map (·.2))) H' s' ∧ tn i s'.heap ∧ (∀ b ∈ fp, H' b = none) ∧ W i n H'
  have loop : codeAny (model X.prog X.w) X.A (.compLoop (.DictComp kx vx [⟨tg, iter, ifs, 0⟩] scope pos) 0 (.ref it) (.ref D) ce) (compPost (model X.prog X.w) X.A X.xe none (fun v s' => ∃ x H', Inv X pins σ H' s' ∧ RelV x v ∧ Q x H') (.ref D) s3.heap.objs.size) s4 := by
    refine compLoop_anyD Z ?_ m0 ⟨0, H3, I4, st4, nfp, w0⟩
    rintro n s5 ⟨i, H5, I5, st5, n5, w5⟩
    rcases turn i n H5 w5 with ⟨stop, qq⟩ | ⟨go, Nx, hNx, step⟩
    · refine thnF (T.done Y rfl rfl rfl hc i [] s5 _ H5 (fun _ _ => False) I5 (stat I5 n5) st5 stop) fun r s6 ⟨hr, I6⟩ => ?_
      subst hr
      have I7 : Inv X pins σ H5 s6 := I3.call' (ch := fp) I6.os I6.base I6.hok I6.bare fun b hb => (fun (z : FpOk X pins H3 b) => ⟨z.2.2.2.1, z.2.1, z.2.2.2.2.1, z.2.2.2.2.2⟩) (f3 b hb).1
      have nC : H5 s3.heap.objs.size = none := by
        rw [← cL]; exact I6.free
      obtain ⟨m, hn, _⟩ := I6.loc
      have hn' : s6.heap.Ns s3.heap.objs.size m := by
        rw [← cL]; exact hn
      obtain ⟨e0, e1, e2, e3, e4, e5⟩ : FpOk X pins H5 s3.heap.objs.size := I3.fpOk (Nat.le_refl _) nC
      exact ⟨m, hn', fun h'' sb => ⟨.ref D, H5, I7.turned (t' := s6.toks) (fun b o hb e => (sb.2 b hb).trans e) e0 e1 e3 e4 e5, rfl, qq⟩⟩
    · refine thnF (T.item Y rfl rfl rfl hc i [] s5 _ H5 (fun _ _ => False) I5 (stat I5 n5) st5 go) fun r s6 ⟨u, hr, h6⟩ => ?_
      subst hr
      refine thnF h6 fun _ s7 ⟨x, H7, I7, r7, y7, st7, n7⟩ => ?_
      refine thnF (pg.run _ s7 _ H7 x u _ (I7.pinned (stat I7 n7) (T.obj _ _ st7)) r7 (step x H7 y7)) fun _ s8 ⟨σ8, H8, I8, hw8, q8⟩ => ?_
      refine thnF (pt.run _ s8 σ8 H8 _ I8 q8) fun b s9 ⟨H9, I9, q9⟩ => ?_
      have fin : ∀ {s' : Shared} {H' : Hp}, Inv Y ([] ++ pinsAt fp s7.heap) σ8 H' s' → Nx H' → ∃ m, m < n ∧ Z m s' := fun {s' H'} I' nx => by
        obtain ⟨m', hm, w'⟩ := hNx H' nx
        have pin' : ∀ b ∈ fp, ∀ o, s7.heap.get? b = some o → s'.heap.get? b = some o ∧ H' b = none := fun b hb o e =>
          (fun z => ⟨z.1, z.2.1⟩) (I'.pin (b, o) (List.mem_append_right _ (List.mem_append_right _ (mem_pinsAt hb e))))
        have hl : (wipe σ (own.map (·.2))).length = σ8.length := by rw [← hw8, wipe_length]
        refine ⟨m', hm, i + 1, H', (I'.unpinned (pins := [])).weak hl (fun j v e => by rw [← hw8] at e; exact (wipe_some e).1), T.keep _ _ _ st7 fun b hb o e => (pin' b hb o e).1, fun b hb => ?_, w'⟩
        obtain ⟨o, e, _⟩ := T.obj _ _ st7 b hb
        exact (pin' b hb o e).2
      cases b with
      | false => exact fin I9 q9
      | true =>
        refine thnF (pk.run _ s9 σ8 H9 _ I9 q9) fun z s10 ⟨yk, H10, I10, r10, q10⟩ => ?_
        refine thnF (pe.run _ s10 σ8 H10 _ I10 q10) fun z2 s11 ⟨yv, H11, I11, r11, H12, pu, nx⟩ => ?_
        exact d_dictPut (X := Y) hu I11 pu r10 r11 fun s12 I12 => fin I12 nx
  exact codeAny_compStart_dict loop (T.self X.A 0 _ _ _ st4 loop)
end
theorem dcP_it {o0 : HO} {J : It} {n : Nat} {G : Hp → Prop} {Y : Nat → Hp → V → Hp → Prop} (w : Walk J n G Y) {g : TG} {tt : TT} {tk tv : TE} {vs : List Nat} {σ : L2.St} {H1 : Hp} {D : Addr} {Qd : Hp → Prop} (Pv : Nat → Hp → Prop)
    (h0 : Pv 0 (upd H1 D o0)) (hG : ∀ i H, i ≤ n → Pv i H → G H) (hs : ∀ i x H H', i < n → Pv i H → Y i H x H' → dcStep g tt tk tv vs σ D (Pv (i + 1)) x H') (hd : ∀ H, Pv n H → Qd H) :
    ∃ W : Nat → Nat → Hp → Prop, (∃ m, W 0 m (upd H1 D o0)) ∧ ∀ i m H, W i m H → (J.stop i H ∧ Qd H) ∨
      (J.go i H ∧ ∃ Nx : Hp → Prop, (∀ H', Nx H' → ∃ m', m' < m ∧ W (i + 1) m' H') ∧ ∀ x H', J.yld i H x H' → dcStep g tt tk tv vs σ D Nx x H') := by
  refine ⟨fun i m H => m = n - i ∧ i ≤ n ∧ Pv i H, ⟨n, rfl, Nat.zero_le _, h0⟩, ?_⟩
  rintro i m H ⟨rfl, hi, p⟩
  have q := hG i H hi p
  by_cases hlt : i < n
  · exact .inr ⟨w.goes i H hlt q, Pv (i + 1), fun H' p' => ⟨n - (i + 1), by omega, rfl, hlt, p'⟩, fun x H' y => hs i x H H' hlt p (w.yields i H x H' hlt q y)⟩
  · have e : i = n := by omega
    subst e
    exact .inl ⟨w.stops H q, hd H p⟩
/-! ### one walker for all -/
theorem wk {J : It} {n : Nat} {G : Hp → Prop} {Y : Nat → Hp → V → Hp → Prop} (w : Walk J n G Y) {S : (Hp → Prop) → V → Hp → Prop} {H1 : Hp} {Qd : Hp → Prop} (Pv : Nat → Hp → Prop)
    (h0 : Pv 0 H1) (hG : ∀ i H, i ≤ n → Pv i H → G H) (hs : ∀ i x H H', i < n → Pv i H → Y i H x H' → S (Pv (i + 1)) x H') (hd : ∀ H, Pv n H → Qd H) :
    ∃ W : Nat → Nat → Hp → Prop, (∃ m, W 0 m H1) ∧ ∀ i m H, W i m H → (J.stop i H ∧ Qd H) ∨
      (J.go i H ∧ ∃ Nx : Hp → Prop, (∀ H', Nx H' → ∃ m', m' < m ∧ W (i + 1) m' H') ∧ ∀ x H', J.yld i H x H' → S Nx x H') := by
  refine ⟨fun i m H => m = n - i ∧ i ≤ n ∧ Pv i H, ⟨n, rfl, Nat.zero_le _, h0⟩, ?_⟩
  rintro i m H ⟨rfl, hi, p⟩
  have q := hG i H hi p
  by_cases hlt : i < n
  · exact .inr ⟨w.goes i H hlt q, Pv (i + 1), fun H' p' => ⟨n - (i + 1), by omega, rfl, hlt, p'⟩, fun x H' y => hs i x H H' hlt p (w.yields i H x H' hlt q y)⟩
  · have e : i = n := by omega
    subst e
    exact .inl ⟨w.stops H q, hd H p⟩

end My

set_option Elab.async false
set_option linter.all false
set_option maxRecDepth 100000
namespace My
open PySem PySem.Spec PyProof.Rows L2 GxR

/-! ### name = {k: v for ..}, the name a plain local -/
section
variable {X : Cx}
theorem dc_coreP {o0 : HO} {pins : List (Addr × Obj)} {s : Shared} {σ : L2.St} {H : Hp} {Q : VK} {kx vx tg iter : Expr} {ifs : List Expr} {scope : Scope} {own : List (Str × Nat)} {pos pos' : Pos} {wi : TI} {g : TG} {tt : TT} {tk tv : TE} {use : Option (Value → Sem Unit)} {Qf : Value → Shared → Prop} (em : Empt o0) (hu : X.A.units + 1 < cLine) (hc : X.calm = true) (hN : X.N.Nodup) (I : Inv X pins σ H s) (hi : PI X tg iter wi) (ok : BlkOk X.N X.env.scope scope own)
    (hg : ∀ (s : Shared) (H : Hp) (C : Addr) (cl : List (Str × Addr)) (fp : List Addr), PG (X.blk s H scope (compEnvC scope cl C X.env) fp) tg g)
    (ht : ∀ (s : Shared) (H : Hp) (C : Addr) (cl : List (Str × Addr)) (fp : List Addr), PTs (X.blk s H scope (compEnvC scope cl C X.env) fp) ifs tt)
    (hk : ∀ (s : Shared) (H : Hp) (C : Addr) (cl : List (Str × Addr)) (fp : List Addr), PE (X.blk s H scope (compEnvC scope cl C X.env) fp) kx tk)
    (he : ∀ (s : Shared) (H : Hp) (C : Addr) (cl : List (Str × Addr)) (fp : List Addr), PE (X.blk s H scope (compEnvC scope cl C X.env) fp) vx tv) (hs : ∀ x, foldedSetIterable iter X.env x = pure x)
    (h : tDcP o0 wi g tt tk tv (own.map (·.2)) σ H Q)
    (hRR : ∀ D C s' m H', Inv X pins σ H' s' → Q (.ref D) H' → s'.heap.Ns C m → FpOk X pins H' C → compPost (model X.prog X.w) X.A X.xe use Qf (.ref D) C (.ok .next) s') :
    wpAny (model X.prog X.w) X.A (comprehension (.DictComp kx vx [⟨tg, iter, ifs, 0⟩] scope pos) scope X.env pos' (newObj (.type "dict") (.dict #[])) false (eval iter X.env) use) Qf X.xe s := by
  have fr : ∀ y ∈ scope.names, y.2 = .free → ∃ c, X.env.cells.lookup y.1 = some c := fun y hy e => (ok.free y hy e).elim (fun k => I.ok.has _ (.inl k)) fun k => I.ok.has _ (.inr k)
  refine wpAny_comprehension_free (use := use) rfl hs (closure_ok fr) ok.kind (fun y hy e => by rw [ok.uniq y hy, e]) ?_
  refine thn (hi.run pins s σ H _ I h) fun _ _ hx => thn hx fun _ s2 h2 => ?_
  obtain ⟨it, fp, tn, J, H2, rfl, I2, T, st2, f2, q⟩ := h2
  refine wpAny_newObj_type (newEnv_comp ?_)
  generalize hD : s2.heap.objs.size = D
  obtain ⟨W, ⟨m0, w0⟩, turn⟩ := q D (I2.hok.fresh (Nat.le_of_eq hD))
  generalize hs3 : (⟨s2.heap.push { cls := .type "dict", data := .dict #[] }, s2.gens, s2.drawn, s2.toks, s2.os⟩ : Shared) = s3
  have I3 : Inv X pins σ (upd H2 D o0) s3 := by
    rw [← hs3]
    refine I2.laid (t' := s2.toks) (fun b o e => Heap.get?_push_of_some _ e) (Nat.le_of_eq hD) ?_
    rw [← hD]; exact em _ _ _ _ I2.big
  have h3 : s3.heap = s2.heap.push { cls := .type "dict", data := .dict #[] } := by rw [← hs3]
  have f3 : ∀ b ∈ fp, FpOk X pins (upd H2 D o0) b ∧ b < s3.heap.objs.size := fun b hb => by
    obtain ⟨o, e, _⟩ := T.obj _ _ st2 b hb
    have hlt := Heap.lt_size e
    refine ⟨⟨?_, (f2 b hb).2⟩, by rw [h3, Heap.size_push]; exact Nat.lt_succ_of_lt hlt⟩
    rw [upd_ne (by rw [← hD]; exact Nat.ne_of_lt hlt)]; exact (f2 b hb).1
  have st3 : tn 0 s3.heap := T.keep _ _ _ st2 fun b _ o e => by rw [h3]; exact Heap.get?_push_of_some _ e
  have I4 := block_start I3 ok hN f3
  have pg := hg s3 (upd H2 D o0) s3.heap.objs.size (cellsFrom (s3.heap.objs.size + 1) scope.names (cloFrom X.env.cells scope.names [])) fp
  have pt := ht s3 (upd H2 D o0) s3.heap.objs.size (cellsFrom (s3.heap.objs.size + 1) scope.names (cloFrom X.env.cells scope.names [])) fp
  have pk := hk s3 (upd H2 D o0) s3.heap.objs.size (cellsFrom (s3.heap.objs.size + 1) scope.names (cloFrom X.env.cells scope.names [])) fp
  have pe := he s3 (upd H2 D o0) s3.heap.objs.size (cellsFrom (s3.heap.objs.size + 1) scope.names (cloFrom X.env.cells scope.names [])) fp
  refine (?_ : codeAny _ _ (.compStart (.DictComp kx vx [⟨tg, iter, ifs, 0⟩] scope pos) 0 (.ref it) (.ref D) (inCell X s3 scope)) (compPost (model X.prog X.w) X.A X.xe use Qf (.ref D) s3.heap.objs.size) { s3 with heap := pushCells (s3.heap.push { cls := .type "dict", data := .dict #[] }) scope.names })
  have nfp : ∀ b ∈ fp, (upd H2 D o0) b = none := fun b hb => (f3 b hb).1.1
  obtain ⟨ce, hce⟩ : ∃ ce, inCell X s3 scope = ce := ⟨_, rfl⟩
  have cL : ce.locals = s3.heap.objs.size := by rw [← hce]; rfl
  rw [show compEnvC scope (cellsFrom (s3.heap.objs.size + 1) scope.names (cloFrom X.env.cells scope.names [])) s3.heap.objs.size X.env = ce from hce] at I4 pg pt pk pe
  rw [hce]
  generalize upd H2 D o0 = H3 at I3 I4 pg pt pk pe w0 nfp f3
  obtain ⟨s4, hs4⟩ : ∃ s4 : Shared, { s3 with heap := pushCells (s3.heap.push { cls := .type "dict", data := .dict #[] }) scope.names } = s4 := ⟨_, rfl⟩
  rw [hs4] at I4 ⊢
  have st4 : tn 0 s4.heap := T.keep _ _ _ st3 fun b _ o e => by
    rw [← hs4]; exact pushCells_keeps _ _ _ _ (Heap.get?_push_of_some _ e)
  let Y := X.blk s3 H3 scope ce fp
  have stat : ∀ {σ' : L2.St} {H' : Hp} {s' : Shared}, Inv Y [] σ' H' s' → (∀ b ∈ fp, H' b = none) → ∀ b ∈ fp, FpOk Y [] H' b := fun {σ' H' s'} I' hn b hb =>
    ⟨hn b hb, (I'.ok.exf b hb).1, I'.ok.exfs b hb, .inl hb, fun x c e => (I'.ok.exf b hb).2 x c e, fun p hp => absurd (show p ∈ ([] : List (Addr × Obj)) ++ [] from hp) (by simp)⟩
  let Z : Nat → Shared → Prop := fun n s' => ∃ i H', Inv Y [] (wipe σ (own.map (·.2))) H' s' ∧ tn i s'.heap ∧ (∀ b ∈ fp, H' b = none) ∧ W i n H'
  have loop : codeAny (model X.prog X.w) X.A (.compLoop (.DictComp kx vx [⟨tg, iter, ifs, 0⟩] scope pos) 0 (.ref it) (.ref D) ce) (compPost (model X.prog X.w) X.A X.xe use Qf (.ref D) s3.heap.objs.size) s4 := by
    refine compLoop_anyD Z ?_ m0 ⟨0, H3, I4, st4, nfp, w0⟩
    rintro n s5 ⟨i, H5, I5, st5, n5, w5⟩
    rcases turn i n H5 w5 with ⟨stop, qq⟩ | ⟨go, Nx, hNx, step⟩
    · refine thnF (T.done Y rfl rfl rfl hc i [] s5 _ H5 (fun _ _ => False) I5 (stat I5 n5) st5 stop) fun r s6 ⟨hr, I6⟩ => ?_
      subst hr
      have I7 : Inv X pins σ H5 s6 := I3.call' (ch := fp) I6.os I6.base I6.hok I6.bare fun b hb => (fun (z : FpOk X pins H3 b) => ⟨z.2.2.2.1, z.2.1, z.2.2.2.2.1, z.2.2.2.2.2⟩) (f3 b hb).1
      have nC : H5 s3.heap.objs.size = none := by
        rw [← cL]; exact I6.free
      obtain ⟨m, hn, _⟩ := I6.loc
      have hn' : s6.heap.Ns s3.heap.objs.size m := by
        rw [← cL]; exact hn
      have fpo : FpOk X pins H5 s3.heap.objs.size := I3.fpOk (Nat.le_refl _) nC
      exact hRR D _ s6 m H5 I7 qq hn' fpo
    · refine thnF (T.item Y rfl rfl rfl hc i [] s5 _ H5 (fun _ _ => False) I5 (stat I5 n5) st5 go) fun r s6 ⟨u, hr, h6⟩ => ?_
      subst hr
      refine thnF h6 fun _ s7 ⟨x, H7, I7, r7, y7, st7, n7⟩ => ?_
      refine thnF (pg.run _ s7 _ H7 x u _ (I7.pinned (stat I7 n7) (T.obj _ _ st7)) r7 (step x H7 y7)) fun _ s8 ⟨σ8, H8, I8, hw8, q8⟩ => ?_
      refine thnF (pt.run _ s8 σ8 H8 _ I8 q8) fun b s9 ⟨H9, I9, q9⟩ => ?_
      have fin : ∀ {s' : Shared} {H' : Hp}, Inv Y ([] ++ pinsAt fp s7.heap) σ8 H' s' → Nx H' → ∃ m, m < n ∧ Z m s' := fun {s' H'} I' nx => by
        obtain ⟨m', hm, w'⟩ := hNx H' nx
        have pin' : ∀ b ∈ fp, ∀ o, s7.heap.get? b = some o → s'.heap.get? b = some o ∧ H' b = none := fun b hb o e =>
          (fun z => ⟨z.1, z.2.1⟩) (I'.pin (b, o) (List.mem_append_right _ (List.mem_append_right _ (mem_pinsAt hb e))))
        have hl : (wipe σ (own.map (·.2))).length = σ8.length := by rw [← hw8, wipe_length]
        refine ⟨m', hm, i + 1, H', (I'.unpinned (pins := [])).weak hl (fun j v e => by rw [← hw8] at e; exact (wipe_some e).1), T.keep _ _ _ st7 fun b hb o e => (pin' b hb o e).1, fun b hb => ?_, w'⟩
        obtain ⟨o, e, _⟩ := T.obj _ _ st7 b hb
        exact (pin' b hb o e).2
      cases b with
      | false => exact fin I9 q9
      | true =>
        refine thnF (pk.run _ s9 σ8 H9 _ I9 q9) fun z s10 ⟨yk, H10, I10, r10, q10⟩ => ?_
        refine thnF (pe.run _ s10 σ8 H10 _ I10 q10) fun z2 s11 ⟨yv, H11, I11, r11, H12, pu, nx⟩ => ?_
        exact d_dictPut (X := Y) hu I11 pu r10 r11 fun s12 I12 => fin I12 nx
  exact codeAny_compStart_dict loop (T.self X.A 0 _ _ _ st4 loop)
theorem ps_setDcP {o0 : HO} {i : Nat} {y : Str} {py : Pos} {kx vx tg iter : Expr} {ifs : List Expr} {scope : Scope} {own : List (Str × Nat)} {pos spos : Pos} {wi : TI} {g : TG} {tt : TT} {tk tv : TE} (em : Empt o0) (hu : X.A.units + 1 < cLine) (hc : X.calm = true) (hN : X.N.Nodup) (hy : X.N[i]? = some y) (hyl : X.env.scope.names.lookup y = some .local)
    (hsw : swapsWith (.DictComp kx vx [⟨tg, iter, ifs, 0⟩] scope pos) (some (.Name y py)) spos.line X.env = pure true) (hi : PI X tg iter wi) (ok : BlkOk X.N X.env.scope scope own)
    (hg : ∀ (s : Shared) (H : Hp) (C : Addr) (cl : List (Str × Addr)) (fp : List Addr), PG (X.blk s H scope (compEnvC scope cl C X.env) fp) tg g)
    (ht : ∀ (s : Shared) (H : Hp) (C : Addr) (cl : List (Str × Addr)) (fp : List Addr), PTs (X.blk s H scope (compEnvC scope cl C X.env) fp) ifs tt)
    (hk : ∀ (s : Shared) (H : Hp) (C : Addr) (cl : List (Str × Addr)) (fp : List Addr), PE (X.blk s H scope (compEnvC scope cl C X.env) fp) kx tk)
    (he : ∀ (s : Shared) (H : Hp) (C : Addr) (cl : List (Str × Addr)) (fp : List Addr), PE (X.blk s H scope (compEnvC scope cl C X.env) fp) vx tv) (hs : ∀ x, foldedSetIterable iter X.env x = pure x := by intro _; rfl) :
    PS X (.Assign [.Name y py] (.DictComp kx vx [⟨tg, iter, ifs, 0⟩] scope pos) spos) (tAsg (tDcP o0 wi g tt tk tv (own.map (·.2))) (gName i)) := by
  refine ⟨fun pins s σ H D I h => ?_⟩
  rw [exec_Assign_Name_used _ _ _ _ hsw]
  have h' : tDcP o0 wi g tt tk tv (own.map (·.2)) σ H (fun x H1 => gName i x σ H1 D.nx) := h
  refine wpAny_bind (wpAny_standAt (wpAny_bind (?_ : wpAny _ X.A (do let _ ← comprehension (.DictComp kx vx [⟨tg, iter, ifs, 0⟩] scope pos) scope X.env (firstIterPos [⟨tg, iter, ifs, 0⟩] pos) (newObj (.type "dict") (.dict #[])) false (eval iter X.env) (some (assign (.Name y py) X.env))) _ _ s)))
  refine wpAny_bind (wpAny_mono (dc_coreP (Qf := fun _ s' => SP X pins D .next s') em hu hc hN I hi ok hg ht hk he hs h' fun L C s' m H' I' q hn f => ?_) (fun _ s' hq => wpAny_pure (wpAny_pure hq)) fun _ _ z => z)
  refine (?_ : wpAny _ _ (assign (.Name y py) X.env (.ref L)) _ _ _)
  refine wpAny_assign_Name (store_ok2 (v := V.ref L) I' hN hy (.inl hyl) rfl (fun s2 I2 ⟨a, sb, ha⟩ => ?_) (.inr hyl))
  obtain ⟨f0, f1, f2, f3, f4, f5⟩ := f
  have haC : C ≠ a := by
    rcases ha with z | z
    · rw [z]; exact f1
    · exact fun e => f4 y a z e.symm
  exact ⟨m, hn.sameBut sb haC, fun h3 sb3 => ⟨_, H', I2.turned (t' := s2.toks) (fun b o hb e => (sb3.2 b hb).trans e) f0 f1 f3 f4 f5, q⟩⟩
theorem sw_trueD {kx vx : Expr} {gs : List Comprehension} {scope : Scope} {pos py : Pos} {y : Str} {l : Nat} {env : Env} (hk : env.scope.kind = .function) (hy : env.scope.names.lookup y = some .local) (hl : (py.line == pos.line) = true)
    (ha : (scope.names.any fun (n, k) => n == y && (k == .local || k == .cell)) = false) : swapsWith (.DictComp kx vx gs scope pos) (some (.Name y py)) l env = pure true := by
  have ky : env.kindOf y = some .local := hy
  have hb : env.blockKind = .function := by unfold Env.blockKind; rw [hk]; rfl
  unfold swapsWith
  simp only [hb, ky, ha, Expr.pos, hl]; rfl
end
end My

set_option Elab.async false
set_option linter.all false
set_option maxRecDepth 100000
namespace My
open PySem PySem.Spec PyProof.Rows L2 GxR

/-! ### dicts with tuple keys: update, dict(pairs) -/
def mergeT (kvs more : List (List Key × V)) : List (List Key × V) := more.foldl (fun acc kv => putK acc kv.1 kv.2) kvs
theorem kt_merge {H : Hp} : ∀ {more : List (List Key × V)} {ys : List (List Key × Addr × Value)} {kvs : List (List Key × V)} {xs : List (List Key × Addr × Value)}, KT H more ys → KT H kvs xs → KT H (mergeT kvs more) (storedAllH xs ys)
  | _, _, _, _, .nil, q => q
  | _, _, kvs, xs, .cons (a := p) (b := q) (l₁ := l) (l₂ := m) h t, r => by
    obtain ⟨h1, h2, h3⟩ := h
    have z := KT.put r p.1 (b := q.2.1) h2 h3
    rw [show storedH xs p.1 q.2.1 q.2.2 = storedH xs q.1 q.2.1 q.2.2 from by rw [h1]] at z
    have w : KT H (mergeT (putK kvs p.1 p.2) l) (storedAllH (storedH xs q.1 q.2.1 q.2.2) m) := kt_merge t z
    exact w
theorem len_mergeT : ∀ (more kvs : List (List Key × V)), (mergeT kvs more).length ≤ kvs.length + more.length
  | [], _ => Nat.le_refl _
  | p :: m, kvs => by
    have h1 := len_mergeT m (putK kvs p.1 p.2)
    have h2 := length_putK kvs p.1 p.2
    rw [List.length_cons]
    show (mergeT (putK kvs p.1 p.2) m).length ≤ _
    omega
theorem valV_mergeT (j : List Key) : ∀ (more kvs : List (List Key × V)), (valV (mergeT kvs more) j).isSome = ((valV kvs j).isSome || (valV more j).isSome)
  | [], kvs => by rw [show valV ([] : List (List Key × V)) j = none from rfl]; exact (Bool.or_false _).symm
  | p :: m, kvs => by
    show (valV (mergeT (putK kvs p.1 p.2) m) j).isSome = _
    rw [valV_mergeT j m, valV_put]
    by_cases h : j = p.1
    · rw [if_pos h, valV_pos h.symm]; simp
    · rw [if_neg h, valV_neg (fun z => h z.symm)]
/-- the keys' hashes differ -/
def Apart (w : World) (more : List (List Key × V)) : Prop := (more.map fun kv => reduceHash (Builtin.Tuple.tupleHashOf (kv.1.map (keyH w)))).Nodup
theorem kt_hash {P : Program} {w : World} {H : Hp} : ∀ {more : List (List Key × V)} {ys : List (List Key × Addr × Value)}, KT H more ys → (ys.map fun x => (tupleKind (mixKind P w)).hash x.1) = more.map fun kv => reduceHash (Builtin.Tuple.tupleHashOf (kv.1.map (keyH w)))
  | _, _, .nil => rfl
  | _, _, .cons (a := p) (b := q) h t => by
    rw [List.map_cons, List.map_cons, kt_hash t]
    have e : q.1 = p.1 := h.1.symm
    rw [e]; rfl
section
variable {X : Cx}
def rUpdT (w : World) : V → List V → Hp → VK → Prop := fun x xs H Q => ∃ a b kvs ms, x = .ref a ∧ xs = [.ref b] ∧ H a = some (.dT kvs) ∧ H b = some (.dT ms) ∧ a ≠ b ∧ kvs.length + ms.length ≤ sizeLine ∧ (kvs ≠ [] ∨ Apart w ms) ∧ Q .non (upd H a (.dT (mergeT kvs ms)))
theorem mt_updT (hu : X.A.units + 65 < cLine) : MtR X "dict.update" (rUpdT X.w) := by
  intro pins s σ H x xs v us Q I rx rs h
  obtain ⟨a, b, kvs, ms, rfl, rfl, ea, eb, hab, hz, hap, q⟩ := h
  cases rx
  obtain ⟨u, rfl, ru⟩ := vals1 rs
  cases ru
  obtain ⟨za, ha, xa, ra, da⟩ := dt_of I.hok ea
  obtain ⟨zb, hb, xb, rb, db⟩ := dt_of I.hok eb
  have la : xa.length = kvs.length := (Paired.length ra).symm
  have lb : xb.length = ms.length := (Paired.length rb).symm
  have hl : (mergeT kvs ms).length ≤ sizeLine := Nat.le_trans (len_mergeT ms kvs) hz
  refine call_update_dictH (tupleKind_room_in1 (by omega : X.A.units + 1 < cLine)) hab hb da db ?_ (by omega) fun h' dd' _ hs => ?_
  · rcases hap with hap | hap
    · refine .inl fun z => hap ?_
      rw [z] at la
      exact List.eq_nil_of_length_eq_zero la.symm
    · refine .inr ⟨fun y hy => ?_, by rw [kt_hash rb]; exact hap⟩
      obtain ⟨o, es, ep, _, _, _, _, his, _⟩ := db
      obtain ⟨o', items, n, e1, e2, _⟩ := his y hy
      exact ⟨o', e1, e2⟩
  · obtain ⟨q', es, ep, hq, h2, h3, h4, _, h5⟩ := dd'
    refine ⟨.non, upd H a (.dT (mergeT kvs ms)), d_write (t' := s.toks) I (by rw [ea]; exact True.intro) hs ⟨q', hq⟩ ⟨hl, ha, _, (kt_merge rb ra).keeps fun c ys ec => ?_, q', es, ep, hq, h2, h3, h4, h5⟩, rfl, q⟩
    rw [upd_ne (ne_of ec ea (fun z => nomatch z))]; exact ec

/-- dict(xs) of a list of pairs (tuple, value) -/
def rDictPT (K : PySem.W.Frag) : List V → Hp → VK → Prop := fun xs H Q => ∃ (a : Addr) (ps : List Addr) (kvs : List (List Key × V)), xs = [.ref a] ∧ SqL K H a (ps.map V.ref) ∧ Paired (fun p kv => ∃ b, H p = some (.tup [.ref b, kv.2]) ∧ H b = some (.tup (kv.1.map kV))) ps kvs ∧
  ∀ p, H p = none → Q (.ref p) (upd H p (.dT (mergeT [] kvs)))
theorem pairsT_of {pins : List (Addr × Obj)} {σ : L2.St} {H : Hp} {s : Shared} (I : Inv X pins σ H s) : ∀ {ps : List Addr} {kvs : List (List Key × V)}, Paired (fun p kv => ∃ b, H p = some (.tup [.ref b, kv.2]) ∧ H b = some (.tup (kv.1.map kV))) ps kvs →
    ∃ prs : List (List Key × Addr × Value), KT H kvs prs ∧ prs.length = ps.length ∧ ∀ (j : Nat) (q : List Key × Addr × Value), prs[j]? = some q → ∃ p, ps[j]? = some p ∧ IsTup s.heap p #[.ref q.2.1, q.2.2]
  | _, _, .nil => ⟨[], .nil, rfl, fun j q e => by simp at e⟩
  | _, _, .cons (a := p) (b := kv) h t => by
    obtain ⟨prs, r, hl, hp⟩ := pairsT_of I t
    obtain ⟨b, h1, h2⟩ := h
    obtain ⟨its, rv, ht, _⟩ := I.tuple (SqT.of (K := X.K) h1)
    obtain ⟨u, y, rfl, ru, ry⟩ := vals2 rv
    cases ru
    refine ⟨(kv.1, b, y) :: prs, .cons ⟨rfl, h2, ry⟩ r, by rw [List.length_cons, List.length_cons, hl], fun j q e => ?_⟩
    cases j with
    | zero =>
      have e' : (kv.1, b, y) = q := Option.some.inj e
      subst e'
      exact ⟨p, rfl, ht⟩
    | succ j =>
      obtain ⟨b', e1, e2⟩ := hp j q (by simpa using e)
      exact ⟨b', by simpa using e1, e2⟩
theorem call_dictPT (hcalm : X.calm = true) (hu : X.A.units + 65 < cLine) : CallR X (.type "dict") (rDictPT X.K) := by
  intro pins s σ H xs us Q I r q
  obtain ⟨a, ps, kvs, rfl, hq, hp, q⟩ := q
  obtain ⟨u, rfl, rx⟩ := vals1 r
  cases rx
  obtain ⟨its, rv, pl, hz⟩ := I.list hq
  have ei := refs_at rv
  subst ei
  rw [List.length_map] at hz
  obtain ⟨prs, rel, hl, hpr⟩ := pairsT_of I hp
  have keyed : ∀ x ∈ prs, (tupleKind (mixKind X.prog X.w)).is s.heap x.1 x.2.1 := by
    intro x hx
    have all : ∀ {l : List (List Key × V)} {m : List (List Key × Addr × Value)}, KT H l m → ∀ x ∈ m, H x.2.1 = some (.tup (x.1.map kV)) := by
      intro l m q
      induction q with
      | nil => intro x hx; exact nomatch hx
      | @cons p q ps qs hq t ih =>
        intro x hx
        rcases List.mem_cons.mp hx with e | hx
        · subst e
          rw [← hq.1]; exact hq.2.1
        · exact ih x hx
    exact L2.key_of I.hok (all rel x hx)
  refine call_dict_pairsH (knd := tupleKind (mixKind X.prog X.w)) (ps := prs) (PairArg.list a (ps.map Value.ref).toArray (fun j => ps.getD j 0) (prs.map fun x => (Value.ref x.2.1, x.2.2))) (I.ok.hd hcalm) (show X.A.units + 1 + 1 < cLine by omega) ⟨pl, ?_, fun j k v e => ?_⟩ ⟨by rw [List.length_map], fun i key v e => ?_⟩ (fun h' hk x hx => ?_) (by rw [List.length_map, hl]; exact hz) fun h' tk dd' hk => ?_
  · rw [List.size_toArray, List.length_map, List.length_map, hl]
  · rw [List.getElem?_map] at e
    obtain ⟨q0, e0, e1⟩ := Option.map_eq_some_iff.mp e
    cases e1
    obtain ⟨p, ep, ht⟩ := hpr j q0 e0
    have ed : ps.getD j 0 = p := by rw [List.getD_eq_getElem?_getD, ep]; rfl
    refine ⟨?_, .inl ?_⟩
    · show _ = some (Value.ref (ps.getD j 0))
      rw [ed, List.getElem?_toArray, List.getElem?_map, ep]; rfl
    · show s.heap.IsTuple (ps.getD j 0) _
      rw [ed]; obtain ⟨o, h1, h2, n, h3⟩ := ht; exact ⟨o, h1, h2, n, h3⟩
  · rw [show PairRel (prs.map fun x => (Value.ref x.2.1, x.2.2)) i key v = ((prs.map fun x => (Value.ref x.2.1, x.2.2))[i]? = some (key, v)) from rfl, List.getElem?_map] at e
    obtain ⟨q0, e0, e1⟩ := Option.map_eq_some_iff.mp e
    cases e1
    exact ⟨q0.1, q0.2.1, e0, rfl⟩
  · obtain ⟨o, items, n, e1, e2, e3, e4⟩ := keyed x hx
    exact ⟨o, items, n, hk _ _ (Nat.ne_of_lt (Heap.lt_size e1)) (fun z => nomatch z) e1, e2, e3, e4⟩
  · have hm : (s.heap.objs.size == sysModules) = false := beq_eq_false_iff_ne.mpr (Nat.ne_of_gt I.big)
    have hlen : (mergeT [] kvs).length ≤ sizeLine := by
      refine Nat.le_trans (len_mergeT kvs []) ?_
      rw [List.length_nil, Nat.zero_add, Paired.length rel, hl]
      exact hz
    obtain ⟨q', es, ep, hq', h2, h3, h4, _, h5⟩ := dd'
    refine ⟨.ref s.heap.objs.size, upd H s.heap.objs.size (.dT (mergeT [] kvs)), I.laid (t' := tk) (fun b o e => hk b o (fun z => nomatch z) e) (Nat.le_refl _) ⟨hlen, hm, _, (kt_merge rel .nil).keeps fun c ys ec => ?_, q', es, ep, hq', h2, h3, h4, h5⟩, rfl, q _ (I.hok.fresh (Nat.le_refl _))⟩
    rw [upd_ne (ne_of_none ec (I.hok.fresh (Nat.le_refl _)))]; exact ec

/-! ### a pair the other way about -/
theorem cut2 {s : Shared} {A : Around} {E : Value → Shared → Prop} {sl : Addr} {vs : Value} {Q : Int × Int × Nat → Shared → Prop} (hs : s.heap.IsSliceOf sl .none .none vs) (ps : IsPart vs (some (-1))) (h : Q (1, -1, 2) s) :
    wpAny (model X.prog X.w) A (Builtin.Slice.sliceApplied (.ref sl) (pure (2 : Int))) Q E s := by
  obtain ⟨os, hos, hcs, hds⟩ := id hs
  unfold Builtin.Slice.sliceApplied Builtin.Slice.sliceFields
  refine wpAny_bind (wpAny_bind (wpAny_field hos hds (x := .none) rfl (wpAny_bind (wpAny_field hos hds (x := .none) rfl (wpAny_bind (wpAny_field hos hds (x := vs) rfl (wpAny_pure ?_)))))))
  refine wpAny_bind (HT.slicePart_ ps ?_)
  show wpAny _ _ (if ((-1 : Int) == 0) = true then _ else _) _ _ s
  rw [if_neg (by decide)]
  refine wpAny_bind (HT.slicePart_ .none (wpAny_bind (HT.slicePart_ .none (wpAny_bind (wpAny_pure ?_)))))
  exact wpAny_pure h
theorem pick2 (x y : Value) : ((List.range 2).filterMap fun (m : Nat) => (#[x, y] : Array Value)[((1 : Int) + (m : Int) * -1).toNat]?).toArray = #[y, x] := rfl
theorem rev2 {s : Shared} {A : Around} {E : Value → Shared → Prop} {t sl : Addr} {x y vs : Value} {Q : Value → Shared → Prop} (ht : IsTup s.heap t #[x, y]) (hs : s.heap.IsSliceOf sl .none .none vs) (ps : IsPart vs (some (-1)))
    (h : Q (.ref s.heap.objs.size) { s with heap := s.heap.push { cls := .type "tuple", data := .seq #[y, x] } }) : wpAny (model X.prog X.w) A (getItem (.ref t) (.ref sl)) Q E s := by
  obtain ⟨os, hos, hcs, hds⟩ := id hs
  have hTs : s.TypeIs (.ref sl) "slice" := ⟨os, hos, hcs⟩
  have hz : sizeOk (.seq #[y, x]) := by show 2 ≤ sizeLine; decide
  unfold getItem
  try with_reducible refine wpAny_holding ?_
  first | refine wpAny_bind (wpAny_pure ?_) | skip
  refine wpAny_bind (wpAny_sequenceKey ht.typeIs (by decide) ?_)
  refine wpAny_bind (wpAny_callSpecial?_slot (name := Str.ofString "__getitem__") ht.typeIs PyProof.Rows.slot_tuple_getitem (wpAny_call_entry PyProof.Rows.slot_tuple_getitem ht.typeIs entry_tuple_getitem ?_ (args_tuple_getitem _ _)))
  show wpAny _ _ (Builtin.Tuple.tupleItemsOf (.ref t) >>= _) _ _ s
  refine wpAny_bind (tupleItemsOf_ ht (wpAny_bind (wpAny_typeOf hTs ?_)))
  rw [if_pos (by decide)]
  refine wpAny_bind (cut2 hs ps ?_)
  show wpAny _ _ (if ((1 : Int) == 0 && (-1 : Int) == 1 && (2 : Nat) == 2) = true then _ else _) _ _ s
  rw [if_neg (by decide), pick2]
  first
    | exact wpAny_bind (m := Builtin.Tuple.tupleExact _) (wpAny_newObj_type (wpAny_pure ⟨_, rfl, wpAny_pure h⟩) hz)
    | exact wpAny_bind (m := Builtin.Tuple.tupleExact _) (wpAny_newObj_type (wpAny_bind (wpAny_pure (wpAny_pure ⟨_, rfl, wpAny_pure h⟩))) hz)
    | exact wpAny_bind (wpAny_bind (m := Builtin.Tuple.tupleExact _) (wpAny_newObj_type (wpAny_pure (wpAny_pure ⟨_, rfl, wpAny_pure h⟩)) hz))
    | exact wpAny_bind (wpAny_bind (m := Builtin.Tuple.tupleExact _) (wpAny_newObj_type (wpAny_pure ⟨_, rfl, wpAny_pure h⟩) hz))
def tRev2 (te : TE) : TE := fun σ H Q => te σ H fun x H1 => ∃ a u v, x = .ref a ∧ H1 a = some (.tup [u, v]) ∧ ∀ p, H1 p = none → Q (.ref p) (upd H1 p (.tup [v, u]))
theorem pe_rev2 {e : Expr} {te : TE} {k : Nat} {p1 p2 p3 pos : Pos} (he : PE X e te) : PE X (.Subscript e (.Slice none none (some (.UnaryOp .USub (.Constant (.int 1) k p1) p2)) p3) pos) (tRev2 te) := by
  refine ⟨fun pins s σ H Q I h => Subscript_ (thn (he.run pins s σ H _ I h) fun v s1 ⟨x, H1, I1, r1, a, x0, x1, ex, hx, q⟩ => ?_)⟩
  subst ex; cases r1
  have hst : PO X (some (.UnaryOp .USub (.Constant (.int 1) k p1) p2)) (tPart (tUn (rU fun i => .int (-i)) (tC (.int 1)))) := po_some (pe_un un_neg pe_int)
  refine wpAny_Slice (thn (po_none.run pins s1 σ H1 (fun o H2 => o = none ∧ H2 = H1) I1 ⟨rfl, rfl⟩) fun vl s2 ⟨l, H2, I2, pl, el, e2⟩ => ?_); subst el e2
  refine thn (po_none.run pins s2 σ H2 (fun o H3 => o = none ∧ H3 = H2) I2 ⟨rfl, rfl⟩) fun vu s3 ⟨u, H3, I3, pu, eu, e3⟩ => ?_; subst eu e3
  refine thn (hst.run pins s3 σ H3 (fun o H4 => o = some (-1) ∧ H4 = H3) I3 ⟨1, rfl, -1, rfl, rfl, rfl⟩) fun vs s4 ⟨o, H4, I4, ps, eo, e4⟩ => ?_; subst eo e4
  cases pl; cases pu
  generalize hs5 : ({ s4 with heap := s4.heap.push { cls := .type "slice", data := .fields #[.none, .none, vs] } } : Shared) = s5
  have I5 : Inv X pins σ H4 s5 := by
    rw [← hs5]
    exact I4.kept (t' := s4.toks) fun b ob q => Heap.get?_push_of_some _ q
  obtain ⟨its, r, ht, hz⟩ := I5.tuple (SqT.of (K := X.K) hx)
  obtain ⟨u0, u1, rfl, r0, r1⟩ := vals2 r
  have hsl : s5.heap.IsSliceOf s4.heap.objs.size .none .none vs := by rw [← hs5]; exact Heap.IsSliceOf.new _ _ _ _
  refine (?_ : wpAny (model X.prog X.w) X.A (subscriptTail e (.Slice none none (some (.UnaryOp .USub (.Constant (.int 1) k p1) p2)) p3) (.ref a) (.ref s4.heap.objs.size)) (EP X pins σ Q) X.xe s5)
  refine tail_any (ops := [.ref a, .ref s4.heap.objs.size]) ht.typeIs (PyProof.Rows.slot_tuple_getitem.lookup) ?_ (by with_unfolding_all rfl)
  refine rev2 ht hsl ps ⟨.ref _, _, I5.laid (t' := s5.toks) (o := .tup [x1, x0]) (fun b ob q => Heap.get?_push_of_some _ q) (Nat.le_refl _) ?_, rfl, q _ (I5.hok.fresh (Nat.le_refl _))⟩
  exact ⟨by show 2 ≤ sizeLine; decide, [u1, u0], .cons r1 (.cons r0 .nil), IsTup.new _ _⟩

/-! ### {k: v} -/
def tDisp1 (o0 : HO) (tk tv : TE) : TE := fun σ H Q => ∀ p, H p = none → tk σ (upd H p o0) fun x H1 => tv σ H1 fun y H2 => ∃ H3, DPut H2 p x y H3 ∧ Q (.ref p) H3
theorem pe_disp1 {o0 : HO} {k v : Expr} {tk tv : TE} {pos : Pos} (em : Empt o0) (hu : X.A.units + 1 < cLine) (hk : PE X k tk) (hv : PE X v tv) : PE X (.Dict [some k] [v] pos) (tDisp1 o0 tk tv) := by
  refine ⟨fun pins s σ H Q I q => ?_⟩
  have hn := I.hok.fresh (Nat.le_refl s.heap.objs.size)
  have I1 := I.laid (a := s.heap.objs.size) (o := o0) (h' := s.heap.push { cls := .type "dict", data := .dict #[] }) (t' := s.toks) (fun _ _ q => Heap.get?_push_of_some _ q) (Nat.le_refl _) (em _ _ _ _ I.big)
  refine wpAny_Dict_any rfl rfl (by exact fun z => nomatch z) (by show 1 ≤ 15; decide) ?_
  refine pairTrees_cons_walk (thn (hk.run pins _ σ _ _ I1 (q _ hn)) fun u s1 ⟨x, H1, J1, rx, q1⟩ => thn (hv.run pins s1 σ H1 _ J1 q1) fun w2 s2 ⟨y, H2, J2, ry, H3, pu, q2⟩ => ?_)
  refine pairTrees_nil_walk ?_
  unfold storeAll
  rw [List.forIn_cons]
  refine wpAny_bind (wpAny_bind (d_dictPut hu J2 pu rx ry fun s3 J3 => wpAny_pure ?_))
  show wpAny _ _ (forIn [] PUnit.unit _) _ _ s3
  rw [List.forIn_nil]
  exact wpAny_pure ⟨.ref s.heap.objs.size, H3, J3, rfl, q2⟩
end
/-! ### hashes of pairs of places -/
def hv (a b : Nat) : Int := reduceHash (Builtin.Tuple.tupleHashOf [hashInt (a : Int), hashInt (b : Int)])
theorem hv_nd : ((List.range 144).map fun k => hv (k / 12) (k % 12)).Nodup := by decide +kernel
def pk (t : Int × Int) : List Key := [Sum.inl t.1, Sum.inl t.2]
theorem pk_inj {s t : Int × Int} (h : pk s = pk t) : s = t := by
  cases s; cases t; cases h; rfl
theorem hv_inj {a b c d : Nat} (ha : a < 12) (hb : b < 12) (hc : c < 12) (hd : d < 12) (h : hv a b = hv c d) : a = c ∧ b = d := by
  have pw := List.pairwise_iff_getElem.mp (List.nodup_iff_pairwise_ne.mp hv_nd)
  have l : ((List.range 144).map fun k => hv (k / 12) (k % 12)).length = 144 := by rw [List.length_map, List.length_range]
  have g : ∀ k (hk : k < ((List.range 144).map fun k => hv (k / 12) (k % 12)).length), ((List.range 144).map fun k => hv (k / 12) (k % 12))[k] = hv (k / 12) (k % 12) := fun k hk => by
    rw [List.getElem_map, List.getElem_range]
  have e1 : (12 * a + b) / 12 = a := by omega
  have e2 : (12 * a + b) % 12 = b := by omega
  have e3 : (12 * c + d) / 12 = c := by omega
  have e4 : (12 * c + d) % 12 = d := by omega
  have hi : 12 * a + b < ((List.range 144).map fun k => hv (k / 12) (k % 12)).length := by omega
  have hj : 12 * c + d < ((List.range 144).map fun k => hv (k / 12) (k % 12)).length := by omega
  rcases Nat.lt_trichotomy (12 * a + b) (12 * c + d) with z | z | z
  · have := pw _ _ hi hj z
    rw [g, g, e1, e2, e3, e4] at this
    exact absurd h this
  · omega
  · have := pw _ _ hj hi z
    rw [g, g, e1, e2, e3, e4] at this
    exact absurd h.symm this
/-- keys that are pairs of places below twelve -/
theorem apart_pk {w : World} {ms : List (List Key × V)} {cs : List (Int × Int)} (hk : ms.map (·.1) = cs.map pk) (nd : cs.Nodup) (hr : ∀ t ∈ cs, 0 ≤ t.1 ∧ t.1 < 12 ∧ 0 ≤ t.2 ∧ t.2 < 12) : Apart w ms := by
  unfold Apart
  have e : (ms.map fun kv => reduceHash (Builtin.Tuple.tupleHashOf (kv.1.map (keyH w)))) = cs.map fun t => reduceHash (Builtin.Tuple.tupleHashOf ((pk t).map (keyH w))) := by
    have := congrArg (List.map fun k => reduceHash (Builtin.Tuple.tupleHashOf (k.map (keyH w)))) hk
    rw [List.map_map, List.map_map] at this
    exact this
  rw [e, List.nodup_iff_pairwise_ne, List.pairwise_map]
  refine (List.nodup_iff_pairwise_ne.mp nd).imp_of_mem fun {s t} hs ht ne h => ne ?_
  have bs := hr s hs
  have bt := hr t ht
  have hh : ∀ t : Int × Int, 0 ≤ t.1 → 0 ≤ t.2 → reduceHash (Builtin.Tuple.tupleHashOf ((pk t).map (keyH w))) = hv t.1.toNat t.2.toNat := fun t h1 h2 => by
    unfold hv
    rw [Int.toNat_of_nonneg h1, Int.toNat_of_nonneg h2]; rfl
  rw [hh s bs.1 bs.2.2.1, hh t bt.1 bt.2.2.1] at h
  obtain ⟨h1, h2⟩ := hv_inj (by omega) (by omega) (by omega) (by omega) h
  exact Prod.ext (by omega) (by omega)
def JoinA (kvs : List (List Key × V)) (C : List (Int × Int)) : Prop := ∀ o : Int × Int, (valV kvs (pk o)).isSome = decide (o ∈ C)
theorem joinA_put {kvs : List (List Key × V)} {C : List (Int × Int)} (h : JoinA kvs C) (t : Int × Int) (v : V) : JoinA (putK kvs (pk t) v) (C ++ [t]) := fun o => by
  rw [valV_put]
  by_cases e : o = t
  · subst e
    rw [if_pos rfl]
    exact (decide_eq_true (List.mem_append_right _ (List.mem_singleton.mpr rfl))).symm
  · rw [if_neg (fun z => e (pk_inj z)), h o]
    refine decide_eq_decide.mpr ?_
    rw [List.mem_append, List.mem_singleton]
    exact ⟨.inl, fun z => z.elim id fun z => absurd z e⟩
end My

set_option Elab.async false
set_option linter.all false
set_option maxRecDepth 100000
namespace My
open PySem PySem.Spec PyProof.Rows L2 GxR

/-! ### in, of tuples -/
def rInDT (K : PySem.W.Frag) : R2 := fun x y H Q => ∃ d ds, Dp K H x d ∧ Dp K H y (.tuple ds) ∧ SeqAt.shaped d = true ∧ SeqAt.shaped (.tuple ds) = true ∧ Q (.bl (ds.any fun z => PyData.eqv z d)) H
theorem op_inDT {X : Cx} (hu : X.A.units + 65 < cLine) : OpR X (compareOp .In) (rInDT X.K) := fun pins s σ H x y v u Q I rx ry ⟨d, ds, hd, he, sd, se, q⟩ => by
  obtain ⟨as, r1⟩ := Dp.reads I d x v hd rx
  obtain ⟨bs, r2⟩ := Dp.reads I (.tuple ds) y u he ry
  exact SeqAt.in_tuple_reads r2 r1 (SeqAt.canLay_of_shaped se) (SeqAt.canLay_of_shaped sd) (room_in_shaped sd hu) ⟨.bl _, H, I, rfl, q⟩
theorem shaped_tup (ts : List (Int × Int)) : SeqAt.shaped (.tuple (ts.map dT)) = true := by
  unfold SeqAt.shaped
  rw [Bool.and_eq_true, decide_eq_true_eq]
  refine ⟨can_ties ts, ?_⟩
  show PyData.depthAll _ + 1 ≤ 64
  have := dep_ties ts
  omega
theorem any_dT (ts : List (Int × Int)) (t : Int × Int) : ((ts.map dT).any fun z => PyData.eqv z (dT t)) = decide (t ∈ ts) := by
  induction ts with
  | nil => rfl
  | cons a l ih =>
    rw [List.map_cons, List.any_cons, ih, eqv_dT]
    by_cases h : a = t
    · subst h; simp
    · have h' : ¬ t = a := fun e => h e.symm
      simp [h, h']

/-! ### ties of two places, gaps -/
def tieO (a b : Int) : Int × Int := if a < b then (a, b) else (b, a)
theorem tieO_tied {n : Nat} {ts : List (Int × Int)} (hw : WOk n ts) (a b : Int) : tieO a b ∈ ts ↔ ((a, b) ∈ ts ∨ (b, a) ∈ ts) := by
  unfold tieO
  split
  · rename_i h
    constructor
    · exact .inl
    · rintro (z | z)
      · exact z
      · have := hw.2 _ z; dsimp only at this; omega
  · rename_i h
    constructor
    · exact .inr
    · rintro (z | z)
      · have := hw.2 _ z; dsimp only at this; omega
      · exact z
def gapsF (ts : List (Int × Int)) (l : List (Int × Int)) : List (Int × Int) := l.filter fun t => !decide (t ∈ ts)
theorem gaps_app (ts l m : List (Int × Int)) : gapsF ts (l ++ m) = gapsF ts l ++ gapsF ts m := List.filter_append ..
theorem gaps_one (ts : List (Int × Int)) (t : Int × Int) : gapsF ts [t] = if t ∈ ts then [] else [t] := by
  unfold gapsF
  by_cases h : t ∈ ts <;> simp [h]
theorem gaps_sub (ts l : List (Int × Int)) : (gapsF ts l).Sublist l := List.filter_sublist
theorem gaps_len {n : Nat} {ts : List (Int × Int)} (hn : n ≤ 100) : (gapsF ts (pup n n)).length ≤ 10000 := Nat.le_trans (gaps_sub _ _).length_le (pup_len' hn (Nat.le_refl n))
theorem gaps_wok {n : Nat} (ts : List (Int × Int)) : WOk n (gapsF ts (pup n n)) := wok_sub (gaps_sub _ _)
theorem pw_ext {l m : List (Int × Int)} (hl : l.Pairwise ltT) (hm : m.Pairwise ltT) (h : ∀ t, t ∈ l ↔ t ∈ m) : l = m := by
  have nd : ∀ {k : List (Int × Int)}, k.Pairwise ltT → k.Nodup := fun hk => List.nodup_iff_pairwise_ne.mpr (hk.imp fun {s t} h e => by subst e; exact ltT_irr h)
  refine List.Perm.eq_of_pairwise (le := ltT) (fun a b _ _ h1 h2 => by rcases h1 with z | ⟨z, y⟩ <;> rcases h2 with u | ⟨u, v⟩ <;> omega) hl hm ((List.perm_ext_iff_of_nodup (nd hl) (nd hm)).mpr h)
theorem gaps_gaps {n : Nat} {ts : List (Int × Int)} (hw : WOk n ts) : gapsF (gapsF ts (pup n n)) (pup n n) = ts := by
  refine pw_ext (gaps_wok _).1 hw.1 fun t => ?_
  unfold gapsF
  rw [List.mem_filter, Bool.not_eq_true', decide_eq_false_iff_not, List.mem_filter, Bool.not_eq_true', decide_eq_false_iff_not]
  constructor
  · rintro ⟨h1, h2⟩
    exact Classical.byContradiction fun z => h2 ⟨h1, z⟩
  · intro h
    refine ⟨(mem_pup (Nat.le_refl n)).mpr ?_, fun z => z.2 h⟩
    have := hw.2 t h
    omega
def JoinD (kvs : List (List Key × V)) (ts : List (Int × Int)) : Prop := ∀ a b : Int, (valV kvs [Sum.inl a, Sum.inl b]).isSome = decide ((a, b) ∈ ts)
theorem join_put {kvs : List (List Key × V)} {ts : List (Int × Int)} (h : JoinD kvs ts) (t : Int × Int) (v : V) : JoinD (putK kvs [Sum.inl t.1, Sum.inl t.2] v) (ts ++ [t]) := fun a b => by
  rw [valV_put]
  cases t with | mk x y =>
  dsimp only
  by_cases h2 : a = x ∧ b = y
  · obtain ⟨rfl, rfl⟩ := h2
    rw [if_pos rfl]
    exact (decide_eq_true (List.mem_append_right _ (List.mem_singleton.mpr rfl))).symm
  · have n2 : ¬ ([Sum.inl a, Sum.inl b] : List Key) = [Sum.inl x, Sum.inl y] := fun e => by
      cases e; exact h2 ⟨rfl, rfl⟩
    rw [if_neg n2, h a b]
    refine decide_eq_decide.mpr ?_
    rw [List.mem_append, List.mem_singleton]
    constructor
    · exact .inl
    · rintro (z | z)
      · exact z
      · cases z; exact absurd ⟨rfl, rfl⟩ h2

end My

set_option Elab.async false
set_option linter.all false
set_option maxRecDepth 100000
namespace My
open PySem PySem.Spec PyProof.Rows L2 GxR

section
variable {P : Program} {w : World} {K : PySem.W.Frag} {mg : Str → Option Value} {base : Heap}
/-! ### tie_of -/
abbrev N_tie_of : List Str := ["a", "b"]
theorem sc_tie_of : FnScope N_tie_of ["a", "b"] (defScope s_tie_of) := ⟨rfl, rfl, rfl, by decide +kernel, rfl, by decide +kernel, by decide +kernel⟩
def sp_tie_of : Sp := fun vs H Q _ => ∃ a b : Int, vs = [.int a, .int b] ∧ ∀ p, H p = none → Q (.ref p) (upd H p (.tup [.int (tieO a b).1, .int (tieO a b).2]))
theorem ok_tie_of {f : Addr} {fd : FuncData} (B : Bts mg) (F : Fun K "tie_of" "tie_of" s_tie_of f fd) : FnOk P w K mg base CX0 1 f fd ["a", "b"] sp_tie_of := by
  refine F.ok sc_tie_of (fun vs H Q E h => ?_) (fun cdv A outer s H vs Q E hr h => ?_)
  · obtain ⟨a, b, rfl, _⟩ := h; rfl
  · obtain ⟨a, b, rfl, q⟩ := h
    refine ⟨_, (pss_one (ps_ret (pe_ifExp (pt_cmpR op_lt (pv 0) (pv 1) (nomark _)) (pe_tup (pa_cons (pv 0) (pa_cons (pv 1) pa_nil))) (pe_tup (pa_cons (pv 1) (pa_cons (pv 0) pa_nil)))))), ?_⟩
    unfold tieO at q
    refine ⟨_, rfl, _, rfl, _, _, rfl, rfl, _, rfl, ite2 (fun e => ?_) (fun e => ?_)⟩
    · rw [if_pos (of_decide_eq_true e)] at q
      exact ⟨_, rfl, _, rfl, by show 2 ≤ sizeLine; decide, q⟩
    · rw [if_neg (fun z => e (decide_eq_true z))] at q
      exact ⟨_, rfl, _, rfl, by show 2 ≤ sizeLine; decide, q⟩
/-! ### tied -/
abbrev N_tied : List Str := ["web", "a", "b"]
theorem sc_tied : FnScope N_tied ["web", "a", "b"] (defScope s_tied) := ⟨rfl, rfl, rfl, by decide +kernel, rfl, by decide +kernel, by decide +kernel⟩
def sp_tied : Sp := fun vs H Q _ => ∃ (v : V) (n : Nat) (ts : List (Int × Int)) (a b : Int), vs = [v, .int a, .int b] ∧ Web H v n ts ∧ ∀ H', Same H H' → Q (.bl (decide (tieO a b ∈ ts))) H'
theorem ok_tied {f : Addr} {fd : FuncData} (B : Bts mg) (F : Fun K "tied" "tied" s_tied f fd) (c_tie_of : Cl P w K mg base 1 "tie_of" sp_tie_of) : FnOk P w K mg base CX0 2 f fd ["web", "a", "b"] sp_tied := by
  refine F.ok sc_tied (fun vs H Q E h => ?_) (fun cdv A outer s H vs Q E hr h => ?_)
  · obtain ⟨v, n, ts, a, b, rfl, _⟩ := h; rfl
  · obtain ⟨v, n, ts, a, b, rfl, ⟨p, q', us, rfl, ep, eq, hT⟩, q⟩ := h
    refine ⟨_, (pss_one (ps_ret (pe_cmpR (op_inDT (u65 hr)) (pe_c c_tie_of hr (by decide) (by rfl) (pa_cons (pv 1) (pa_cons (pv 2) pa_nil))) (pe_ix ix_tup (pv 0) pe_int (fun _ _ => rfl)) (by rfl)))), ?_⟩
    refine ⟨_, rfl, _, rfl, a, b, rfl, fun t nt => ?_⟩
    have s1 := same_new (o := .tup [.int (tieO a b).1, .int (tieO a b).2]) nt
    refine ⟨_, rfl, p, _, _, _, rfl, rfl, SqT.of (s1 _ _ ep), rfl, ?_⟩
    refine ⟨dT (tieO a b), ts.map dT, (show Tie _ (.ref t) (tieO a b) from ⟨t, rfl, upd_same⟩).dp, .tup (SqT.of (s1 _ _ eq)) (hT.mono (Same.tst s1)).dp, shaped_dT _, shaped_tup ts, ?_⟩
    rw [any_dT]
    exact q _ s1

/-! ### gaps_of -/
abbrev N_gaps_of : List Str := ["web", "many", "ties", "joined", "tie", "gaps", "a", "b"]
theorem sc_gaps_of : FnScope N_gaps_of ["web"] (defScope s_gaps_of) := ⟨rfl, rfl, rfl, by decide +kernel, rfl, by decide +kernel, by decide +kernel⟩
def sp_gaps : Sp := fun vs H Q _ => ∃ (v : V) (n : Nat) (ts : List (Int × Int)), vs = [v] ∧ Web H v n ts ∧ ts.length ≤ 10000 ∧ n ≤ 100 ∧
  ∀ u H', Same H H' → Web H' u n (gapsF ts (pup n n)) → Q u H'
theorem ok_gaps {f : Addr} {fd : FuncData} (B : Bts mg) (F : Fun K "gaps_of" "gaps_of" s_gaps_of f fd) : FnOk P w K mg base CX0 1 f fd ["web"] sp_gaps := by
  refine F.ok sc_gaps_of (fun vs H Q E h => ?_) (fun cdv A outer s H vs Q E hr h => ?_)
  · obtain ⟨v, n, ts, rfl, _⟩ := h; rfl
  · obtain ⟨v, n, ts, rfl, ⟨p, q', us, rfl, ep, eq, hT⟩, hl, hn, q⟩ := h
    refine ⟨_, (pss_cons (ps_asg (pv 0) (pg_tup rfl (pgs_cons (pg_name (i := 1) sc_gaps_of.nd rfl (by first | exact Or.inl rfl | exact Or.inr rfl)) (pgs_cons (pg_name (i := 2) sc_gaps_of.nd rfl (by first | exact Or.inl rfl | exact Or.inr rfl)) pgs_nil))))
    (pss_cons (ps_set (i := 3) sc_gaps_of.nd rfl (by first | exact Or.inl rfl | exact Or.inr rfl) (pe_dcP empt_dT (hu_of hr) (own := [("tie", 4)]) (g := (gName 4)) (tt := tYes) rfl sc_gaps_of.nd (pi_tup (pv 2)) (blkOk_by (own := [("tie", 4)]) (N := N_gaps_of) (sc := defScope s_gaps_of) (by decide +kernel)) (fun _ _ _ _ _ => (pg_name (i := 4) sc_gaps_of.nd rfl (by first | exact Or.inl rfl | exact Or.inr rfl))) (fun _ _ _ _ _ => pts_nil) (fun _ _ _ _ _ => (pv 4)) (fun _ _ _ _ _ => pe_bl)))
    (pss_cons (ps_setLc2 (i := 5) (own := [("a", 6), ("b", 7)]) (vs1 := [7]) (g := (gName 6)) (g1 := (gName 7)) (tt := tYes) rfl sc_gaps_of.nd rfl rfl (sw_true rfl rfl rfl (by decide +kernel)) (pi_range1 (by rfl) B.range (pa_cons (pv 1) pa_nil)) (blkOk_by (own := [("a", 6), ("b", 7)]) (N := N_gaps_of) (sc := defScope s_gaps_of) (by decide +kernel)) (by decide) (fun _ _ _ _ _ => (pg_name (i := 6) sc_gaps_of.nd rfl (by first | exact Or.inl rfl | exact Or.inr rfl))) (fun _ _ _ _ _ => pts_nil) (fun _ _ _ _ _ => (pi_range2 (by rfl) B.range (pa_cons (pe_op op_add (pv 6) pe_int) (pa_cons (pv 1) pa_nil)))) (fun _ _ _ _ _ => (pg_name (i := 7) sc_gaps_of.nd rfl (by first | exact Or.inl rfl | exact Or.inr rfl))) (fun _ _ _ _ _ => (pts_one (pt_cmp (pc_dnotin (hu_of hr) (pe_tup (pa_cons (pv 6) (pa_cons (pv 7) pa_nil))) (pv 3))))) (fun _ _ _ _ _ => (pe_tup (pa_cons (pv 6) (pa_cons (pv 7) pa_nil)))))
    (pss_one (ps_ret (pe_tup (pa_cons (pv 1) (pa_cons (pe_callTy call_tuple_of (by rfl) B.tuple (by decide +kernel) (pa_cons (pv 5) pa_nil)) pa_nil)))))))), ?_⟩
    refine ⟨_, rfl, p, _, rfl, SqT.of ep, rfl, _, _, rfl, _, _, rfl, rfl, ?_⟩
    refine ⟨_, rfl, q', rfl, ⟨_, SqT.of eq⟩, fun D nD => ?_⟩
    refine wk (walk_tup (K := K) (a := q') (xs := us)) (fun i H1 => ∃ kvs, Same H H1 ∧ H1 D = some (.dT kvs) ∧ kvs.length ≤ i ∧ JoinD kvs (ts.take i)) ⟨[], same_new nD, upd_same, Nat.le_refl _, fun a b => rfl⟩ ?_ ?_ ?_
    · rintro i H1 _ ⟨_, sm, _⟩
      exact SqT.of (sm _ _ eq)
    · rintro i x H1 H2 hi ⟨kvs, sm, eD, kl, hJ⟩ ⟨rfl, hx⟩
      obtain ⟨t, et, ht⟩ := hT.at hx
      have hu := hT.len
      obtain ⟨pt, rfl, ept⟩ := ht.mono (Same.tst sm)
      refine ⟨rfl, yes ?_⟩
      refine ⟨_, rfl, _, DPut.t (k := [Sum.inl t.1, Sum.inl t.2]) eD ept (sz' (by omega)), ?_⟩
      have := len_put kvs [Sum.inl t.1, Sum.inl t.2] (.bl true)
      refine ⟨_, Same.put sm nD, upd_same, by omega, ?_⟩
      rw [List.take_add_one, et]
      exact join_put hJ t _
    · rintro H1 ⟨kvs, sm, eD, kl, hJ⟩
      rw [hT.len, List.take_length] at hJ
      refine ⟨_, rfl, _, rfl, by omega, by omega, fun D2 nD2 => ?_⟩
      have tn : ((n : Int)).toNat = n := Int.toNat_natCast n
      refine wk (walk_range (lo := 0)) (fun i H2 => ∃ ws, Same H1 H2 ∧ H2 D2 = some (.lst ws) ∧ Ties H2 ws (gapsF ts (pup n i))) ⟨[], same_new nD2, upd_same, by exact trivial⟩ (fun _ _ _ _ => trivial) ?_ ?_
      · rintro i x H2 H3 hi ⟨ws, s2, eD2, hW⟩ ⟨rfl, hx⟩
        obtain rfl : x = .int (i : Int) := hx.trans (congrArg V.int (Int.zero_add _))
        rw [tn] at hi
        refine ⟨rfl, yes ?_⟩
        refine ⟨_, rfl, _, _, rfl, rfl, _, rfl, _, _, rfl, ⟨by omega, by omega, by omega, by omega⟩, ?_⟩
        have en : ((n : Int) - ((i : Int) + 1)).toNat = n - (i + 1) := by omega
        refine wk (walk_range (lo := (i : Int) + 1)) (fun j H3 => ∃ ws, Same H1 H3 ∧ H3 D2 = some (.lst ws) ∧ Ties H3 ws (gapsF ts (pup n i ++ prow i j))) ⟨ws, s2, eD2, by exact (List.append_nil (pup n i)).symm ▸ hW⟩ (fun _ _ _ _ => trivial) ?_ ?_
        · rintro j x H3 H4 hj ⟨ws, s3, eD3, hW3⟩ ⟨rfl, hx⟩
          obtain rfl : x = .int ((i : Int) + 1 + (j : Int)) := hx
          rw [en] at hj
          have wl := hW3.len
          have wl2 := (gaps_sub ts (pup n i ++ prow i j)).length_le
          have l1 := pup_len' hn (Nat.le_of_lt hi)
          rw [List.length_append, prow_len] at wl2
          refine ⟨rfl, ?_⟩
          refine ⟨_, rfl, _, rfl, by show 2 ≤ sizeLine; decide, fun k nk => ?_⟩
          have sk := same_new (o := .tup [.int ((i : Int)), .int ((i : Int) + 1 + (j : Int))]) nk
          have g1 := DGet.t (k := [Sum.inl ((i : Int)), Sum.inl ((i : Int) + 1 + (j : Int))]) (sk _ _ (s3 _ _ eD)) upd_same
          refine ⟨_, rfl, D, _, rfl, g1, _, rfl, ?_⟩
          rw [hJ]
          have st : gapsF ts (pup n i ++ prow i (j + 1)) = gapsF ts (pup n i ++ prow i j) ++ (if ((i : Int), (i : Int) + 1 + (j : Int)) ∈ ts then [] else [((i : Int), (i : Int) + 1 + (j : Int))]) := by
            rw [prow_succ, ← List.append_assoc, gaps_app, gaps_one]
          by_cases hm : ((i : Int), (i : Int) + 1 + (j : Int)) ∈ ts
          · rw [decide_eq_true hm]
            refine iteF ⟨ws, s3.trans sk, sk _ _ eD3, ?_⟩
            rw [st, if_pos hm, List.append_nil]
            exact hW3.mono (Same.tst sk)
          · rw [decide_eq_false hm]
            refine iteT ⟨_, rfl, _, rfl, by show 2 ≤ sizeLine; decide, fun k2 nk2 => ?_⟩
            have sk2 := same_new (o := .tup [.int (i : Int), .int ((i : Int) + 1 + (j : Int))]) nk2
            have e3 := sk2 _ _ (sk _ _ eD3)
            refine ⟨ws, e3, sz' (by omega), ws ++ [.ref k2], Same.put ((s3.trans sk).trans sk2) nD2, upd_same, ?_⟩
            rw [st, if_neg hm]
            exact Ties.mono (tst_put e3) ((hW3.mono (Same.tst (sk.trans sk2))).app (Ties.one Tie.new))
        · rintro H3 ⟨ws, s3, eD3, hW3⟩
          rw [en, ← pup_succ] at hW3
          exact ⟨ws, s3, eD3, hW3⟩
      · rintro H2 ⟨ws, s2, eD2, hW⟩
        rw [tn] at hW
        refine ⟨_, rfl, _, rfl, D2, ws, rfl, .inl ⟨SqL.of eD2, fun t nt => ?_⟩⟩
        refine ⟨by show 2 ≤ sizeLine; decide, fun u nu => ?_⟩
        have s3 := (same_new (o := .tup ws) nt).trans (same_new (o := .tup [.int (n : Int), .ref t]) nu)
        refine q _ _ ((sm.trans s2).trans s3) ⟨u, t, ws, rfl, upd_same, ?_, hW.mono (Same.tst s3)⟩
        rw [upd_ne (ne_of_none upd_same nu)]; exact upd_same
end
end My

set_option Elab.async false
set_option linter.all false
set_option maxRecDepth 100000
namespace My
open PySem PySem.Spec PyProof.Rows L2 GxR

def NearD (kvs : List (List Key × V)) (ts : List (Int × Int)) : Prop := ∀ a b : Int, (valV kvs [Sum.inl a, Sum.inl b]).isSome = decide ((a, b) ∈ ts ∨ (b, a) ∈ ts)
theorem near_put {kvs : List (List Key × V)} {ts : List (Int × Int)} (h : NearD kvs ts) (t : Int × Int) (u v : V) :
    NearD (putK (putK kvs [Sum.inl t.1, Sum.inl t.2] v) [Sum.inl t.2, Sum.inl t.1] u) (ts ++ [t]) := fun a b => by
  rw [valV_put, valV_put]
  cases t with | mk x y =>
  dsimp only
  by_cases h1 : a = y ∧ b = x
  · obtain ⟨rfl, rfl⟩ := h1
    rw [if_pos rfl]
    exact (decide_eq_true (.inr (List.mem_append_right _ (List.mem_singleton.mpr rfl)))).symm
  · have n1 : ¬ ([Sum.inl a, Sum.inl b] : List Key) = [Sum.inl y, Sum.inl x] := fun e => by
      cases e; exact h1 ⟨rfl, rfl⟩
    rw [if_neg n1]
    by_cases h2 : a = x ∧ b = y
    · obtain ⟨rfl, rfl⟩ := h2
      rw [if_pos rfl]
      exact (decide_eq_true (.inl (List.mem_append_right _ (List.mem_singleton.mpr rfl)))).symm
    · have n2 : ¬ ([Sum.inl a, Sum.inl b] : List Key) = [Sum.inl x, Sum.inl y] := fun e => by
        cases e; exact h2 ⟨rfl, rfl⟩
      rw [if_neg n2, h a b]
      refine decide_eq_decide.mpr ?_
      rw [List.mem_append, List.mem_append, List.mem_singleton, List.mem_singleton]
      constructor
      · rintro (z | z)
        · exact .inl (.inl z)
        · exact .inr (.inl z)
      · rintro ((z | z) | (z | z))
        · exact .inl z
        · cases z; exact absurd ⟨rfl, rfl⟩ h2
        · exact .inr z
        · cases z; exact absurd ⟨rfl, rfl⟩ h1

section
variable {P : Program} {w : World} {K : PySem.W.Frag} {mg : Str → Option Value} {base : Heap}
end
end My

set_option Elab.async false
set_option linter.all false
set_option maxRecDepth 100000
namespace My
open PySem PySem.Spec PyProof.Rows L2 GxR

/-! ### forcings: what the law's own going on makes -/
abbrev Ar := Int × Int
def sw (t : Ar) : Ar := (t.2, t.1)
theorem sw_sw (t : Ar) : sw (sw t) = t := rfl
def InR (n : Nat) (t : Ar) : Prop := 0 ≤ t.1 ∧ t.1 < (n : Int) ∧ 0 ≤ t.2 ∧ t.2 < (n : Int)
def allP (n : Nat) : List Ar := (up n).flatMap fun a => (up n).map fun b => (a, b)
theorem mem_allP {n : Nat} {t : Ar} : t ∈ allP n ↔ InR n t := by
  unfold allP InR
  rw [List.mem_flatMap]
  constructor
  · rintro ⟨a, ha, h⟩
    obtain ⟨b, hb, rfl⟩ := List.mem_map.mp h
    have h1 := mem_up.mp ha
    have h2 := mem_up.mp hb
    exact ⟨h1.1, h1.2, h2.1, h2.2⟩
  · rintro ⟨h1, h2, h3, h4⟩
    exact ⟨t.1, mem_up.mpr ⟨h1, h2⟩, List.mem_map.mpr ⟨t.2, mem_up.mpr ⟨h3, h4⟩, rfl⟩⟩
theorem up_pw' (n : Nat) : (up n).Pairwise (· < ·) := by
  unfold up
  rw [List.pairwise_map]
  exact List.pairwise_lt_range.imp fun {x y} h => Int.ofNat_lt.mpr h
theorem allP_pw (n : Nat) : (allP n).Pairwise ltT := by
  unfold allP
  rw [List.pairwise_flatMap]
  refine ⟨fun a _ => ?_, (up_pw' n).imp fun {a b} h x hx y hy => ?_⟩
  · rw [List.pairwise_map]
    exact (up_pw' n).imp fun h => .inr ⟨rfl, h⟩
  · obtain ⟨_, _, rfl⟩ := List.mem_map.mp hx
    obtain ⟨_, _, rfl⟩ := List.mem_map.mp hy
    exact .inl h
theorem allP_len (n : Nat) : (allP n).length = n * n := by
  unfold allP
  have : ∀ l : List Int, (l.flatMap fun a => (up n).map fun b => (a, b)).length = l.length * n := by
    intro l
    induction l with
    | nil => exact (Nat.zero_mul _).symm
    | cons a l ih => rw [List.flatMap_cons, List.length_append, ih, List.length_map, up_len, List.length_cons, Nat.succ_mul, Nat.add_comm]
  rw [this, up_len]
theorem nd_pw {l : List Ar} (h : l.Pairwise ltT) : l.Nodup := List.nodup_iff_pairwise_ne.mpr (h.imp fun {s t} h e => by subst e; exact ltT_irr h)
def nrB (ts : List Ar) (a b : Int) : Bool := decide ((a, b) ∈ ts ∨ (b, a) ∈ ts)
def tA (ts : List Ar) (a b c : Int) : Bool := !decide (c = b) && (nrB ts a c && !nrB ts b c)
def tB' (ts : List Ar) (a b c : Int) : Bool := !decide (c = a) && (nrB ts c b && !nrB ts a c)
def frcA (ts : List Ar) (a b : Int) (l : List Int) : List Ar := (l.filter (tA ts a b)).map fun c => (a, c)
def frcB (ts : List Ar) (a b : Int) (l : List Int) : List Ar := (l.filter (tB' ts a b)).map fun c => (c, b)
def frcL (n : Nat) (ts : List Ar) (t : Ar) : List Ar := frcA ts t.1 t.2 (up n) ++ frcB ts t.1 t.2 (up n)
theorem frcA_step (ts : List Ar) (a b : Int) (l : List Int) (c : Int) : frcA ts a b (l ++ [c]) = frcA ts a b l ++ (if tA ts a b c = true then [(a, c)] else []) := by
  unfold frcA
  rw [List.filter_append, List.map_append]
  by_cases h : tA ts a b c = true
  · rw [if_pos h, List.filter_cons_of_pos h]; rfl
  · rw [if_neg h, List.filter_cons_of_neg h]; rfl
theorem frcB_step (ts : List Ar) (a b : Int) (l : List Int) (c : Int) : frcB ts a b (l ++ [c]) = frcB ts a b l ++ (if tB' ts a b c = true then [(c, b)] else []) := by
  unfold frcB
  rw [List.filter_append, List.map_append]
  by_cases h : tB' ts a b c = true
  · rw [if_pos h, List.filter_cons_of_pos h]; rfl
  · rw [if_neg h, List.filter_cons_of_neg h]; rfl
theorem frcA_len (ts : List Ar) (a b : Int) (l : List Int) : (frcA ts a b l).length ≤ l.length := by
  unfold frcA; rw [List.length_map]; exact List.length_filter_le _ _
theorem frcB_len (ts : List Ar) (a b : Int) (l : List Int) : (frcB ts a b l).length ≤ l.length := by
  unfold frcB; rw [List.length_map]; exact List.length_filter_le _ _
theorem mem_frc {n : Nat} {ts : List Ar} {t x : Ar} : x ∈ frcL n ts t ↔
    (x.1 = t.1 ∧ 0 ≤ x.2 ∧ x.2 < (n : Int) ∧ tA ts t.1 t.2 x.2 = true) ∨ (x.2 = t.2 ∧ 0 ≤ x.1 ∧ x.1 < (n : Int) ∧ tB' ts t.1 t.2 x.1 = true) := by
  unfold frcL frcA frcB
  rw [List.mem_append, List.mem_map, List.mem_map]
  constructor
  · rintro (⟨c, hc, rfl⟩ | ⟨c, hc, rfl⟩)
    · obtain ⟨h1, h2⟩ := List.mem_filter.mp hc
      have := mem_up.mp h1
      exact .inl ⟨rfl, this.1, this.2, h2⟩
    · obtain ⟨h1, h2⟩ := List.mem_filter.mp hc
      have := mem_up.mp h1
      exact .inr ⟨rfl, this.1, this.2, h2⟩
  · rintro (⟨h1, h2, h3, h4⟩ | ⟨h1, h2, h3, h4⟩)
    · exact .inl ⟨x.2, List.mem_filter.mpr ⟨mem_up.mpr ⟨h2, h3⟩, h4⟩, Prod.ext h1.symm rfl⟩
    · exact .inr ⟨x.1, List.mem_filter.mpr ⟨mem_up.mpr ⟨h2, h3⟩, h4⟩, Prod.ext rfl h1.symm⟩
theorem frc_nd (n : Nat) (ts : List Ar) (t : Ar) : (frcL n ts t).Nodup := by
  unfold frcL frcA frcB
  rw [List.nodup_append]
  refine ⟨?_, ?_, fun x hx y hy e => ?_⟩
  · rw [List.nodup_iff_pairwise_ne, List.pairwise_map]
    exact ((List.nodup_iff_pairwise_ne.mp (up_nodup n)).sublist List.filter_sublist).imp fun h e => h (Prod.ext_iff.mp e).2
  · rw [List.nodup_iff_pairwise_ne, List.pairwise_map]
    exact ((List.nodup_iff_pairwise_ne.mp (up_nodup n)).sublist List.filter_sublist).imp fun h e => h (Prod.ext_iff.mp e).1
  · subst e
    obtain ⟨c, hc, rfl⟩ := List.mem_map.mp hx
    obtain ⟨d, hd, e⟩ := List.mem_map.mp hy
    have h1 := (List.mem_filter.mp hc).2
    have e2 := (Prod.ext_iff.mp e).2
    unfold tA at h1
    rw [Bool.and_eq_true, Bool.not_eq_true', decide_eq_false_iff_not] at h1
    exact h1.1 e2.symm
theorem frc_rng {n : Nat} {ts : List Ar} {t x : Ar} (ht : InR n t) (h : x ∈ frcL n ts t) : InR n x := by
  obtain ⟨a1, a2, a3, a4⟩ := ht
  rcases mem_frc.mp h with ⟨h1, h2, h3, _⟩ | ⟨h1, h2, h3, _⟩
  · exact ⟨by omega, by omega, h2, h3⟩
  · exact ⟨h2, h3, by omega, by omega⟩
/-- the forced ones, rising -/
def frcS (n : Nat) (ts : List Ar) (t : Ar) : List Ar := (allP n).filter fun x => decide (x ∈ frcL n ts t)
theorem mem_frcS {n : Nat} {ts : List Ar} {t x : Ar} (ht : InR n t) : x ∈ frcS n ts t ↔ x ∈ frcL n ts t := by
  unfold frcS
  rw [List.mem_filter, decide_eq_true_eq, mem_allP]
  exact ⟨fun h => h.2, fun h => ⟨frc_rng ht h, h⟩⟩
theorem frcS_pw (n : Nat) (ts : List Ar) (t : Ar) : (frcS n ts t).Pairwise ltT := (allP_pw n).sublist List.filter_sublist
theorem frcS_eq {n : Nat} {ts fs : List Ar} {t : Ar} (ht : InR n t) (hp : fs.Perm (frcL n ts t)) (hs : fs.Pairwise (fun s t => ¬ ltT t s)) : fs = frcS n ts t :=
  pw_eq (pw_lt hs (hp.nodup_iff.mpr (frc_nd n ts t))) (frcS_pw n ts t) fun x => hp.mem_iff.trans (mem_frcS ht).symm
/-- what is found and what waits, behind the forced ones fs -/
def grow (fs : List Ar) (fw : List Ar × List Ar) : List Ar × List Ar := fs.foldl (fun fw o => if o ∈ fw.1 then fw else (fw.1 ++ [o], fw.2 ++ [o])) fw
theorem grow_step (fs : List Ar) (o : Ar) (fw : List Ar × List Ar) : grow (fs ++ [o]) fw = if o ∈ (grow fs fw).1 then grow fs fw else ((grow fs fw).1 ++ [o], (grow fs fw).2 ++ [o]) := by
  unfold grow; rw [List.foldl_append]; rfl
def comeR (n : Nat) (ts : List Ar) : Nat → List Ar × List Ar → List Ar
  | 0, fw => fw.1
  | k + 1, fw => match fw.2.getLast? with
    | none => fw.1
    | some x => comeR n ts k (grow (frcS n ts x) (fw.1, fw.2.dropLast))
def comeF (n : Nat) (ts : List Ar) (t : Ar) : List Ar := comeR n ts (2 * (n * n) + 1) ([t], [t])
theorem comeR_nil (n : Nat) (ts cs : List Ar) : ∀ k, comeR n ts k (cs, []) = cs
  | 0 => rfl
  | _ + 1 => rfl
structure GrowI (n : Nat) (fw : List Ar × List Ar) : Prop where
  nd : fw.1.Nodup
  rng : ∀ t ∈ fw.1, InR n t
  sub : ∀ t ∈ fw.2, InR n t
theorem grow_all {n : Nat} : ∀ {fs : List Ar} {fw : List Ar × List Ar}, GrowI n fw → (∀ t ∈ fs, InR n t) → GrowI n (grow fs fw) ∧ ∃ k, (grow fs fw).1.length = fw.1.length + k ∧ (grow fs fw).2.length = fw.2.length + k
  | [], fw, h, _ => ⟨h, 0, rfl, rfl⟩
  | o :: fs, fw, h, hr => by
    show GrowI n (grow fs (if o ∈ fw.1 then fw else (fw.1 ++ [o], fw.2 ++ [o]))) ∧ _
    have ho := hr o List.mem_cons_self
    by_cases hm : o ∈ fw.1
    · have e : grow (o :: fs) fw = grow fs fw := by
        show grow fs (if o ∈ fw.1 then fw else _) = _
        rw [if_pos hm]
      rw [if_pos hm, e]
      exact grow_all h fun t ht => hr t (List.mem_cons_of_mem _ ht)
    · have e : grow (o :: fs) fw = grow fs (fw.1 ++ [o], fw.2 ++ [o]) := by
        show grow fs (if o ∈ fw.1 then fw else _) = _
        rw [if_neg hm]
      have h' : GrowI n (fw.1 ++ [o], fw.2 ++ [o]) := by
        refine ⟨?_, fun t ht => ?_, fun t ht => ?_⟩
        · rw [List.nodup_append]
          refine ⟨h.nd, List.nodup_cons.mpr ⟨List.not_mem_nil, List.nodup_nil⟩, fun a ha b hb e => ?_⟩
          rw [List.mem_singleton.mp hb] at e
          subst e; exact hm ha
        · rcases List.mem_append.mp ht with z | z
          · exact h.rng t z
          · rw [List.mem_singleton.mp z]; exact ho
        · rcases List.mem_append.mp ht with z | z
          · exact h.sub t z
          · rw [List.mem_singleton.mp z]; exact ho
      rw [if_neg hm, e]
      obtain ⟨i1, k, l1, l2⟩ := grow_all h' fun t ht => hr t (List.mem_cons_of_mem _ ht)
      rw [List.length_append] at l1 l2
      exact ⟨i1, k + 1, by rw [l1]; show _ + 1 + k = _; omega, by rw [l2]; show _ + 1 + k = _; omega⟩
theorem cs_len {n : Nat} {cs : List Ar} (nd : cs.Nodup) (h : ∀ t ∈ cs, InR n t) : cs.length ≤ n * n := by
  rw [← allP_len n]
  exact nd_len nd fun t ht => mem_allP.mpr (h t ht)

/-! ### the first pointing, as the law's own way makes it -/
def firstG (n : Nat) (ts : List Ar) : List Ar → List Ar → Option (List Ar)
  | [], C => some C
  | t :: r, C => if t ∈ C ∨ sw t ∈ C then firstG n ts r C else if sw t ∈ comeF n ts t then none else firstG n ts r (C ++ comeF n ts t)
def firstF (n : Nat) (ts : List Ar) : Option (List Ar) := (firstG n ts ts []).map fun C => ts.map fun t => if t ∈ C then t else sw t
/-- arrows for the ties, in their order -/
def nrm (p : Ar) : Ar := if p.1 < p.2 then p else sw p
def Pts (ts ps : List Ar) : Prop := ps.map nrm = ts
theorem nrm_t {t : Ar} (h : t.1 < t.2) : nrm t = t := if_pos h
theorem nrm_sw {t : Ar} (h : t.1 < t.2) : nrm (sw t) = t := by
  unfold nrm sw
  dsimp only
  rw [if_neg (by omega)]
theorem first_pts {n : Nat} {ts ps : List Ar} (hw : WOk n ts) (h : firstF n ts = some ps) : Pts ts ps := by
  unfold firstF at h
  obtain ⟨C, _, rfl⟩ := Option.map_eq_some_iff.mp h
  unfold Pts
  rw [List.map_map]
  have : ∀ t ∈ ts, (nrm ∘ fun t => if t ∈ C then t else sw t) t = id t := fun t ht => by
    have b := hw.2 t ht
    show nrm (if t ∈ C then t else sw t) = t
    split
    · exact nrm_t b.2.1
    · exact nrm_sw b.2.1
  rw [List.map_congr_left this, List.map_id]
end My

set_option Elab.async false
set_option linter.all false
set_option maxRecDepth 100000
namespace My
open PySem PySem.Spec PyProof.Rows L2 GxR

theorem inV_int (ns : List Int) (x : Int) : inV (.int x) (ns.map V.int) = decide (x ∈ ns) := by
  unfold inV
  induction ns with
  | nil => rfl
  | cons a l ih =>
    rw [List.map_cons, List.any_cons, ih]
    by_cases h : a = x
    · subst h; simp [eqV]
    · have h' : ¬ x = a := fun e => h e.symm
      simp [eqV, h, h']
/-! ### the places that each place is tied to -/
def nearT (p : Int) (t : Ar) : Option Int := if t.1 = p then some t.2 else if t.2 = p then some t.1 else none
def nearL (ts : List Ar) (p : Int) : List Int := ts.filterMap (nearT p)
theorem nearL_step (ts : List Ar) (t : Ar) (p : Int) : nearL (ts ++ [t]) p = nearL ts p ++ (if t.1 = p then [t.2] else if t.2 = p then [t.1] else []) := by
  unfold nearL
  rw [List.filterMap_append]
  congr 1
  rw [List.filterMap_cons, List.filterMap_nil]
  unfold nearT
  by_cases h1 : t.1 = p
  · rw [if_pos h1, if_pos h1]
  · rw [if_neg h1, if_neg h1]
    by_cases h2 : t.2 = p
    · rw [if_pos h2, if_pos h2]
    · rw [if_neg h2, if_neg h2]
theorem nearL_len (ts : List Ar) (p : Int) : (nearL ts p).length ≤ ts.length := List.length_filterMap_le _ _
theorem mem_nearL {ts : List Ar} {p c : Int} : c ∈ nearL ts p ↔ ((p, c) ∈ ts ∨ (c, p) ∈ ts) := by
  unfold nearL
  rw [List.mem_filterMap]
  constructor
  · rintro ⟨⟨x, y⟩, ht, e⟩
    unfold nearT at e
    dsimp only at e
    by_cases h1 : x = p
    · rw [if_pos h1] at e; cases e; subst h1; exact .inl ht
    · rw [if_neg h1] at e
      by_cases h2 : y = p
      · rw [if_pos h2] at e; cases e; subst h2; exact .inr ht
      · rw [if_neg h2] at e; cases e
  · rintro (h | h)
    · exact ⟨_, h, if_pos rfl⟩
    · refine ⟨_, h, ?_⟩
      unfold nearT
      dsimp only
      by_cases h1 : c = p
      · rw [if_pos h1, h1]
      · rw [if_neg h1, if_pos rfl]
theorem nearL_nrB {ts : List Ar} {p c : Int} : decide (c ∈ nearL ts p) = nrB ts p c := by
  unfold nrB
  exact decide_eq_decide.mpr mem_nearL
theorem nrB_comm (ts : List Ar) (a b : Int) : nrB ts a b = nrB ts b a := decide_eq_decide.mpr Or.comm
theorem nearL_nd {n : Nat} {ts : List Ar} (hw : WOk n ts) (p : Int) : (nearL ts p).Nodup := by
  unfold nearL
  rw [List.nodup_iff_pairwise_ne, List.pairwise_filterMap]
  refine hw.1.imp_of_mem fun {s t} hs ht h c hc d hd e => ?_
  have bs := hw.2 s hs
  have bt := hw.2 t ht
  subst e
  cases s with | mk s1 s2 =>
  cases t with | mk t1 t2 =>
  unfold nearT at hc hd
  unfold ltT at h
  dsimp only at *
  split at hc
  · split at hd
    · cases hc; cases hd; omega
    · split at hd
      · cases hc; cases hd; omega
      · cases hd
  · split at hc
    · split at hd
      · cases hc; cases hd; omega
      · split at hd
        · cases hc; cases hd; omega
        · cases hd
    · cases hc
/-! ### what a forced_by makes -/
def tE (ts : List Ar) (a b : Int) (c : Int) : Bool := !decide (c = b) && !decide (c ∈ nearL ts b)
def endsL (ts : List Ar) (a b : Int) (l : List Int) : List Ar := (l.filter (tE ts a b)).map fun c => (a, c)
def begL (ts : List Ar) (a b : Int) (l : List Int) : List Ar := (l.filter (tE ts b a)).map fun c => (c, b)
theorem endsL_step (ts : List Ar) (a b : Int) (l : List Int) (c : Int) : endsL ts a b (l ++ [c]) = endsL ts a b l ++ (if tE ts a b c = true then [(a, c)] else []) := by
  unfold endsL
  rw [List.filter_append, List.map_append]
  by_cases h : tE ts a b c = true
  · rw [if_pos h, List.filter_cons_of_pos h]; rfl
  · rw [if_neg h, List.filter_cons_of_neg h]; rfl
theorem begL_step (ts : List Ar) (a b : Int) (l : List Int) (c : Int) : begL ts a b (l ++ [c]) = begL ts a b l ++ (if tE ts b a c = true then [(c, b)] else []) := by
  unfold begL
  rw [List.filter_append, List.map_append]
  by_cases h : tE ts b a c = true
  · rw [if_pos h, List.filter_cons_of_pos h]; rfl
  · rw [if_neg h, List.filter_cons_of_neg h]; rfl
theorem endsL_len (ts : List Ar) (a b : Int) (l : List Int) : (endsL ts a b l).length ≤ l.length := by
  unfold endsL; rw [List.length_map]; exact List.length_filter_le _ _
theorem begL_len (ts : List Ar) (a b : Int) (l : List Int) : (begL ts a b l).length ≤ l.length := by
  unfold begL; rw [List.length_map]; exact List.length_filter_le _ _
def fbL (ts : List Ar) (t : Ar) : List Ar := endsL ts t.1 t.2 (nearL ts t.1) ++ begL ts t.1 t.2 (nearL ts t.2)
theorem near_rng {n : Nat} {ts : List Ar} (hw : WOk n ts) {p c : Int} (h : nrB ts p c = true) : 0 ≤ c ∧ c < (n : Int) := by
  rcases of_decide_eq_true h with z | z
  · have := hw.2 _ z; dsimp only at this; omega
  · have := hw.2 _ z; dsimp only at this; omega
theorem mem_fb {n : Nat} {ts : List Ar} (hw : WOk n ts) {t x : Ar} : x ∈ fbL ts t ↔ x ∈ frcL n ts t := by
  have tE' : ∀ a b c, tE ts a b c = (!decide (c = b) && !nrB ts b c) := fun a b c => by unfold tE; rw [nearL_nrB]
  rw [mem_frc]
  unfold fbL endsL begL
  rw [List.mem_append, List.mem_map, List.mem_map]
  constructor
  · rintro (⟨c, hc, rfl⟩ | ⟨c, hc, rfl⟩)
    · obtain ⟨h1, h2⟩ := List.mem_filter.mp hc
      have h1' : nrB ts t.1 c = true := by rw [← nearL_nrB]; exact decide_eq_true h1
      have r := near_rng hw h1'
      refine .inl ⟨rfl, r.1, r.2, ?_⟩
      rw [tE', Bool.and_eq_true] at h2
      unfold tA
      rw [h2.1, h1', h2.2]; rfl
    · obtain ⟨h1, h2⟩ := List.mem_filter.mp hc
      have h1' : nrB ts t.2 c = true := by rw [← nearL_nrB]; exact decide_eq_true h1
      have r := near_rng hw h1'
      refine .inr ⟨rfl, r.1, r.2, ?_⟩
      rw [tE', Bool.and_eq_true] at h2
      unfold tB'
      rw [h2.1, nrB_comm, h1', h2.2]; rfl
  · rintro (⟨h1, h2, h3, h4⟩ | ⟨h1, h2, h3, h4⟩)
    · unfold tA at h4
      rw [Bool.and_eq_true, Bool.and_eq_true] at h4
      refine .inl ⟨x.2, List.mem_filter.mpr ⟨?_, ?_⟩, Prod.ext h1.symm rfl⟩
      · exact of_decide_eq_true (nearL_nrB.trans h4.2.1)
      · rw [tE', h4.1, h4.2.2]; rfl
    · unfold tB' at h4
      rw [Bool.and_eq_true, Bool.and_eq_true, nrB_comm] at h4
      refine .inr ⟨x.1, List.mem_filter.mpr ⟨?_, ?_⟩, Prod.ext rfl h1.symm⟩
      · exact of_decide_eq_true (nearL_nrB.trans h4.2.1)
      · rw [tE', h4.1, h4.2.2]; rfl
theorem fb_nd {n : Nat} {ts : List Ar} (hw : WOk n ts) (t : Ar) : (fbL ts t).Nodup := by
  unfold fbL endsL begL
  rw [List.nodup_append]
  refine ⟨?_, ?_, fun x hx y hy e => ?_⟩
  · rw [List.nodup_iff_pairwise_ne, List.pairwise_map]
    exact ((List.nodup_iff_pairwise_ne.mp (nearL_nd hw _)).sublist List.filter_sublist).imp fun h e => h (Prod.ext_iff.mp e).2
  · rw [List.nodup_iff_pairwise_ne, List.pairwise_map]
    exact ((List.nodup_iff_pairwise_ne.mp (nearL_nd hw _)).sublist List.filter_sublist).imp fun h e => h (Prod.ext_iff.mp e).1
  · subst e
    obtain ⟨c, hc, rfl⟩ := List.mem_map.mp hx
    obtain ⟨d, hd, e⟩ := List.mem_map.mp hy
    have h1 := (List.mem_filter.mp hc).2
    have e2 := (Prod.ext_iff.mp e).2
    unfold tE at h1
    rw [Bool.and_eq_true, Bool.not_eq_true', decide_eq_false_iff_not] at h1
    exact h1.1 e2.symm
theorem srt_eq {l m fs : List Ar} (hp : fs.Perm l) (nd : l.Nodup) (hs : fs.Pairwise (fun s t => ¬ ltT t s)) (hm : m.Pairwise ltT) (h : ∀ x, x ∈ l ↔ x ∈ m) : fs = m :=
  pw_eq (pw_lt hs (hp.nodup_iff.mpr nd)) hm fun x => hp.mem_iff.trans (h x)
theorem fb_eq {n : Nat} {ts fs : List Ar} {t : Ar} (hw : WOk n ts) (ht : InR n t) (hp : fs.Perm (fbL ts t)) (hs : fs.Pairwise (fun s t => ¬ ltT t s)) : fs = frcS n ts t :=
  srt_eq hp (fb_nd hw t) hs (frcS_pw n ts t) fun x => (mem_fb hw).trans (mem_frcS ht).symm
/-! ### all arrows, rising -/
def arS (n : Nat) (ts : List Ar) : List Ar := (allP n).filter fun x => nrB ts x.1 x.2
theorem arS_pw (n : Nat) (ts : List Ar) : (arS n ts).Pairwise ltT := (allP_pw n).sublist List.filter_sublist
theorem nrB_lt {n : Nat} {ts : List Ar} (hw : WOk n ts) {a b : Int} (h : nrB ts a b = true) : 0 ≤ a ∧ a < (n : Int) ∧ 0 ≤ b ∧ b < (n : Int) ∧ a ≠ b := by
  rcases of_decide_eq_true h with z | z
  · have := hw.2 _ z; dsimp only at this; omega
  · have := hw.2 _ z; dsimp only at this; omega
theorem mem_arS {n : Nat} {ts : List Ar} (hw : WOk n ts) {x : Ar} : x ∈ arS n ts ↔ (x ∈ ts ∨ sw x ∈ ts) := by
  unfold arS
  rw [List.mem_filter, mem_allP]
  constructor
  · rintro ⟨_, h⟩
    exact of_decide_eq_true h
  · intro h
    have h' : nrB ts x.1 x.2 = true := decide_eq_true h
    have b := nrB_lt hw h'
    exact ⟨⟨b.1, b.2.1, b.2.2.1, b.2.2.2.1⟩, h'⟩
theorem ar_nd {n : Nat} {ts : List Ar} (hw : WOk n ts) : (ts ++ ts.map sw).Nodup := by
  have nd := nd_pw hw.1
  rw [List.nodup_append]
  refine ⟨nd, ?_, fun x hx y hy e => ?_⟩
  · rw [List.nodup_iff_pairwise_ne, List.pairwise_map]
    refine (List.nodup_iff_pairwise_ne.mp nd).imp fun {s t} h e => h ?_
    rw [← sw_sw s, e, sw_sw]
  · subst e
    obtain ⟨z, hz, rfl⟩ := List.mem_map.mp hy
    have b1 := hw.2 _ hx
    have b2 := hw.2 _ hz
    unfold sw at b1
    dsimp only at b1
    omega
theorem ar_eq {n : Nat} {ts fs : List Ar} (hw : WOk n ts) (hp : fs.Perm (ts ++ ts.map sw)) (hs : fs.Pairwise (fun s t => ¬ ltT t s)) : fs = arS n ts := by
  refine srt_eq hp (ar_nd hw) hs (arS_pw n ts) fun x => ?_
  rw [mem_arS hw, List.mem_append, List.mem_map]
  constructor
  · rintro (z | ⟨y, hy, rfl⟩)
    · exact .inl z
    · exact .inr hy
  · rintro (z | z)
    · exact .inl z
    · exact .inr ⟨_, z, sw_sw x⟩
theorem arS_inR {n : Nat} {ts : List Ar} {x : Ar} (h : x ∈ arS n ts) : InR n x := mem_allP.mp (List.mem_filter.mp h).1
theorem arS_len {n : Nat} {ts : List Ar} : (arS n ts).length ≤ n * n := by
  rw [← allP_len n]; exact List.length_filter_le _ _
theorem frcS_len {n : Nat} {ts : List Ar} {t : Ar} : (frcS n ts t).length ≤ n * n := by
  rw [← allP_len n]; exact List.length_filter_le _ _
theorem frc_ar {n : Nat} {ts : List Ar} {t x : Ar} (h : x ∈ frcL n ts t) : nrB ts x.1 x.2 = true := by
  rcases mem_frc.mp h with ⟨h1, h2, h3, h4⟩ | ⟨h1, h2, h3, h4⟩
  · unfold tA at h4
    rw [Bool.and_eq_true, Bool.and_eq_true] at h4
    rw [h1]; exact h4.2.1
  · unfold tB' at h4
    rw [Bool.and_eq_true, Bool.and_eq_true] at h4
    rw [h1]; exact h4.2.1
theorem frcS_ar {n : Nat} {ts : List Ar} {t x : Ar} (ht : InR n t) (h : x ∈ frcS n ts t) : x ∈ arS n ts := by
  have h' := (mem_frcS ht).mp h
  exact List.mem_filter.mpr ⟨mem_allP.mpr (frc_rng ht h'), frc_ar h'⟩
theorem frc_sw {n : Nat} {ts : List Ar} {t x : Ar} : x ∈ frcL n ts (sw t) ↔ sw x ∈ frcL n ts t := by
  rw [mem_frc, mem_frc]
  unfold sw tA tB'
  dsimp only
  rw [nrB_comm ts t.2 x.2, nrB_comm ts x.1 t.1]
  constructor
  · rintro (h | h)
    · first | exact .inr h | exact .inl h
    · first | exact .inr h | exact .inl h
  · rintro (h | h)
    · first | exact .inr h | exact .inl h
    · first | exact .inr h | exact .inl h
theorem frc_symm {n : Nat} {ts : List Ar} {t x : Ar} (ht : InR n t) (ha : nrB ts t.1 t.2 = true) (h : x ∈ frcL n ts t) : t ∈ frcL n ts x := by
  obtain ⟨r1, r2, r3, r4⟩ := ht
  rw [mem_frc] at h ⊢
  rcases h with ⟨h1, h2, h3, h4⟩ | ⟨h1, h2, h3, h4⟩
  · unfold tA at h4 ⊢
    rw [Bool.and_eq_true, Bool.and_eq_true, Bool.not_eq_true', decide_eq_false_iff_not] at h4
    refine .inl ⟨h1.symm, r3, r4, ?_⟩
    rw [h1, ha, nrB_comm, h4.2.2, decide_eq_false (fun e => h4.1 e.symm)]; rfl
  · unfold tB' at h4 ⊢
    rw [Bool.and_eq_true, Bool.and_eq_true, Bool.not_eq_true', decide_eq_false_iff_not] at h4
    refine .inr ⟨h1.symm, r1, r2, ?_⟩
    rw [h1, ha, nrB_comm, h4.2.2, decide_eq_false (fun e => h4.1 e.symm)]; rfl
/-! ### forced, turned -/
theorem frcS_sw {n : Nat} {ts fs : List Ar} {t : Ar} (ht : InR n t) (hp : fs.Perm ((frcS n ts t).map sw)) (hs : fs.Pairwise (fun s t => ¬ ltT t s)) : fs = frcS n ts (sw t) := by
  have ht' : InR n (sw t) := ⟨ht.2.2.1, ht.2.2.2, ht.1, ht.2.1⟩
  refine srt_eq hp ?_ hs (frcS_pw n ts _) fun x => ?_
  · rw [List.nodup_iff_pairwise_ne, List.pairwise_map]
    refine (List.nodup_iff_pairwise_ne.mp (nd_pw (frcS_pw n ts t))).imp fun {s t} h e => h ?_
    rw [← sw_sw s, e, sw_sw]
  · rw [mem_frcS ht', frc_sw, List.mem_map]
    constructor
    · rintro ⟨y, hy, rfl⟩
      exact (mem_frcS ht).mp hy
    · intro h
      exact ⟨_, (mem_frcS ht).mpr h, sw_sw x⟩
end My

set_option Elab.async false
set_option linter.all false
set_option maxRecDepth 100000
namespace My
open PySem PySem.Spec PyProof.Rows L2

/-! ### str of data, where no text is being made of anything yet -/
def rStrD (K : PySem.W.Frag) : List V → Hp → VK → Prop := fun xs H Q => ∃ a d, xs = [.ref a] ∧ Dp K H (.ref a) d ∧ d.showable = true ∧ d.hasDict = false ∧ d.depth ≤ 50 ∧ d.shown.length ≤ sizeLine ∧ Q (.str d.shown) H
theorem call_strD {X : Cx} (hg : X.A.guards = some []) (hu : X.A.units + 65 < cLine) : CallR X (.type "str") (rStrD X.K) := by
  rintro pins s σ H xs us Q I r ⟨a, d, rfl, hd, h1, h2, h3, h4, q⟩
  obtain ⟨u, rfl, r1⟩ := vals1 r
  obtain rfl : u = Value.ref a := r1
  obtain ⟨as, rr⟩ := Dp.reads I d _ _ hd rfl
  exact str_of_reads rr h1 (fun z => by rw [h2] at z; cases z) hg (by omega) (fun _ _ e => e) (fun h' t tk k => ⟨.str _, H, I.kept k, ⟨_, rfl⟩, q⟩) h4

/-! ### cuts: what holds behind a piece is named, and the rest is shown from that alone -/
section
variable {X : Cx} {st : Stmt} {rest : List Stmt} {t u : TS} {e : Expr} {te : TE} {tt : TT}
def tCut (t u : TS) : TS := fun D σ H => ∃ M : L2.St → Hp → Prop, t { D with nx := M } σ H ∧ ∀ σ' H', M σ' H' → u D σ' H'
theorem pss_cut (h1 : PS X st t) (h2 : PSs X rest u) : PSs X (st :: rest) (tCut t u) := by
  constructor
  rintro pins s σ H D I ⟨M, h, hM⟩
  refine wpAny_execs_cons (wpAny_mono (h1.run pins s σ H { D with nx := M } I h) (fun f s1 z => ?_) fun _ _ z => z)
  match f, z with
  | .next, ⟨σ', H', I', m⟩ => exact h2.run pins s1 σ' H' D I' (hM _ _ m)
  | .ret _, z => exact z
  | .brk, z => exact z
  | .cont, z => exact z
def tCutE (t : TE) : TE := fun σ H Q => ∃ M : VK, t σ H M ∧ ∀ v H', M v H' → Q v H'
theorem pe_cut (h : PE X e te) : PE X e (tCutE te) := by
  constructor
  rintro pins s σ H Q I ⟨M, m, hM⟩
  refine wpAny_mono (h.run pins s σ H M I m) (fun v s1 z => ?_) fun _ _ z => z
  obtain ⟨x, H', I', r, z⟩ := z
  exact ⟨x, H', I', r, hM _ _ z⟩
def tCutT (t : TT) : TT := fun σ H Q => ∃ M : Bool → Hp → Prop, t σ H M ∧ ∀ v H', M v H' → Q v H'
theorem pt_cut (h : PT X e tt) : PT X e (tCutT tt) := by
  constructor
  rintro pins s σ H Q I ⟨M, m, hM⟩
  refine wpAny_mono (h.run pins s σ H M I m) (fun v s1 z => ?_) fun _ _ z => z
  obtain ⟨H', I', z⟩ := z
  exact ⟨H', I', hM _ _ z⟩
end
/-! ### a def run at the top -/
section
variable {P : Program} {w : World} {K : PySem.W.Frag} {mg : Str → Option Value} {base : Heap}
/-- a call of a def with one argument from the law's own caller -/
def TopRun (P : Program) (w : World) (K : PySem.W.Frag) (mg : Str → Option Value) (base : Heap) (f : Addr) (fd : FuncData) (y : Str) (sp : Sp) : Prop :=
  ∀ (s : Shared) (H : Hp) (u : Value) (v : V) (Q : VK) (E : XK), Env0 P w K mg base callerA [] s H → BindsTo s fd ⟨[u], []⟩ [(y, u)] → RelV v u → sp [v] H Q E →
    codeAny (model P w) callerA (.call (.ref f) ⟨[u], []⟩) (CR CX0 [] P w H s Q E) s
theorem top_run {x y : Str} {st : Stmt} {f : Addr} {fd : FuncData} {N : List Str} {k : Nat} {sp : Sp} (F : Fun K x x st f fd) (S : FnScope N [y] (defScope st)) (room : Room (k + 1) callerA)
    (body : ∀ (cdv : Value) (s : Shared) (H : Hp) (v : V) (Q : VK) (E : XK), Room k (callerA.deeper (envOfC x (defScope st) s.heap.objs.size f cdv)) → sp [v] H Q E →
      ∃ t, PSs (cxOf CX0 P w K mg base N x (defScope st) f cdv callerA [] s H E).nox (defBody st) t ∧ t { nx := fun _ H' => Q .non H', rt := Q } (start N [v]) H) :
    TopRun P w K mg base f fd y sp := by
  intro s H u v Q E e0 hb rv hsp
  obtain ⟨oc, od, kV, doc, pm, an, cdv, ct, osl, rfl, lk, hcd⟩ := F.ex
  have here : K.In s.heap := e0.mod.kin.keeps fun b o z => (e0.bs b o z).1
  have free := e0.mod.nolimit.keeps fun b o z => (e0.bs b o z).1
  refine codeAny_call_function room.depth (here _ _ lk) rfl S.co S.gen rfl (PySem.W.codeRec_of here hcd) (hb _ _ _ _ ?_)
  refine wpAny_newFunctionEnv_cells S.kind ?_ fun env he s1 inn => ?_
  · rintro ⟨n, z⟩ hz
    rcases S.par n (List.of_mem_zip (l₁ := [y]) (l₂ := [u]) hz).1 with loc | cel
    · exact Or.inl loc
    · exact Or.inr ⟨cel, PySem.W.cellsFrom_some _ _ _ (Or.inl cel)⟩
  subst he
  refine ⟨free.keeps inn.toInCall.keep, codeAny_func ?_⟩
  obtain ⟨t, ht, hq⟩ := body cdv s H v Q E (room.deeper _) hsp
  have I0 := inv_start (CX := CX0) (E := E) (vs := [v]) (us := [u]) S room.hd e0 rfl (.cons rv .nil) inn
  refine wpAny_mono (ht.nox.run [] s1 (start N [v]) H _ I0 hq) (fun fl s' out => ?_) fun _ _ z => z
  cases fl with
  | ret z =>
    obtain ⟨v', σ', H', J, r', q'⟩ := out
    exact ⟨v', H', J.os, J.bare, J.base, J.hok, r', q'⟩
  | next =>
    obtain ⟨σ', H', J, q'⟩ := out
    exact ⟨V.non, H', J.os, J.bare, J.base, J.hok, rfl, q'⟩
  | brk => obtain ⟨_, _, _, no⟩ := out; exact no.elim
  | cont => obtain ⟨_, _, _, no⟩ := out; exact no.elim
end
end My

set_option Elab.async false
set_option linter.all false
set_option maxRecDepth 100000
namespace My
open PySem PySem.Spec PyProof.Rows L2

/-! ### the law's call, from what its def does when it is called from the top -/
/-- what the heap tracks when the law is called: the tables, empty, and the script where it is none of the fixed part -/
structure Trk (K : PySem.W.Frag) (s : Shared) (cs : List (Addr × Addr)) (a : Addr) (xs : Array Value) (ys : List V) (H : Hp) : Prop where
  tab : ∀ p ∈ cs, H p.2 = some (.tbl #[])
  scr : SqL K H a ys
  any : ∀ b u, H b = some u → (∃ p ∈ cs, p.2 = b) ∨ (b = a ∧ K.lookup a = none ∧ u = .frz { cls := .type "list", data := .seq xs } (.lst ys))
section
variable {P : Program} {w : World} {K : PySem.W.Frag} {mg mb : Str → Option Value} {fa a : Addr} {cs : List (Addr × Addr)} {fd : FuncData} {y : Str} {sp : Sp} {s : Shared} {vs : List Value} {ns : List Int} {H : Hp}
theorem trk_out (hT : ∀ p ∈ cs, s.heap.get? p.2 = some ⟨.none, none, .fields #[], #[]⟩) (ha : s.heap.get? a = some { cls := .type "list", data := .seq vs.toArray }) {ys : List V} (t : Trk K s cs a vs.toArray ys H) {b : Addr} {o : Obj} (e : s.heap.get? b = some o) (h1 : ∀ us n, o.data = .seq us n → False) (h2 : o.data = .fields #[] → False) : H b = none := by
  cases z : H b with
  | none => rfl
  | some u =>
    exfalso
    rcases t.any b u z with ⟨p, hp, rfl⟩ | ⟨rfl, _, _⟩
    · rw [hT p hp] at e; cases e; exact h2 rfl
    · rw [ha] at e; cases e; exact h1 _ _ rfl
theorem trk_call (KX : K.In s.heap) (g1 : s.heap.Ns mainGlobals mg) (g2 : s.heap.Ns builtinsNs mb) (g3 : ∀ x : Str, x ≠ "__name__" → mb x = bootBuiltins x) (g4 : s.heap.NoLimit) (g5 : s.gens = #[])
    (hT : ∀ p ∈ cs, s.heap.get? p.2 = some ⟨.none, none, .fields #[], #[]⟩) (nT : ∀ p ∈ cs, K.lookup p.2 = none) (hC : ∀ p ∈ cs, PySem.W.CodeHd s.heap p.1 p.2)
    (g6 : ∃ (bm : Addr) (ob : Obj), mg "__builtins__" = some (.ref bm) ∧ bm ≠ builtinsNs ∧ s.heap.get? bm = some ob ∧ ob.cls = .type "module" ∧ ob.dict = some builtinsNs ∧ ob.data = .plain)
    (ha : s.heap.get? a = some { cls := .type "list", data := .seq vs.toArray })
    (R : ∀ base : Heap, K.In base → base.Ns mainGlobals mg → (∀ p ∈ cs, LamX.TabB base mg p.1 p.2) → TopRun P w K mg base fa fd y sp) (hbind : ∀ (s : Shared) (u : Value), BindsTo s fd ⟨[u], []⟩ [(y, u)])
    (t : Trk K s cs a vs.toArray (ns.map V.int) H) (ok : HOk P w H s.heap) (hsp : sp [.ref a] H (fun v _ => v = .bl true) fun _ _ _ => False) :
    codeAny (model P w) callerA (.call (.ref fa) ⟨[.ref a], []⟩) (fun r s' => r = .ok (.ret (.bool true)) ∧ OldK s.heap s'.heap ∧ s'.os = s.os ∧ AllBare s'.gens) s := by
  have up : ∀ {b : Addr} {o : Obj}, s.heap.get? b = some o → (∀ us n, o.data = .seq us n → False) → (o.data = .fields #[] → False) → (hidT s.heap H).get? b = some o := fun e h1 h2 => hidT_get e (trk_out hT ha t e h1 h2)
  have upN : ∀ {b : Addr} {m : Str → Option Value}, s.heap.Ns b m → (hidT s.heap H).Ns b m := by
    rintro b m ⟨o, es, ep, e, d, r⟩
    exact ⟨o, es, ep, up e (fun us n z => by rw [d] at z; cases z) (fun z => by rw [d] at z; cases z), d, r⟩
  have upK : K.In (hidT s.heap H) := by
    intro b o e
    refine hidT_get (KX b o e) ?_
    cases z : H b with
    | none => rfl
    | some u =>
      exfalso
      rcases t.any b u z with ⟨p, hp, rfl⟩ | ⟨rfl, nk, _⟩
      · rw [nT p hp] at e; cases e
      · rw [nk] at e; cases e
  have upM : L2.Mod K mg (hidT s.heap H) := by
    obtain ⟨mc, k1, k2⟩ := g4
    exact ⟨upK, upN g1, ⟨mb, upN g2, g3⟩, ⟨mc, upN k1, k2⟩⟩
  have upT : ∀ p ∈ cs, LamX.TabB (hidT s.heap H) mg p.1 p.2 := by
    intro p hp
    have hp2 := hT p hp
    constructor
    · obtain ⟨o, us, file, tf, flags, tg, inF, text, tt, e1, r1, r2, r3, more⟩ := hC p hp
      refine ⟨o, us, file, tf, flags, tg, inF, text, tt, up e1 (fun z n k => by rw [r2] at k; cases k) (fun k => ?_), r1, r2, r3, more⟩
      rw [r2] at k; cases k; simp at r3
    · obtain ⟨bm, ob, b1, b2, b3, b4, b5, b6⟩ := g6
      refine ⟨bm, ob, b1, b2, fun z => ?_, fun z => ?_, up b3 (fun us n k => by rw [b6] at k; cases k) (fun k => by rw [b6] at k; cases k), b4, b5, b6⟩
      · obtain ⟨o, es, ep, e, hd, _⟩ := g1
        rw [z, e] at b3; cases b3; rw [hd] at b6; cases b6
      · rw [z, hp2] at b3; cases b3; cases b6
    · intro z
      obtain ⟨o, es, ep, e, hd, _⟩ := g1
      rw [z, hp2] at e; cases e; cases hd
  have e0 : Env0 P w K mg (hidT s.heap H) callerA [] s H := by
    refine ⟨rfl, upM, fun b o e => of_hidT e, Nat.le_of_eq (hidT_size _ _), trivial, fun b hb => ?_, ok, .of_eq g5⟩
    exact absurd (show b ∈ ([] : List Addr) from hb) List.not_mem_nil
  refine codeAny_mono (R _ upK (upN g1) upT s H (.ref a) (.ref a) _ _ e0 (hbind s _) rfl hsp) fun r s' h => ?_
  match r, h with
  | .error e, h => exact h.elim
  | .ok .next, h => exact h.elim
  | .ok .brk, h => exact h.elim
  | .ok .cont, h => exact h.elim
  | .ok (.ret u), ⟨v, H', os, bare, un, ok', rv, hv⟩ =>
    obtain rfl : v = .bl true := hv
    obtain rfl : u = Value.bool true := rv
    have key : ∀ b o, s.heap.get? b = some o → (¬ ∃ p ∈ cs, p.2 = b) → s'.heap.get? b = some o := by
      intro b o e nb
      cases z : H b with
      | none => exact un.keep b o e z (fun k => absurd (show b ∈ ([] : List Addr) from k) List.not_mem_nil) List.not_mem_nil
      | some u =>
        rcases t.any b u z with k | ⟨rfl, _, rfl⟩
        · exact absurd k nb
        · have z2 := ok' _ _ (un.frzs _ _ _ z)
          rw [ha] at e; cases e
          exact z2.1
    have tabs : ∀ p ∈ cs, ∃ more : Array Value, s'.heap.get? p.2 = some ⟨.none, none, .fields more, #[]⟩ := by
      intro p hp
      obtain ⟨more, z⟩ := un.tbls p.2 #[] (t.tab p hp)
      exact ⟨_, ok' _ _ z⟩
    refine ⟨rfl, ⟨fun b o e => ?_, fun b o e => ?_⟩, os, bare⟩
    · by_cases hb : ∃ p ∈ cs, p.2 = b
      · obtain ⟨p, hp, rfl⟩ := hb
        obtain ⟨more, hm⟩ := tabs p hp
        rw [hT p hp] at e; cases e
        refine Or.inr (Or.inl ⟨((hC p hp).tab (hT p hp)).isCodeTable, rfl, #[], more, rfl, ?_⟩)
        rw [Array.empty_append]; exact hm
      · exact Or.inl (key b o e hb)
    · by_cases hb : ∃ p ∈ cs, p.2 = b
      · obtain ⟨p, hp, rfl⟩ := hb
        obtain ⟨more, hm⟩ := tabs p hp
        exact ⟨_, hm⟩
      · exact ⟨o, key b o e hb⟩
end
section
open Classical
variable {K : PySem.W.Frag} {a : Addr} {cs : List (Addr × Addr)} {s : Shared} {vs : List Value} {ns : List Int}
noncomputable def trkH (K : PySem.W.Frag) (cs : List (Addr × Addr)) (a : Addr) (xs : Array Value) (ys : List V) : Hp := fun b =>
  if ∃ p ∈ cs, p.2 = b then some (.tbl #[]) else if b = a ∧ K.lookup a = none then some (.frz { cls := .type "list", data := .seq xs } (.lst ys)) else none
theorem trkH_ok {P : Program} {w : World} (KX : K.In s.heap) (hT : ∀ p ∈ cs, s.heap.get? p.2 = some ⟨.none, none, .fields #[], #[]⟩) (ha : s.heap.get? a = some { cls := .type "list", data := .seq vs.toArray }) (hi : IntsAre vs ns) (hl : ns.length ≤ sizeLine) :
    Trk K s cs a vs.toArray (ns.map V.int) (trkH K cs a vs.toArray (ns.map V.int)) ∧ HOk P w (trkH K cs a vs.toArray (ns.map V.int)) s.heap := by
  have na : ¬ ∃ p ∈ cs, p.2 = a := by
    rintro ⟨p, hp, rfl⟩
    rw [hT p hp] at ha; cases ha
  have rv := vals_ints hi
  refine ⟨⟨fun p hp => if_pos ⟨p, hp, rfl⟩, ?_, fun b u e => ?_⟩, fun b u e => ?_⟩
  · cases hk : K.lookup a with
    | some o =>
      have e := KX a o hk
      rw [ha] at e; cases e
      exact Or.inr ⟨_, vs.toArray, _, hk, rfl, rfl, rfl, by rw [List.size_toArray, hi.length]; exact hl, by simpa using rv⟩
    | none => exact Or.inl (Or.inr ⟨_, (if_neg na).trans (if_pos ⟨rfl, hk⟩)⟩)
  · by_cases hb : ∃ p ∈ cs, p.2 = b
    · exact Or.inl hb
    · have e1 := (if_neg hb).symm.trans e
      by_cases hb2 : b = a ∧ K.lookup a = none
      · have e2 := (if_pos hb2).symm.trans e1
        cases e2
        exact Or.inr ⟨hb2.1, hb2.2, rfl⟩
      · have e2 := (if_neg hb2).symm.trans e1
        cases e2
  · by_cases hb : ∃ p ∈ cs, p.2 = b
    · have e1 := (if_pos hb).symm.trans e
      cases e1
      obtain ⟨p, hp, rfl⟩ := hb
      exact hT p hp
    · have e1 := (if_neg hb).symm.trans e
      by_cases hb2 : b = a ∧ K.lookup a = none
      · have e2 := (if_pos hb2).symm.trans e1
        cases e2
        obtain ⟨rfl, _⟩ := hb2
        exact ⟨ha, by rw [List.length_map]; exact hl, vs, _, rv, ha⟩
      · have e2 := (if_neg hb2).symm.trans e1
        cases e2
end
/-- what is known of a law's def at the head's heap -/
def TopAt (l : PySem.W.OpenLaw) (w : World) (K : PySem.W.Frag) (n : Nat) (y : Str) (mg : Str → Option Value) (fa : Addr) (h : Heap) : Prop :=
  ∃ (fd : FuncData) (cs : List (Addr × Addr)) (sp : Sp), (∀ p ∈ cs, h.get? p.2 = some ⟨.none, none, .fields #[], #[]⟩) ∧ (∀ p ∈ cs, K.lookup p.2 = none) ∧ (∀ p ∈ cs, PySem.W.CodeHd h p.1 p.2) ∧ (∀ (s : Shared) (u : Value), BindsTo s fd ⟨[u], []⟩ [(y, u)]) ∧
    (∀ (H : Hp) (a : Addr) (ns : List Int), ns.length ≤ n → (∀ z ∈ ns, Builtin.Int.intBits z ≤ 1048576) → (∀ p ∈ cs, H p.2 = some (.tbl #[])) → SqL K H a (ns.map V.int) → sp [.ref a] H (fun v _ => v = .bl true) fun _ _ _ => False) ∧
    ∀ base : Heap, K.In base → base.Ns mainGlobals mg → (∀ p ∈ cs, LamX.TabB base mg p.1 p.2) → TopRun l.prog w K mg base fa fd y sp
theorem walk_top {l : PySem.W.OpenLaw} {n : Nat} {q : Program} {loose : List Str} {XP : (Str → Option Value) → Heap → Prop} {YP : World → Heap → Prop} {d : DefRec} {y : Str} (hn : l.most = some n) (hn2 : n ≤ sizeLine) (hdf : d.params.defaults = [])
    (F : ∀ (w : World) (mg : Str → Option Value) (fa : Addr) (h : Heap), YP w h → h.Ns mainGlobals mg → mg d.name = some (.ref fa) → ∃ K : PySem.W.Frag, K.In h ∧ TopAt l w K n y mg fa h) :
    PySem.W.WalkO q loose XP YP l.row.toRowW d [] (fun f vs => PySem.call f vs) := by
  apply Att.attach_callB hn hdf
  intro w s0 s1 mg mb fa o pm cd doc a vs ns G Y _ _ _ hm hobj hints hlen hbits hgens
  obtain ⟨K, KX, fd, cs, sp, hT, nT, hC, hb, hsp, hF⟩ := F w mg fa _ Y G.T.g hm
  obtain ⟨tr, ok⟩ := trkH_ok (P := l.prog) (w := w) (cs := cs) KX hT hobj hints (Nat.le_trans hlen hn2)
  exact trk_call KX G.T.g G.T.b G.T.builtins G.T.nolimit hgens hT nT hC G.T.bmain hobj hF hb tr ok (hsp _ a ns hlen hbits tr.tab tr.scr)
end My

set_option Elab.async false
set_option linter.all false
set_option maxRecDepth 100000
namespace My
open PySem PySem.Spec PyProof.Rows L2 GxR

/-! ### what stays while a law goes on -/
theorem same_fr {L : Addr} {H0 H H' : Hp} (s : Same H0 H) (n0 : H0 L = none) (f : Fr L H H') : Same H0 H' := fun b o e =>
  f b o (fun z => by rw [z, n0] at e; cases e) (s b o e)
theorem sq_same {K : PySem.W.Frag} {H H' : Hp} {a : Addr} {xs : List V} (s : Same H H') (h : SqL K H a xs) : SqL K H' a xs := by
  rcases h with (h | ⟨o, h⟩) | h
  · exact .inl (.inl (s _ _ h))
  · exact .inl (.inr ⟨o, s _ _ h⟩)
  · exact .inr h
theorem same_refl (H : Hp) : Same H H := fun _ _ e => e
theorem wok_len {n : Nat} {ts : List Ar} (hW : WOk n ts) (hn : n ≤ 100) : ts.length ≤ 10000 :=
  Nat.le_trans (nd_len (m := pup n n) (nd_pw hW.1) fun t ht => (mem_pup (Nat.le_refl n)).mpr (by have := hW.2 t ht; omega)) (pup_len' hn (Nat.le_refl n))
theorem Eqd.bl {m : Nat} {H : Hp} {i : Bool} : Eqd m H (.bl i) (.bl i) := by
  cases m with
  | zero => exact ⟨rfl, .inr (.inl ⟨i, rfl⟩)⟩
  | succ m => exact .inl ⟨rfl, .inr (.inl ⟨i, rfl⟩)⟩
theorem Eqd.non {m : Nat} {H : Hp} : Eqd m H .non .non := by
  cases m with
  | zero => exact ⟨rfl, .inl rfl⟩
  | succ m => exact .inl ⟨rfl, .inl rfl⟩
theorem lst_eqd {H : Hp} {p q : Addr} {vs us : List V} {ts : List Ar} (hp : H p = some (.lst vs)) (hq : H q = some (.lst us)) (h : Ties H vs ts) (k : Ties H us ts) (l : ts.length ≤ 10000) : Eqd 2 H (.ref p) (.ref q) := by
  refine .inr ⟨p, q, vs, us, rfl, rfl, .inr ⟨hp, hq⟩, by rw [h.len, k.len], by rw [h.len]; exact l, fun i v u e f => ?_⟩
  obtain ⟨t1, e1, h1⟩ := h.at e
  obtain ⟨t2, e2, h2⟩ := k.at f
  rw [e1] at e2; cases e2
  exact tie_eqd h1 h2
theorem Eqd.up2 {m : Nat} {H : Hp} {x y : V} (h : Eqd m H x y) : Eqd (m + 2) H x y := h.up.up
theorem eqv_ties (ts : List Ar) : PyData.eqv (.list (ts.map dT)) (.list (ts.map dT)) = true := SeqAt.eqv_refl _ (can_ties ts)
theorem eqv_tiesT (ts : List Ar) : PyData.eqv (.tuple (ts.map dT)) (.tuple (ts.map dT)) = true := SeqAt.eqv_refl _ (can_ties ts)
theorem cutTo (xs : List V) (j : Nat) : cutV xs none (some (j : Int)) = xs.take j := by
  unfold cutV
  rw [HT.sIx_nat, HT.sIx_none, List.drop_zero, Nat.sub_zero]
  by_cases h : j ≤ xs.length
  · rw [Nat.min_eq_left h]
  · rw [Nat.min_eq_right (by omega), List.take_length, List.take_of_length_le (by omega)]
theorem Ties.take {H : Hp} : ∀ {vs : List V} {ts : List Ar} (j : Nat), Ties H vs ts → Ties H (vs.take j) (ts.take j)
  | _, _, 0, _ => by simp only [List.take_zero]; exact trivial
  | [], [], _ + 1, _ => trivial
  | _ :: _, _ :: _, j + 1, h => ⟨h.1, Ties.take j h.2⟩
  | [], _ :: _, _ + 1, h => h.elim
  | _ :: _, [], _ + 1, h => h.elim
theorem Ties.mem {H : Hp} {vs : List V} {ts : List Ar} {i : Nat} {v : V} (h : Ties H vs ts) (e : vs[i]? = some v) : ∃ t, t ∈ ts ∧ Tie H v t := by
  obtain ⟨t, e1, h1⟩ := h.at e
  exact ⟨t, List.mem_of_getElem? e1, h1⟩

theorem nd_get {qs : List Addr} (nd : qs.Nodup) {i j : Nat} {q : Addr} (h1 : qs[i]? = some q) (h2 : qs[j]? = some q) : i = j := by
  obtain ⟨li, ei⟩ := List.getElem?_eq_some_iff.mp h1
  obtain ⟨lj, ej⟩ := List.getElem?_eq_some_iff.mp h2
  have pw := List.pairwise_iff_getElem.mp (List.nodup_iff_pairwise_ne.mp nd)
  rcases Nat.lt_trichotomy i j with z | z | z
  · exact absurd (ei.trans ej.symm) (pw _ _ li lj z)
  · exact z
  · exact absurd (ej.trans ei.symm) (pw _ _ lj li z)
theorem same_free {H H' : Hp} {p : Addr} (s : Same H H') (h : H' p = none) : H p = none := by
  cases z : H p with
  | none => rfl
  | some o => rw [s _ _ z] at h; cases h
theorem neI (a b : Int) : (!decide (V.int a = V.int b)) = !decide (a = b) := congrArg (! ·) (decide_eq_decide.mpr ⟨fun e => V.int.inj e, fun e => congrArg V.int e⟩)
theorem natOf {a : Int} (h : 0 ≤ a) : ∃ k : Nat, a = (k : Int) := ⟨a.toNat, (Int.toNat_of_nonneg h).symm⟩
/-! ### a web as a text -/
def dW (n : Nat) (ts : List Ar) : PyData := .tuple [.int (n : Int), .tuple (ts.map dT)]
theorem Web.dp {K : PySem.W.Frag} {H : Hp} {v : V} {n : Nat} {ts : List Ar} (h : Web H v n ts) : Dp K H v (dW n ts) := by
  obtain ⟨p, q, vs, rfl, h1, h2, h3⟩ := h
  exact .tup (SqT.of h1) (.cons (.int _) (.cons (.tup (SqT.of h2) h3.dp) .nil))
theorem log_small {i : Int} (h0 : 0 ≤ i) (h : i < 100) : decide (i.natAbs.log2 < 1920) = true := by
  refine decide_eq_true ?_
  have : i.natAbs.log2 ≤ i.natAbs := Nat.log2_le_self _
  omega
theorem show_ties {n : Nat} {ts : List Ar} (hn : n ≤ 100) (hR : ∀ t ∈ ts, InR n t) : PyData.showableAll (ts.map dT) = true ∧ PyData.hasDictAll (ts.map dT) = false := by
  induction ts with
  | nil => exact ⟨rfl, rfl⟩
  | cons t l ih =>
    obtain ⟨i1, i2⟩ := ih fun x hx => hR x (List.mem_cons_of_mem _ hx)
    obtain ⟨a1, a2, a3, a4⟩ := hR t List.mem_cons_self
    rw [List.map_cons, PyData.showableAll, PyData.hasDictAll, i1, i2]
    constructor
    · show (PyData.showableAll [.int t.1, .int t.2] && true) = true
      rw [PyData.showableAll, PyData.showableAll, PyData.showableAll, PyData.showable, PyData.showable, log_small a1 (by omega), log_small a3 (by omega)]; rfl
    · rfl
theorem txt_small : ∀ k : Nat, k < 100 → ((toString ((k : Nat) : Int) : String) : Str).length ≤ 2 := by decide +kernel
theorem txt_len {i : Int} (h0 : 0 ≤ i) (h : i < 100) : ((toString i : String) : Str).length ≤ 2 := by
  obtain ⟨k, rfl⟩ : ∃ k : Nat, i = (k : Int) := ⟨i.toNat, (Int.toNat_of_nonneg h0).symm⟩
  exact txt_small k (by omega)
theorem tupleText_len (l : List Str) : (tupleText l).length ≤ piled l + 3 := by
  unfold tupleText
  rw [strLen_append, strLen_append]
  have e1 : ((("(" : String) : Str)).length = 1 := rfl
  have e3 : (((if l.length == 1 then ",)" else ")" : String) : Str)).length ≤ 2 := by split <;> decide
  rw [e1]
  by_cases h : l = []
  · subst h
    have : (Str.join ", " []).length = 0 := rfl
    omega
  · have := join_length_add l h
    omega
theorem shown_ties {n : Nat} {ts : List Ar} (hn : n ≤ 100) (hR : ∀ t ∈ ts, InR n t) : piled (PyData.shownAll (ts.map dT)) ≤ 13 * ts.length := by
  induction ts with
  | nil => exact Nat.le_refl _
  | cons t l ih =>
    have i1 := ih fun x hx => hR x (List.mem_cons_of_mem _ hx)
    obtain ⟨a1, a2, a3, a4⟩ := hR t List.mem_cons_self
    rw [List.map_cons, PyData.shownAll, piled_cons, List.length_cons]
    have h1 := tupleText_len (PyData.shownAll [.int t.1, .int t.2])
    rw [PyData.shownAll, PyData.shownAll, PyData.shownAll, piled_cons, piled_cons, piled_nil, PyData.shown, PyData.shown] at h1
    have h2 := txt_len a1 (by omega)
    have h3 := txt_len a3 (by omega)
    have h4 : (dT t).shown = tupleText [((toString t.1 : String) : Str), ((toString t.2 : String) : Str)] := by
      unfold dT
      rw [PyData.shown, PyData.shownAll, PyData.shownAll, PyData.shownAll, PyData.shown, PyData.shown]
    rw [h4]
    omega
theorem web_show {n : Nat} {ts : List Ar} (hW : WOk n ts) (hn : n ≤ 12) (hl : ts.length ≤ 10000) : (dW n ts).showable = true ∧ (dW n ts).hasDict = false ∧ (dW n ts).depth ≤ 50 ∧ (dW n ts).shown.length ≤ sizeLine := by
  have hR : ∀ t ∈ ts, InR n t := fun t ht => by
    have := hW.2 t ht
    exact ⟨this.1, by omega, by omega, this.2.2⟩
  obtain ⟨s1, s2⟩ := show_ties (n := n) (by omega) hR
  have s3 := shown_ties (n := n) (by omega) hR
  have s4 := dep_ties ts
  refine ⟨?_, ?_, ?_, ?_⟩
  · unfold dW
    rw [PyData.showable, PyData.showableAll, PyData.showableAll, PyData.showableAll, PyData.showable, PyData.showable, s1, log_small (by omega) (by omega)]; rfl
  · unfold dW
    rw [PyData.hasDict, PyData.hasDictAll, PyData.hasDictAll, PyData.hasDictAll, PyData.hasDict, PyData.hasDict, s2]; rfl
  · unfold dW
    rw [PyData.depth, PyData.depthAll, PyData.depthAll, PyData.depthAll, PyData.depth, PyData.depth]
    omega
  · unfold dW
    rw [PyData.shown, PyData.shownAll, PyData.shownAll, PyData.shownAll, PyData.shown, PyData.shown]
    have h1 := tupleText_len [((toString (n : Int) : String) : Str), tupleText (PyData.shownAll (ts.map dT))]
    rw [piled_cons, piled_cons, piled_nil] at h1
    have h2 := tupleText_len (PyData.shownAll (ts.map dT))
    have h3 := txt_len (i := (n : Int)) (by omega) (by omega)
    have h4 : 200000 ≤ sizeLine := by decide
    omega
/-- what str tells of a web -/
theorem web_str {K : PySem.W.Frag} {H : Hp} {v : V} {n : Nat} {ts : List Ar} {Q : VK} (h : Web H v n ts) (hW : WOk n ts) (hn : n ≤ 12) (hl : ts.length ≤ 10000) (q : Q (.str (dW n ts).shown) H) : rStrD K [v] H Q := by
  obtain ⟨s1, s2, s3, s4⟩ := web_show hW hn hl
  have hd := h.dp (K := K)
  obtain ⟨p, q', vs, rfl, _⟩ := h
  exact ⟨p, _, rfl, hd, s1, s2, s3, s4, q⟩
end My

set_option Elab.async false
set_option linter.all false
set_option maxRecDepth 100000
namespace My
open PySem PySem.Spec PyProof.Rows L2 GxR
/-! ### one table -/
theorem frm_tst {PT : Addr} {H H' : Hp} (s : FrM [PT] H H') (tg : TabG H PT) : Tst H H' := fun b xs e => by
  refine s b _ (fun z => ?_) e
  obtain ⟨ps, h1, _⟩ := tg
  rw [List.mem_singleton.mp z, h1] at e; cases e
theorem frm_lst {PT p : Addr} {H H' : Hp} {xs : List V} (s : FrM [PT] H H') (tg : TabG H PT) (e : H p = some (.lst xs)) : H' p = some (.lst xs) := by
  refine s p _ (fun z => ?_) e
  obtain ⟨ps, h1, _⟩ := tg
  rw [List.mem_singleton.mp z, h1] at e; cases e
theorem tab_same {H H' : Hp} {PT : Addr} (h : TabG H PT) (s : Same H H') : TabG H' PT := by
  obtain ⟨ps, h1, h2⟩ := h
  exact ⟨ps, s _ _ h1, h2⟩
structure St1 (PT : Addr) (H0 H : Hp) : Prop where
  fr : FrM [PT] H0 H
  tg : TabG H PT
theorem St1.same {PT : Addr} {H0 H H' : Hp} (h : St1 PT H0 H) (s : Same H H') : St1 PT H0 H' := ⟨h.fr.trans (FrM.same s), tab_same h.tg s⟩
theorem St1.tab {PT : Addr} {H0 H H' : Hp} (h : St1 PT H0 H) (s : FrM [PT] H H') (t : TabG H' PT) : St1 PT H0 H' := ⟨h.fr.trans s, t⟩
theorem St1.free {PT p : Addr} {H0 H : Hp} (h : St1 PT H0 H) (e : H p = none) : H0 p = none := by
  cases z : H0 p with
  | none => rfl
  | some o =>
    exfalso
    by_cases hp : p = PT
    · obtain ⟨ps, h1, _⟩ := h.tg
      rw [hp, h1] at e; cases e
    · rw [h.fr p o (fun w => hp (List.mem_singleton.mp w)) z] at e; cases e
theorem St1.frL {PT L : Addr} {H0 H H' : Hp} {c : Int} (h : St1 PT H0 H) (lf : Lf H L c) (n0 : H0 L = none) (f : Fr L H H') : St1 PT H0 H' := by
  obtain ⟨x, y, z, e, _⟩ := lf
  obtain ⟨ps, h1, h2⟩ := h.tg
  have nP : PT ≠ L := fun w => by rw [w, e] at h1; cases h1
  exact ⟨fun b o nb eb => f b o (fun w => by rw [w, n0] at eb; cases eb) (h.fr b o nb eb), ⟨ps, f _ _ nP h1, h2⟩⟩
theorem St1.sq {K : PySem.W.Frag} {PT a : Addr} {H0 H : Hp} {xs : List V} (h0 : TabG H0 PT) (h : St1 PT H0 H) (e : SqL K H0 a xs) : SqL K H a xs := by
  obtain ⟨ps, p1, _⟩ := h0
  have k : ∀ {o : HO}, H0 a = some o → (∀ ps, o ≠ .tbl ps) → H a = some o := fun {o} ea nb => by
    refine h.fr a o (fun z => ?_) ea
    rw [List.mem_singleton.mp z, p1] at ea; cases ea; exact nb _ rfl
  rcases e with (e | ⟨o, e⟩) | e
  · exact .inl (.inl (k e fun _ z => by cases z))
  · exact .inl (.inr ⟨o, k e fun _ z => by cases z⟩)
  · exact .inr e
theorem lf_tab {PT L : Addr} {H H' : Hp} {c : Int} (lf : Lf H L c) (s : FrM [PT] H H') (tg : TabG H PT) : Lf H' L c := by
  obtain ⟨x, y, z, e, h⟩ := lf
  obtain ⟨ps, h1, _⟩ := tg
  refine ⟨x, y, z, s _ _ (fun w => ?_) e, h⟩
  rw [List.mem_singleton.mp w, h1] at e; cases e
/-! one table, and what stands beside it -/
theorem St1.refl {PT : Addr} {H : Hp} (t : TabG H PT) : St1 PT H H := ⟨FrM.refl _ _, t⟩
theorem St1.trans {PT : Addr} {H0 H1 H2 : Hp} (a : St1 PT H0 H1) (b : St1 PT H1 H2) : St1 PT H0 H2 := ⟨a.fr.trans b.fr, b.tg⟩
theorem tab_ne {PT p : Addr} {H : Hp} {xs : List V} (t : TabG H PT) (e : H p = some (.lst xs)) : p ≠ PT := fun z => by
  obtain ⟨ps, h1, _⟩ := t
  rw [z, h1] at e; cases e
theorem St1.put {PT p : Addr} {H0 H : Hp} {o : HO} {xs : List V} (h : St1 PT H0 H) (e : H0 p = none) (e2 : H p = some (.lst xs)) : St1 PT H0 (upd H p o) := by
  obtain ⟨ps, h1, h2⟩ := h.tg
  exact ⟨h.fr.putN e, ps, by rw [upd_ne (Ne.symm (tab_ne h.tg e2))]; exact h1, h2⟩
theorem St1.new {PT p : Addr} {H0 H : Hp} {o : HO} (h : St1 PT H0 H) (e : H p = none) : St1 PT H0 (upd H p o) := h.same (same_new e)
theorem St1.lst {PT p : Addr} {H0 H : Hp} {xs : List V} (h : St1 PT H0 H) (t : TabG H0 PT) (e : H0 p = some (.lst xs)) : H p = some (.lst xs) := frm_lst h.fr t e
theorem St1.tst {PT : Addr} {H0 H : Hp} (h : St1 PT H0 H) (t : TabG H0 PT) : Tst H0 H := frm_tst h.fr t
end My

set_option Elab.async false
set_option linter.all false
set_option maxRecDepth 100000
namespace My
open PySem PySem.Spec PyProof.Rows L2 GxR

/-! ### sorted(d), d a dict whose keys are pairs -/
theorem kt_ties {H : Hp} {kvs : List (List Key × V)} {xs : List (List Key × Addr × Value)} (r : KT H kvs xs) : ∀ {cs : List (Int × Int)}, kvs.map (·.1) = cs.map pk → Ties H (xs.map fun x => V.ref x.2.1) cs := by
  induction r with
  | nil =>
    intro cs e
    cases cs with
    | nil => exact trivial
    | cons c cs => cases e
  | cons h t ih =>
    rename_i p q l m
    intro cs e
    cases cs with
    | nil => cases e
    | cons c cs =>
      rw [List.map_cons, List.map_cons] at e
      obtain ⟨e1, e2⟩ := List.cons.inj e
      refine ⟨⟨q.2.1, rfl, ?_⟩, ih e2⟩
      rw [h.2.1, e1]; rfl
section
variable {X : Cx}
/-- what sorted does behind the collecting -/
theorem sort_rest {pins : List (Addr × Obj)} {σ : L2.St} {H : Hp} {s : Shared} {L : List Value} {cs : List (Int × Int)} {R : PySem.Fin → Shared → Prop} {E : Value → Shared → Prop} (I1 : Inv X pins σ H s) (hT : Ties H (L.map backV) cs) (rf : ∀ v ∈ L, ∃ b, v = Value.ref b) (hLz : L.length ≤ sizeLine)
    (hR : ∀ (p : Addr) (s' : Shared) (ys : List V) (ts : List (Int × Int)), Ties H ys ts → ts.Perm cs → ts.Pairwise (fun s t => ¬ ltT t s) → H p = none → Inv X pins σ (upd H p (.lst ys)) s' → R (.done (.ret (.ref p))) s') :
    wpAny (model X.prog X.w) X.A.in1 (newList L >>= fun l => holding [l] (call (.builtin "list.sort") [l]) >>= fun _ => ret l) R E s := by
  refine wpAny_bind (wpAny_newList ?_ hLz)
  have at0 : (s.heap.push (seqObj "list" L.toArray 0)).get? s.heap.objs.size = some (seqObj "list" L.toArray 0) := Heap.get?_push_size _ rfl
  have pr : ∀ v ∈ L, Srt.IsPair s.heap v (My.key H (backV v)).1 (My.key H (backV v)).2 := fun v hv => by
    have hb := hT.all (backV v) (List.mem_map.mpr ⟨v, hv, rfl⟩)
    obtain ⟨b, rfl⟩ := rf v hv
    obtain ⟨b', e, hb⟩ := hb
    cases e
    obtain ⟨_, its, r2, o2, ho2, hc2, n2, hd2⟩ := I1.hok _ _ hb
    obtain ⟨u1, u2, rfl, ⟨t1, rfl⟩, ⟨t2, rfl⟩⟩ := vals2 r2
    exact ⟨b, o2, t1, t2, n2, rfl, ho2, hc2, hd2⟩
  show wpAny _ _ _ _ _ { s with heap := s.heap.push (seqObj "list" L.toArray 0) }
  refine wpAny_bind (wpAny_holding (wpAny_call_entry PyProof.Rows.slot_list_sort ⟨_, at0, rfl⟩ PyProof.Rows.entry_list_sort (SrtO.list_sort_ord (s := { s with heap := s.heap.push (seqObj "list" L.toArray 0) }) (SrtO.swo_lex fun v => My.key H (backV v)) at0 hLz (fun h2 => ?_) fun out hs hb => ⟨_, rfl, ?_⟩) (PyProof.Rows.args_list_sort _)))
  · refine SrtO.pairs_sortableO (s := { s with heap := s.heap.push (seqObj "list" L.toArray 0) }) (k := fun v => My.key H (backV v)) (by omega) (fun v hv => (pr v hv).keeps fun b o e _ => Heap.get?_push_of_some _ e) fun o e => ?_
    have e' := e.symm.trans at0
    cases e'
    intro c
    exact absurd (Value.type.inj c) (by decide)
  · obtain ⟨e', he'⟩ := PyProof.Rows.sortedHeap_at (vs := L) (out := out.toArray) at0
    have ro : ∀ v ∈ out, ∃ b, v = Value.ref b := fun v hv => rf v (hb.perm.mem_iff.mp hv)
    have hs' : SrtO.Srtd (ltP (My.key H)) (out.map backV) := SrtO.srtd_map hs
    obtain ⟨ts, h1, h2, h3⟩ := srt_ties hs' (hb.perm.map backV) hT
    refine wpAny_pure (hR s.heap.objs.size _ _ ts h1 h2 h3 (I1.hok.fresh (Nat.le_refl _)) (I1.laid (t' := s.toks) (fun b ob e => ?_) (Nat.le_refl _) ⟨?_, out, e', vals_back ro, he'⟩))
    · have hlt : b < s.heap.objs.size := Heap.lt_size e
      rw [PyProof.Rows.sortedHeap_old (Nat.ne_of_lt hlt) (by rw [Heap.size_push]; exact Nat.lt_succ_of_lt hlt)]
      exact Heap.get?_push_of_some _ e
    · rw [List.length_map, hb.perm.length_eq]; exact hLz
end
def rSortedDT : List V → Hp → VK → Prop := fun vs H Q => ∃ (a : Addr) (kvs : List (List Key × V)) (cs : List (Int × Int)), vs = [.ref a] ∧ H a = some (.dT kvs) ∧ kvs.map (·.1) = cs.map pk ∧
  ∀ ys p ts, Ties H ys ts → ts.Perm cs → ts.Pairwise (fun s t => ¬ ltT t s) → H p = none → Q (.ref p) (upd H p (.lst ys))
def rSortedTT (K : PySem.W.Frag) : List V → Hp → VK → Prop := fun vs H Q => ∃ (a : Addr) (us : List V) (cs : List (Int × Int)), vs = [.ref a] ∧ SqT K H a us ∧ Ties H us cs ∧
  ∀ ys p ts, Ties H ys ts → ts.Perm cs → ts.Pairwise (fun s t => ¬ ltT t s) → H p = none → Q (.ref p) (upd H p (.lst ys))
section
variable {X : Cx}
theorem call_sortedDT (hc : X.calm = true) : CallR X (.builtin "sorted") rSortedDT := by
  rintro pins s σ H vs us Q I r ⟨a, kvs, cs, rfl, ha, hk, q⟩
  obtain ⟨u, rfl, ru⟩ := vals1 r
  obtain rfl : u = Value.ref a := ru
  obtain ⟨z, lo, xs, rel, o, es, ep, ho, hex, hdat, hes, his, hnd⟩ := dt_of I.hok ha
  have hsz : es.size = xs.length := size_of_entries hes
  have hlen : kvs.length = xs.length := Paired.length rel
  obtain ⟨L, hL⟩ : ∃ L : List Value, L = xs.map fun x => Value.ref x.2.1 := ⟨_, rfl⟩
  have hLl : L.length = xs.length := by rw [hL, List.length_map]
  have hback : L.map backV = xs.map fun x => V.ref x.2.1 := by
    rw [hL, List.map_map]; rfl
  have hT : Ties H (L.map backV) cs := by rw [hback]; exact kt_ties rel hk
  refine Calls.call_function_entry PyProof.Rows.kind_sorted PyProof.Rows.plain_sorted PyProof.Rows.entry_sorted (PyProof.Rows.args_sorted1 _) (?_ : wpAny _ _ (Builtin.«sorted» ⟨[.ref a], []⟩) _ _ s)
  unfold Builtin.«sorted»
  refine wpAny_bind (m := checkCount "sorted" 1 1 _) (wpAny_pure (wpAny_bind (PySem.W.kdu_collect (A := X.A.in1) (PySem.KdlSrc.rawDict (es := es) (ep := ep) lo) (I.ok.hd hc) ⟨o, ho, hex, hdat⟩ (by rw [hsz, ← hlen]; exact z) fun h' tk acc kp hacc => ?_)))
  have hA : acc.toList = L := by
    refine List.ext_getElem? fun j => ?_
    rw [hL, List.getElem?_map]
    by_cases hj : j < xs.length
    · have hj2 : j < acc.size := by rw [hacc.1, hsz]; exact hj
      obtain ⟨hi, e⟩ := hacc.2 j acc[j] (Array.getElem?_eq_getElem hj2)
      have e1 := entry_at hes j
      rw [Array.getElem?_eq_getElem hi, List.getElem?_eq_getElem hj] at e1
      have e2 := Option.some.inj e1
      rw [Array.getElem?_toList, Array.getElem?_eq_getElem hj2, e, e2, List.getElem?_eq_getElem hj]; rfl
    · rw [List.getElem?_eq_none (l := acc.toList) (by rw [Array.length_toList, hacc.1, hsz]; omega), List.getElem?_eq_none (l := xs) (by omega)]; rfl
  rw [hA]
  refine sort_rest (I.kept kp) hT (fun v hv => ?_) (by rw [hLl, ← hlen]; exact z) fun p s' ys ts h1 h2 h3 np J => ⟨_, rfl, .ref p, _, J, rfl, q ys p ts h1 h2 h3 np⟩
  rw [hL] at hv
  obtain ⟨x, _, rfl⟩ := List.mem_map.mp hv
  exact ⟨_, rfl⟩
theorem collect_tup {prog : Program} {w : World} {A : Around} {E : Value → Shared → Prop} {s : Shared} {l : Addr} {vs : List Value} {Q : List Value → Shared → Prop} (hl : IsTup s.heap l vs.toArray) (hsz : vs.length ≤ sizeLine)
    (h : ∀ h', (∀ b o, s.heap.get? b = some o → h'.get? b = some o) → Q vs { s with heap := h' }) : wpAny (model prog w) A (collect (.ref l)) Q E s := by
  obtain ⟨o, ho, hc, n, hd⟩ := id hl
  have up : (s.heap.push (seqObj "list" #[] 0)).get? l = some o := Heap.get?_push_of_some _ ho
  have me : (s.heap.push (seqObj "list" #[] 0)).get? s.heap.objs.size = some (seqObj "list" #[] 0) := Heap.get?_push_size _ rfl
  unfold collect
  refine wpAny_bind (wpAny_runValue (codeAny_builtin entry_proto_collect' (?_ : wpAny _ _ (do again (.builtin "list.__iadd__" ⟨[← newList [], .ref l], []⟩)) _ _ s)))
  refine wpAny_bind (wpAny_newList (wpAny_pure ⟨Code.quiet_builtin _ (by decide +kernel), codeAny_builtin entry_list_iadd' (?_ : wpAny _ _ (Builtin.List.listExtendWith (.ref s.heap.objs.size) (.ref l) (.ref s.heap.objs.size)) _ _ { s with heap := s.heap.push (seqObj "list" #[] 0) })⟩))
  unfold Builtin.List.listExtendWith
  refine wpAny_bind (wpAny_typeOf (T := "tuple") ⟨o, up, hc⟩ ?_)
  have tt : (Value.type "tuple" == Value.type "tuple") = true := rfl
  rw [if_pos (by rw [tt]; simp)]
  refine wpAny_bind (listItems_at up hd (wpAny_bind (listItems_at me rfl ?_)))
  rw [if_neg (by simp)]
  refine wpAny_bind (listUpdate_at me rfl (wpAny_pure ?_) (Nat.zero_le _) (by show (#[] ++ vs.toArray).size ≤ sizeLine + 1; simp only [Array.size_append, List.size_toArray, List.length_nil]; omega))
  show wpAny (model prog w) A (load s.heap.objs.size >>= fun o => match o.data with | .seq xs _ => pure xs.toList | _ => unsupported "internal:collect") Q E { s with heap := (s.heap.push (seqObj "list" #[] 0)).update s.heap.objs.size (Obj.mapSeq (· ++ vs.toArray)) }
  refine wpAny_bind (wpAny_load (get?_update_seq me _) (?_ : wpAny _ _ (pure ((#[] : Array Value) ++ vs.toArray).toList) Q E _))
  rw [show ((#[] : Array Value) ++ vs.toArray).toList = vs by simp]
  refine wpAny_pure (h _ fun b ob e => ?_)
  rw [Heap.get?_update_ne _ _ _ _ (Nat.ne_of_lt (Heap.lt_size e))]
  exact Heap.get?_push_of_some _ e
theorem back_refs {H : Hp} : ∀ {us : List V} {its : List Value} {cs : List (Int × Int)}, Vals us its → Ties H us cs → its.map backV = us ∧ ∀ v ∈ its, ∃ b, v = Value.ref b
  | _, _, _, .nil, _ => ⟨rfl, fun v hv => absurd hv List.not_mem_nil⟩
  | _ :: _, _ :: _, [], .cons _ _, h => h.elim
  | _ :: _, _ :: _, _ :: _, .cons r t, h => by
    obtain ⟨i1, i2⟩ := back_refs t h.2
    obtain ⟨p, rfl, _⟩ := h.1
    cases r
    refine ⟨by rw [List.map_cons, i1]; rfl, fun v hv => ?_⟩
    rcases List.mem_cons.mp hv with rfl | hv
    · exact ⟨_, rfl⟩
    · exact i2 v hv
theorem call_sortedTT : CallR X (.builtin "sorted") (rSortedTT X.K) := by
  rintro pins s σ H vs us Q I r ⟨a, ws, cs, rfl, ha, hT, q⟩
  obtain ⟨u, rfl, ru⟩ := vals1 r
  obtain rfl : u = Value.ref a := ru
  obtain ⟨its, rv, ht, hz⟩ := I.tuple ha
  obtain ⟨b1, b2⟩ := back_refs rv hT
  refine Calls.call_function_entry PyProof.Rows.kind_sorted PyProof.Rows.plain_sorted PyProof.Rows.entry_sorted (PyProof.Rows.args_sorted1 _) (?_ : wpAny _ _ (Builtin.«sorted» ⟨[.ref a], []⟩) _ _ s)
  unfold Builtin.«sorted»
  have hz' : its.length ≤ sizeLine := by rw [← rv.length]; exact hz
  refine wpAny_bind (m := checkCount "sorted" 1 1 _) (wpAny_pure (wpAny_bind (collect_tup ht hz' fun h' kp => ?_)))
  exact sort_rest (I.kept (t' := s.toks) kp) (by rw [b1]; exact hT) b2 hz' fun p s' ys ts h1 h2 h3 np J => ⟨_, rfl, .ref p, _, J, rfl, q ys p ts h1 h2 h3 np⟩
end
end My

set_option Elab.async false
set_option linter.all false
set_option maxRecDepth 100000
namespace My
open PySem PySem.Spec PyProof.Rows L2 GxR
/-! ### lists of numbers as data -/
def dI (ns : List Int) : PyData := .list (ns.map PyData.int)
theorem dpI {K : PySem.W.Frag} {H : Hp} : ∀ ns : List Int, DpAll K H (ns.map V.int) (ns.map PyData.int)
  | [] => .nil
  | _ :: ns => .cons (.int _) (dpI ns)
theorem shaped_dI (ns : List Int) : SeqAt.shaped (dI ns) = true := by
  unfold SeqAt.shaped dI
  rw [Bool.and_eq_true, decide_eq_true_eq]
  constructor
  · show PyData.canLayAll0 _ = true
    induction ns with
    | nil => rfl
    | cons a l ih => rw [List.map_cons, PyData.canLayAll0, ih]; rfl
  · show PyData.depthAll _ + 1 ≤ 64
    have : PyData.depthAll (ns.map PyData.int) = 0 := by
      induction ns with
      | nil => rfl
      | cons a l ih => rw [List.map_cons, PyData.depthAll, ih]; rfl
    omega
theorem eqv_dI (ns : List Int) : PyData.eqv (dI ns) (dI ns) = true := by
  show PyData.eqvAll (ns.map PyData.int) (ns.map PyData.int) = true
  induction ns with
  | nil => rfl
  | cons a l ih =>
    rw [List.map_cons]
    show ((a == a) && PyData.eqvAll (l.map PyData.int) (l.map PyData.int)) = true
    rw [ih, beq_self_eq_true]; rfl
theorem cutFrom (xs : List V) (j : Nat) : cutV xs (some (j : Int)) none = xs.drop j := by
  unfold cutV
  rw [HT.sIx_nat, HT.sIx_none]
  by_cases h : j ≤ xs.length
  · rw [Nat.min_eq_left h, ← List.length_drop, List.take_length]
  · rw [Nat.min_eq_right (by omega), Nat.sub_self, List.take_zero, List.drop_eq_nil_of_le (by omega)]
/-! ### lists of lists of arrows as data -/
def dL (c : List Ar) : PyData := .list (c.map dT)
theorem can_lists (cls : List (List Ar)) : PyData.canLayAll0 (cls.map dL) = true := by
  induction cls with
  | nil => rfl
  | cons a l ih =>
    rw [List.map_cons, PyData.canLayAll0, ih]
    have : (dL a).canLay0 = true := can_ties a
    rw [this]; rfl
theorem dep_lists (cls : List (List Ar)) : PyData.depthAll (cls.map dL) ≤ 2 := by
  induction cls with
  | nil => exact Nat.zero_le _
  | cons a l ih =>
    rw [List.map_cons, PyData.depthAll]
    have : (dL a).depth ≤ 2 := by
      show PyData.depthAll (a.map dT) + 1 ≤ 2
      have := dep_ties a
      omega
    omega
theorem shaped_lists (cls : List (List Ar)) : SeqAt.shaped (.list (cls.map dL)) = true := by
  unfold SeqAt.shaped
  rw [Bool.and_eq_true, decide_eq_true_eq]
  refine ⟨can_lists cls, ?_⟩
  show PyData.depthAll _ + 1 ≤ 64
  have := dep_lists cls
  omega
theorem any_dL {cls : List (List Ar)} {c : List Ar} (h : c ∈ cls) : ((cls.map dL).any fun z => PyData.eqv z (dL c)) = true :=
  List.any_eq_true.mpr ⟨dL c, List.mem_map.mpr ⟨c, h, rfl⟩, eqv_ties c⟩
end My

set_option Elab.async false
set_option linter.all false
set_option maxRecDepth 100000
namespace My
open PySem PySem.Spec PyProof.Rows L2 GxR
/-! the least module of some places: closed under what parts it -/
def adjB (ts : List (Int × Int)) (a b : Int) : Bool := decide (tieO a b ∈ ts)
def partsB (ts : List (Int × Int)) (S : List Int) (p : Int) : Bool := (S.map (adjB ts p)).any id && !((S.map (adjB ts p)).all id)
theorem parts_iff {ts : List (Int × Int)} {S : List Int} {p : Int} : partsB ts S p = true ↔ (∃ a ∈ S, adjB ts p a = true) ∧ ∃ b ∈ S, adjB ts p b = false := by
  unfold partsB
  rw [Bool.and_eq_true, List.any_eq_true, Bool.not_eq_true', List.all_eq_false]
  constructor
  · rintro ⟨⟨x, hx, e⟩, y, hy, f⟩
    obtain ⟨a, ha, rfl⟩ := List.mem_map.mp hx
    obtain ⟨b, hb, rfl⟩ := List.mem_map.mp hy
    exact ⟨⟨a, ha, e⟩, b, hb, Bool.eq_false_iff.mpr f⟩
  · rintro ⟨⟨a, ha, e⟩, b, hb, f⟩
    exact ⟨⟨_, List.mem_map_of_mem ha, e⟩, _, List.mem_map_of_mem hb, Bool.eq_false_iff.mp f⟩
theorem parts_mono {ts : List (Int × Int)} {S M : List Int} {p : Int} (h : ∀ x ∈ S, x ∈ M) (e : partsB ts S p = true) : partsB ts M p = true := by
  obtain ⟨⟨a, ha, e1⟩, b, hb, e2⟩ := parts_iff.mp e
  exact parts_iff.mpr ⟨⟨a, h a ha, e1⟩, b, h b hb, e2⟩
/-- no place of the web parts M -/
def Clo (n : Nat) (ts : List (Int × Int)) (M : List Int) : Prop := ∀ p : Int, 0 ≤ p → p < n → p ∉ M → partsB ts M p = false
/-- reached from the places S0 by what parts -/
structure Lm (n : Nat) (ts : List (Int × Int)) (S0 ks : List Int) : Prop where
  sub : ∀ x ∈ S0, x ∈ ks
  rng : ∀ x ∈ ks, 0 ≤ x ∧ x < (n : Int)
  nd : ks.Nodup
  low : ∀ M, Clo n ts M → (∀ x ∈ S0, x ∈ M) → ∀ x ∈ ks, x ∈ M
/-- the least module of S0, rising -/
structure Least (n : Nat) (ts : List (Int × Int)) (S0 L : List Int) : Prop where
  lm : Lm n ts S0 L
  clo : Clo n ts L
  rise : L.Pairwise (· < ·)
def newP (n : Nat) (ts : List (Int × Int)) (ks : List Int) (i : Nat) : List Int := (up i).filter fun p => decide (p ∉ ks) && partsB ts ks p
theorem newP_step (n : Nat) (ts : List (Int × Int)) (ks : List Int) (i : Nat) : newP n ts ks (i + 1) = newP n ts ks i ++ (if (decide ((i : Int) ∉ ks) && partsB ts ks (i : Int)) = true then [(i : Int)] else []) := by
  unfold newP
  rw [up_succ, List.filter_append, List.filter_cons]
  rfl
theorem lm_more {n : Nat} {ts : List (Int × Int)} {S0 ks : List Int} (h : Lm n ts S0 ks) : Lm n ts S0 (ks ++ newP n ts ks n) := by
  have mm : ∀ x, x ∈ newP n ts ks n → (0 ≤ x ∧ x < (n : Int)) ∧ x ∉ ks ∧ partsB ts ks x = true := fun x hx => by
    obtain ⟨a, b⟩ := List.mem_filter.mp hx
    rw [Bool.and_eq_true] at b
    exact ⟨mem_up.mp a, of_decide_eq_true b.1, b.2⟩
  refine ⟨fun x hx => List.mem_append_left _ (h.sub x hx), fun x hx => ?_, ?_, fun M hM hS x hx => ?_⟩
  · rcases List.mem_append.mp hx with z | z
    · exact h.rng x z
    · exact (mm x z).1
  · rw [List.nodup_append]
    exact ⟨h.nd, (up_nodup n).filter _, fun a ha b hb e => (mm b hb).2.1 (e ▸ ha)⟩
  · rcases List.mem_append.mp hx with z | z
    · exact h.low M hM hS x z
    · obtain ⟨⟨a, b⟩, c, d⟩ := mm x z
      by_cases hx : x ∈ M
      · exact hx
      · have := hM x a b hx
        rw [parts_mono (h.low M hM hS) d] at this
        cases this
theorem lm_clo {n : Nat} {ts : List (Int × Int)} {ks : List Int} (e : newP n ts ks n = []) : Clo n ts ks := fun p a b c => by
  cases hh : partsB ts ks p with
  | false => rfl
  | true =>
    have : p ∈ newP n ts ks n := List.mem_filter.mpr ⟨mem_up.mpr ⟨a, b⟩, by rw [hh, decide_eq_true c]; rfl⟩
    rw [e] at this; cases this
theorem parts_congr {ts : List (Int × Int)} {S M : List Int} {p : Int} (h : ∀ x, x ∈ S ↔ x ∈ M) : partsB ts S p = partsB ts M p := by
  cases e : partsB ts M p with
  | true => exact parts_mono (fun x hx => (h x).mpr hx) e
  | false =>
    cases e' : partsB ts S p with
    | false => rfl
    | true => rw [parts_mono (fun x hx => (h x).mp hx) e'] at e; cases e
theorem least_of {n : Nat} {ts : List (Int × Int)} {S0 ks ys : List Int} (h : Lm n ts S0 ks) (c : Clo n ts ks) (p : ys.Perm ks) (r : ys.Pairwise (· ≤ ·)) : Least n ts S0 ys := by
  have hm : ∀ x, x ∈ ys ↔ x ∈ ks := fun x => p.mem_iff
  have nd : ys.Nodup := p.nodup_iff.mpr h.nd
  refine ⟨⟨fun x hx => (hm x).mpr (h.sub x hx), fun x hx => h.rng x ((hm x).mp hx), nd, fun M hM hS x hx => h.low M hM hS x ((hm x).mp hx)⟩, fun q a b hq => ?_, ?_⟩
  · rw [parts_congr hm]
    exact c q a b fun z => hq ((hm q).mpr z)
  · exact (List.pairwise_and_iff.mpr ⟨r, nd⟩).imp fun {a b} h => by have h1 := h.1; have h2 := h.2; omega
theorem rise_ext : ∀ {A B : List Int}, A.Pairwise (· < ·) → B.Pairwise (· < ·) → (∀ x, x ∈ A ↔ x ∈ B) → A = B := fun {A B} ha hb h => by
  refine List.Perm.eq_of_pairwise (le := (· < ·)) (fun a b _ _ x y => by omega) ha hb ?_
  exact (List.perm_ext_iff_of_nodup (ha.imp fun h => Int.ne_of_lt h) (hb.imp fun h => Int.ne_of_lt h)).mpr h
theorem Least.uniq {n : Nat} {ts : List (Int × Int)} {S0 A B : List Int} (a : Least n ts S0 A) (b : Least n ts S0 B) : A = B :=
  rise_ext a.rise b.rise fun x => ⟨a.lm.low B b.clo b.lm.sub x, b.lm.low A a.clo a.lm.sub x⟩
/-- of a closed rising list itself -/
theorem Least.self {n : Nat} {ts : List (Int × Int)} {S0 L : List Int} (h : Least n ts S0 L) : Least n ts L L :=
  ⟨⟨fun _ z => z, h.lm.rng, h.lm.nd, fun M _ hS => hS⟩, h.clo, h.rise⟩
end My

set_option Elab.async false
set_option linter.all false
set_option maxRecDepth 100000
namespace My
open PySem PySem.Spec PyProof.Rows L2 GxR
/-! modules that overlap: both together, what is common, what one has beside the other -/
theorem adj_comm (ts : List (Int × Int)) (a b : Int) : adjB ts a b = adjB ts b a := by
  unfold adjB tieO
  by_cases h : a < b
  · rw [if_pos h, if_neg (by omega)]
  · by_cases k : b < a
    · rw [if_neg h, if_pos k]
    · have : a = b := by omega
      subst this; rfl
theorem clo_iff {n : Nat} {ts : List (Int × Int)} {M : List Int} : Clo n ts M ↔ ∀ p : Int, 0 ≤ p → p < n → p ∉ M → ∀ a ∈ M, ∀ b ∈ M, adjB ts p a = adjB ts p b := by
  constructor
  · intro h p h0 h1 hp a ha b hb
    have e := h p h0 h1 hp
    cases ea : adjB ts p a with
    | true =>
      cases eb : adjB ts p b with
      | true => rfl
      | false => rw [parts_iff.mpr ⟨⟨a, ha, ea⟩, b, hb, eb⟩] at e; cases e
    | false =>
      cases eb : adjB ts p b with
      | false => rfl
      | true => rw [parts_iff.mpr ⟨⟨b, hb, eb⟩, a, ha, ea⟩] at e; cases e
  · intro h p h0 h1 hp
    cases e : partsB ts M p with
    | false => rfl
    | true =>
      obtain ⟨⟨a, ha, ea⟩, b, hb, eb⟩ := parts_iff.mp e
      have := h p h0 h1 hp a ha b hb
      rw [ea, eb] at this; cases this
theorem clo_both {n : Nat} {ts : List (Int × Int)} {A B C : List Int} (ha : Clo n ts A) (hb : Clo n ts B) {c : Int} (c1 : c ∈ A) (c2 : c ∈ B) (hC : ∀ x, x ∈ C ↔ x ∈ A ∨ x ∈ B) : Clo n ts C := by
  rw [clo_iff] at ha hb ⊢
  intro p h0 h1 hp
  have pa : p ∉ A := fun z => hp ((hC p).mpr (.inl z))
  have pb : p ∉ B := fun z => hp ((hC p).mpr (.inr z))
  have k : ∀ x ∈ C, adjB ts p x = adjB ts p c := fun x hx => by
    rcases (hC x).mp hx with z | z
    · exact ha p h0 h1 pa x z c c1
    · exact hb p h0 h1 pb x z c c2
  exact fun a a1 b b1 => (k a a1).trans (k b b1).symm
theorem clo_common {n : Nat} {ts : List (Int × Int)} {A B C : List Int} (ha : Clo n ts A) (hb : Clo n ts B) (hC : ∀ x, x ∈ C ↔ x ∈ A ∧ x ∈ B) : Clo n ts C := by
  rw [clo_iff] at ha hb ⊢
  intro p h0 h1 hp a a1 b b1
  have a2 := (hC a).mp a1
  have b2 := (hC b).mp b1
  by_cases pa : p ∈ A
  · exact hb p h0 h1 (fun z => hp ((hC p).mpr ⟨pa, z⟩)) a a2.2 b b2.2
  · exact ha p h0 h1 pa a a2.1 b b2.1
theorem clo_beside {n : Nat} {ts : List (Int × Int)} {A B C : List Int} (ha : Clo n ts A) (hb : Clo n ts B) (rA : ∀ x ∈ A, 0 ≤ x ∧ x < (n : Int)) (rB : ∀ x ∈ B, 0 ≤ x ∧ x < (n : Int)) {y : Int} (y1 : y ∈ B) (y2 : y ∉ A) (hC : ∀ x, x ∈ C ↔ x ∈ A ∧ x ∉ B) : Clo n ts C := by
  rw [clo_iff] at ha hb ⊢
  intro p h0 h1 hp a a1 b b1
  have a2 := (hC a).mp a1
  have b2 := (hC b).mp b1
  by_cases pa : p ∈ A
  · have pb : p ∈ B := by
      by_cases z : p ∈ B
      · exact z
      · exact absurd ((hC p).mpr ⟨pa, z⟩) hp
    have k : ∀ x, x ∈ A → x ∉ B → adjB ts p x = adjB ts y x := fun x hx nx => by
      rw [adj_comm ts p x, adj_comm ts y x]
      exact hb x (rA x hx).1 (rA x hx).2 nx p pb y y1
    rw [k a a2.1 a2.2, k b b2.1 b2.2]
    exact ha y (rB y y1).1 (rB y y1).2 y2 a a2.1 b b2.1
  · exact ha p h0 h1 pa a a2.1 b b2.1
/-- a closed rising list of places is its own least module -/
theorem least_self {n : Nat} {ts : List (Int × Int)} {L : List Int} (c : Clo n ts L) (r : L.Pairwise (· < ·)) (h : ∀ x ∈ L, 0 ≤ x ∧ x < (n : Int)) : Least n ts L L :=
  ⟨⟨fun _ z => z, h, r.imp fun h => Int.ne_of_lt h, fun M _ hS => hS⟩, c, r⟩
/-- of more places a module that has at least as much -/
theorem least_more {n : Nat} {ts : List (Int × Int)} {S T A B : List Int} (a : Least n ts S A) (b : Least n ts T B) (h : ∀ x ∈ S, x ∈ T) : ∀ x ∈ A, x ∈ B :=
  a.lm.low B b.clo fun x hx => b.lm.sub x (h x hx)
end My

set_option Elab.async false
set_option linter.all false
set_option maxRecDepth 100000
set_option maxHeartbeats 4000000
namespace My
open PySem PySem.Spec PyProof.Rows L2 GxR
/-! ### set(xs) of a list of numbers -/
abbrev oSet (w : World) : Obj := { cls := .type "set", dict := none, data := .set #[] 0 (.fresh 0 0 (!w.params.followText "set-order")) }
section
variable {P : Program} {w : World} {A : Around} {E : Value → Shared → Prop} {s : Shared}
/-- the loop that fills a new set from a list of numbers -/
theorem fill_ints {l : Addr} {items : Array Value} {ns : List Int} {B : Around} {R : Result → Shared → Prop} (hh : B.in1.handled = none) (hl : s.heap.IsList l items) (hit : IntsAre items.toList ns) (hb : ns.length + 1 < scanBound)
    (h : ∀ h' tk c, SetR w h' s.heap.objs.size (fun j => decide (j ∈ ns)) c → c ≤ ns.length → (∀ b o, s.heap.get? b = some o → h'.get? b = some o) → R (.ok (.ret .none)) { s with heap := h', toks := tk }) :
    codeAny (model P w) B (.builtin "set.update.loop" ⟨[.ref s.heap.objs.size, .ref (s.heap.push (oSet w)).objs.size], []⟩) R
      { s with heap := (s.heap.push (oSet w)).push { cls := .type "list_iterator", data := .fields #[.ref l, .int 0 0] } } := by
  have hn : items.size = ns.length := by rw [← Array.length_toList]; exact IntsAre.length hit
  have hlt : l < s.heap.objs.size := by obtain ⟨o, ho, _⟩ := hl; exact Heap.lt_size ho
  have sz : (s.heap.push (oSet w)).objs.size = s.heap.objs.size + 1 := Heap.size_push ..
  have hl1 : (s.heap.push (oSet w)).IsList l items := hl.push _
  have hv : ∀ (i : Nat) (v : Value), items[i]? = some v → ∃ k t, ns[i]? = some k ∧ v = .int k t := fun i v e => by
    have hi : i < ns.length := by rw [← hn]; exact (Array.getElem?_eq_some_iff.mp e).1
    obtain ⟨t, z⟩ := IntsAre.int_at hit i v (by rw [Array.getElem?_toList]; exact e)
    rw [List.getD_eq_getElem?_getD, List.getElem?_eq_getElem hi] at z
    exact ⟨ns[i], t, List.getElem?_eq_getElem hi, z⟩
  refine set_update_ints ((Walks.list hh (s.heap.push (oSet w)).objs.size l (by rw [sz]; exact Nat.ne_of_lt (Nat.lt_succ_of_lt hlt)) items).toS) s.heap.objs.size (by rw [sz]; simp only [List.mem_cons, List.not_mem_nil, or_false, not_or]; exact ⟨Nat.ne_of_lt (Nat.lt_succ_self _), Nat.ne_of_gt hlt⟩) ns hn hb hv items.size 0 _ (by omega) (Nat.zero_le _)
    ⟨⟨_, Heap.get?_push_size _ rfl, rfl, rfl⟩, hl1.push _⟩ ⟨0, Nat.le_refl 0, setR_new_at (Heap.get?_push_of_some _ (Heap.get?_push_size _ rfl))⟩ fun s' c hm hc hS => ?_
  obtain ⟨h', g, d, tk, os⟩ := s'
  obtain rfl : g = s.gens := hm.gens
  obtain rfl : d = s.drawn := hm.drawn
  obtain rfl : os = s.os := hm.os
  refine h h' tk c hS (by omega) fun b o e => ?_
  have hb0 := Heap.lt_size e
  exact hm.heap b o (by rw [sz]; simp only [List.mem_cons, List.not_mem_nil, or_false, not_or]; exact ⟨Nat.ne_of_lt hb0, Nat.ne_of_lt (Nat.lt_succ_of_lt hb0)⟩) (Heap.get?_push_of_some _ (Heap.get?_push_of_some _ e))
set_option maxRecDepth 100000 in
theorem call_setL {l : Addr} {items : Array Value} (ns : List Int) {Q : Value → Shared → Prop} (hh : A.handled = none) (hl : s.heap.IsList l items) (hit : IntsAre items.toList ns) (hb : ns.length + 1 < scanBound)
    (h : ∀ h' tk c, SetR w h' s.heap.objs.size (fun j => decide (j ∈ ns)) c → c ≤ ns.length → (∀ b o, s.heap.get? b = some o → h'.get? b = some o) → Q (.ref s.heap.objs.size) { s with heap := h', toks := tk }) :
    wpAny (model P w) A (call (.type "set") [.ref l]) Q E s := by
  obtain ⟨c, tl, hmro⟩ := F.called_set.mro
  have hmade := F.called_set.made
  have hsub := F.called_set.sub
  refine wpAny_call (codeAny_of_tree ?_)
  show wpAny _ _ (callAny (.type "set") _) _ _ _
  refine wpAny_pure ⟨Code.quiet_builtin _ (by decide +kernel), codeAny_builtin F.entry_type_call ?_⟩
  rw [Around.under_plain (weight_type_call_type "set" [.ref l] []) rfl]
  have h1 := F.called_set.notType
  have h2 := F.called_set.canCreate
  have hct := F.typeCall_set_1 (.ref l)
  repeat (any_goals (first | assumption | wp_step))
  refine codeAny_mono (code_set_led1 (.ref l) (E := E) (Q₁ := fun x s1 => x = .ref s.heap.objs.size ∧ s1 = { s with heap := s.heap.push (oSet w) }) ⟨rfl, rfl⟩) fun r s1 hr => ?_
  cases r with
  | error e => exact hr
  | ok fl =>
    cases fl with
    | ret obj =>
      obtain ⟨rfl, rfl⟩ := hr
      have hS : (s.heap.push (oSet w)).get? s.heap.objs.size = some (oSet w) := Heap.get?_push_size _ rfl
      have hT : Shared.TypeIs { s with heap := s.heap.push (oSet w) } (.ref s.heap.objs.size) "set" := ⟨_, hS, rfl⟩
      have hli := F.called_set.init.lookup
      have hbi := F.called_set.init.bind (.ref s.heap.objs.size)
      repeat (any_goals (first | assumption | wp_step))
      refine codeAny_mono (codeAny_call_builtin (R := wants (fun r s2 => r = .none ∧ Q (.ref s.heap.objs.size) s2) E) F.called_set.init.plain F.entry_set_init (check_set_init_1 hT ?_)) fun r2 s2 hr2 => ?_
      · have hl1 := hl.push (oSet w)
        obtain ⟨ol, hol, hcl, nl, hdl⟩ := id hl1
        obtain ⟨ocls, odict, odata, oslots⟩ := ol
        simp only at hcl hdl
        subst hcl; subst hdl
        have hsls := F.sub_list_set
        have hslf := F.sub_list_frozenset
        have hne : (Value.type "list" == Value.type "dict") = false := by decide
        unfold Builtin.«set.__init__» noKeywords Builtin.Frozenset.updateFrom
        generalize hPI : pyIter = PI
        wp_walk
        subst hPI
        refine wpAny_pyIter_list hl1 (wpAny_bind (wpAny_runValue ?_))
        refine fill_ints (by simp [hh]) hl hit hb fun h' tk c a1 a2 a3 => ?_
        exact wpAny_pure (wpAny_pure ⟨rfl, h h' tk c a1 a2 a3⟩)
      · cases r2 with
        | error e => exact hr2
        | ok fl2 =>
          cases fl2 with
          | ret r =>
            obtain ⟨rfl, q⟩ := hr2
            repeat (any_goals (first | assumption | wp_step))
          | _ => exact hr2.elim
    | _ => exact hr.elim
end
section
variable {X : Cx}
def rSetI (K : PySem.W.Frag) (w : World) : List V → Hp → VK → Prop := fun xs H Q => ∃ (l : Addr) (ns : List Int), xs = [V.ref l] ∧ SqL K H l (ns.map V.int) ∧ ns.length + 1 < scanBound ∧
  ∀ a c, H a = none → c ≤ ns.length → Q (.ref a) (upd H a (SetO w a (fun j => decide (j ∈ ns)) c))
theorem cr_setI (hc : X.calm = true) : CallR X (.type "set") (rSetI X.K X.w) := by
  intro pins s σ H xs us Q I r h
  obtain ⟨l, ns, rfl, hl, hb, q⟩ := h
  rw [Vals.ref1 r]
  obtain ⟨its, rv, pl, hz⟩ := I.list hl
  have hn : H s.heap.objs.size = none := I.hok.fresh (Nat.le_refl _)
  refine call_setL (P := X.prog) (w := X.w) ns (I.ok.hd hc) pl.isList (by simpa using rv.ints) hb fun h' tk c R hc' k => ?_
  exact ⟨.ref s.heap.objs.size, _, I.laid (t' := tk) k (Nat.le_refl _) (setO_new R), rfl, q _ c hn hc'⟩
end
end My

set_option Elab.async false
set_option linter.all false
set_option maxRecDepth 100000
namespace My
open PySem PySem.Spec PyProof.Rows L2 GxR
/-- the keys of a dict are these places -/
def KeysI (kvs : List (Key × V)) (ks : List Int) : Prop := kvs.map (·.1) = ks.map Sum.inl
theorem KeysI.len {kvs : List (Key × V)} {ks : List Int} (h : KeysI kvs ks) : kvs.length = ks.length := by
  have := congrArg List.length h
  rwa [List.length_map, List.length_map] at this
theorem KeysI.mem {kvs : List (Key × V)} {ks : List Int} (h : KeysI kvs ks) (i : Int) : (∃ kv ∈ kvs, kv.1 = Sum.inl i) ↔ i ∈ ks := by
  constructor
  · rintro ⟨kv, hm, e⟩
    have : (Sum.inl i : Key) ∈ ks.map Sum.inl := by rw [← h, ← e]; exact List.mem_map_of_mem hm
    obtain ⟨j, hj, ej⟩ := List.mem_map.mp this
    cases ej; exact hj
  · intro hi
    have : (Sum.inl i : Key) ∈ kvs.map (·.1) := by rw [h]; exact List.mem_map_of_mem hi
    obtain ⟨kv, hm, e⟩ := List.mem_map.mp this
    exact ⟨kv, hm, e⟩
theorem KeysI.get {kvs : List (Key × V)} {ks : List Int} (h : KeysI kvs ks) (i : Int) : (valV kvs (Sum.inl i)).isSome = decide (i ∈ ks) := by
  unfold valV
  rw [Option.isSome_map]
  refine Bool.eq_iff_iff.mpr ?_
  rw [List.find?_isSome, decide_eq_true_iff, ← h.mem i]
  exact ⟨fun ⟨kv, a, b⟩ => ⟨kv, a, of_decide_eq_true b⟩, fun ⟨kv, a, b⟩ => ⟨kv, a, decide_eq_true b⟩⟩
theorem KeysI.put {kvs : List (Key × V)} {ks : List Int} (h : KeysI kvs ks) (i : Int) (v : V) : KeysI (putK kvs (Sum.inl i) v) (if i ∈ ks then ks else ks ++ [i]) := by
  unfold putK KeysI
  by_cases hi : i ∈ ks
  · obtain ⟨kv, hm, e⟩ := (h.mem i).mpr hi
    rw [if_pos hi, if_pos (List.any_eq_true.mpr ⟨kv, hm, decide_eq_true e⟩), List.map_map, ← h]
    refine List.map_congr_left fun x _ => ?_
    show (if x.1 = Sum.inl i then (x.1, v) else x).1 = x.1
    by_cases ex : x.1 = Sum.inl i
    · rw [if_pos ex]
    · rw [if_neg ex]
  · have : ¬ (kvs.any fun kv => decide (kv.1 = Sum.inl i)) = true := fun z => by
      obtain ⟨kv, hm, e⟩ := List.any_eq_true.mp z
      exact hi ((h.mem i).mp ⟨kv, hm, of_decide_eq_true e⟩)
    rw [if_neg hi, if_neg this, List.map_append, h, List.map_append]; rfl
theorem KeysI.at {kvs : List (Key × V)} {ks : List Int} (h : KeysI kvs ks) {i : Nat} {k : Key} {v : V} (e : kvs[i]? = some (k, v)) : ∃ j : Int, ks[i]? = some j ∧ k = Sum.inl j := by
  have : (kvs.map (·.1))[i]? = some k := by rw [List.getElem?_map, e]; rfl
  rw [h, List.getElem?_map] at this
  obtain ⟨j, ej, e2⟩ := Option.map_eq_some_iff.mp this
  exact ⟨j, ej, e2.symm⟩
theorem tst_frzK {H : Hp} {d : Addr} {kvs : List (Key × V)} {o : HO} (e : H d = some (.dK kvs)) : Tst H (upd H d o) := fun b xs z => by
  rw [upd_ne (fun w => by rw [w, e] at z; cases z)]; exact z
theorem same_unlockK {H H' : Hp} {d : Addr} {u : HO} {od : Obj} (e : H d = some u) (s : Same (upd H d (.frz od u)) H') : Same H (upd H' d u) := fun b o h => by
  by_cases hb : b = d
  · subst hb; rw [upd_same]; rw [e] at h; exact h
  · rw [upd_ne hb]; exact s b o (by rw [upd_ne hb]; exact h)
section
variable {P : Program} {w : World} {K : PySem.W.Frag} {mg : Str → Option Value} {base : Heap}
/-! ### is_parting -/
abbrev N_is_parting : List Str := ["web", "place", "places", "ties", "other"]
theorem sc_is_parting : FnScope N_is_parting ["web", "place", "places"] (defScope s_is_parting) := ⟨rfl, rfl, rfl, by decide +kernel, rfl, by decide +kernel, by decide +kernel⟩
def sp_parting : Sp := fun vs H Q _ => ∃ (v : V) (n : Nat) (ts : List (Int × Int)) (p : Int) (d : Addr) (kvs : List (Key × V)) (ks : List Int), vs = [v, .int p, .ref d] ∧ Web H v n ts ∧ H d = some (.dK kvs) ∧ KeysI kvs ks ∧ ks.length ≤ 100 ∧ ∀ H', Same H H' → Q (.bl (partsB ts ks p)) H'
theorem ok_parting {f : Addr} {fd : FuncData} (B : Bts mg) (F : Fun K "is_parting" "is_parting" s_is_parting f fd) (c_tied : Cl P w K mg base 2 "tied" sp_tied) : FnOk P w K mg base CX0 3 f fd ["web", "place", "places"] sp_parting := by
  refine F.ok sc_is_parting (fun vs H Q E h => ?_) (fun cdv A outer s H vs Q E hr h => ?_)
  · obtain ⟨v, n, ts, p, d, kvs, ks, rfl, _⟩ := h; rfl
  · obtain ⟨v, n, ts, p, d, kvs, ks, rfl, hW, ed, hk, hl, q⟩ := h
    refine ⟨_, (pss_cons (ps_lock (ps_setLc (i := 3) (own := [("other", 4)]) (g := (gName 4)) (tt := tYes) rfl sc_is_parting.nd rfl rfl (sw_true rfl rfl rfl (by decide +kernel)) (pi_keys (pv 2)) (blkOk_by (own := [("other", 4)]) (N := N_is_parting) (sc := defScope s_is_parting) (by decide +kernel)) (fun _ _ _ _ _ => (pg_name (i := 4) sc_is_parting.nd rfl (by first | exact Or.inl rfl | exact Or.inr rfl))) (fun _ _ _ _ _ => pts_nil) (fun _ _ _ _ _ => (pe_c c_tied hr (by decide) (by rfl) (pa_cons (pv 0) (pa_cons (pv 1) (pa_cons (pv 4) pa_nil)))))))
    (pss_one (ps_ret (pe_and (pe_callB (cr_any rfl) (by rfl) B.any (by decide +kernel) (pa_cons (pv 3) pa_nil)) (pe_one (pe_not (pe_callB (cr_all rfl) (by rfl) B.all (by decide +kernel) (pa_cons (pv 3) pa_nil)))))))), ?_⟩
    have kl := hk.len
    refine ⟨d, .dK kvs, ed, trivial, fun od => ?_⟩
    have hWl := hW.mono (tst_frzK (o := .frz od (.dK kvs)) ed)
    refine ⟨_, rfl, d, od, rfl, .inl ⟨kvs, upd_same, fun D nD => ?_⟩⟩
    refine wk (walk_keys (d := d) (o := od) (kvs := kvs)) (fun i H1 => Same (upd H d (.frz od (.dK kvs))) H1 ∧ H1 D = some (.lst (((ks.take i).map (adjB ts p)).map V.bl))) ⟨same_new nD, upd_same⟩ ?_ ?_ ?_
    · rintro i H1 _ ⟨sm, _⟩
      exact sm _ _ upd_same
    · rintro i x H1 H2 hi ⟨sm, eD⟩ ⟨rfl, k, u, hx, rfl⟩
      obtain ⟨j, ej, rfl⟩ := hk.at hx
      refine ⟨rfl, yes ?_⟩
      refine ⟨_, rfl, _, rfl, _, rfl, v, n, ts, p, j, rfl, hWl.mono (Same.tst sm), fun H3 s3 => ?_⟩
      refine ⟨_, s3 _ _ eD, sz' ?_, Same.put (sm.trans s3) nD, ?_⟩
      · rw [List.length_map, List.length_map, List.length_take]; omega
      · rw [upd_same, List.take_add_one, ej, List.map_append, List.map_append]; rfl
    · rintro H1 ⟨sm, eD⟩
      rw [kl, List.take_length] at eD
      refine ⟨sm _ _ upd_same, ?_⟩
      have nDd : D ≠ d := fun z => by rw [z, upd_same] at nD; cases nD
      have sU := same_unlockK ed sm
      have eD2 : (upd H1 d (.dK kvs)) D = some (.lst ((ks.map (adjB ts p)).map V.bl)) := by rw [upd_ne nDd]; exact eD
      refine ⟨_, rfl, D, _, rfl, SqL.of eD2, _, rfl, ?_⟩
      have qq := q _ sU
      unfold partsB at qq
      refine ite2 (fun e => ?_) (fun e => ?_)
      · rw [e, Bool.true_and] at qq
        exact ⟨_, rfl, D, _, rfl, SqL.of eD2, _, rfl, qq⟩
      · rw [Bool.eq_false_iff.mpr e, Bool.false_and] at qq
        exact qq
/-! ### least_among -/
abbrev N_least_among : List Str := ["web", "everything", "places", "inside", "place", "grown", "parted"]
theorem sc_least_among : FnScope N_least_among ["web", "everything", "places"] (defScope s_least_among) := ⟨rfl, rfl, rfl, by decide +kernel, rfl, by decide +kernel, by decide +kernel⟩
def sp_among : Sp := fun vs H Q _ => ∃ (v : V) (n : Nat) (ts : List (Int × Int)) (e d : Addr) (S0 : List Int), vs = [v, .ref e, .ref d] ∧ Web H v n ts ∧ n ≤ 100 ∧ H e = some (.lst ((up n).map V.int)) ∧ H d = some (.lst (S0.map V.int)) ∧ (n < 64) ∧ (∀ x ∈ S0, 0 ≤ x ∧ x < (n : Int)) ∧ S0.length ≤ 1000 ∧
  ∀ L r H', H r = none → Same H H' → Least n ts S0 L → H' r = some (.lst (L.map V.int)) → Q (.ref r) H'
theorem ok_among {f : Addr} {fd : FuncData} (B : Bts mg) (F : Fun K "least_among" "least_among" s_least_among f fd) (c_is_parting : Cl P w K mg base 3 "is_parting" sp_parting) : FnOk P w K mg base CX0 4 f fd ["web", "everything", "places"] sp_among := by
  refine F.ok sc_least_among (fun vs H Q E h => ?_) (fun cdv A outer s H vs Q E hr h => ?_)
  · obtain ⟨v, n, ts, e, d, S0, rfl, _⟩ := h; rfl
  · obtain ⟨v, n, ts, e, d, S0, rfl, hW, hn, ee, ed, h64, hS, sl, q⟩ := h
    refine ⟨_, (pss_cons (ps_set (i := 3) sc_least_among.nd rfl (by first | exact Or.inl rfl | exact Or.inr rfl) (pe_dc (own := [("place", 4)]) (g := (gName 4)) (tt := tYes) rfl sc_least_among.nd (pi_list (pv 2)) (blkOk_by (own := [("place", 4)]) (N := N_least_among) (sc := defScope s_least_among) (by decide +kernel)) (fun _ _ _ _ _ => (pg_name (i := 4) sc_least_among.nd rfl (by first | exact Or.inl rfl | exact Or.inr rfl))) (fun _ _ _ _ _ => pts_nil) (fun _ _ _ _ _ => (pv 4)) (fun _ _ _ _ _ => pe_bl)))
    (pss_cons (ps_set (i := 5) sc_least_among.nd rfl (by first | exact Or.inl rfl | exact Or.inr rfl) pe_bl)
    (pss_cons (ps_while PassesOwn.never (pt_val (pv 5))
      (pss_cons (ps_setLc (i := 6) (own := [("place", 4)]) (g := (gName 4)) rfl sc_least_among.nd rfl rfl (sw_true rfl rfl rfl (by decide +kernel)) (pi_list (pv 1)) (blkOk_by (own := [("place", 4)]) (N := N_least_among) (sc := defScope s_least_among) (by decide +kernel)) (fun _ _ _ _ _ => (pg_name (i := 4) sc_least_among.nd rfl (by first | exact Or.inl rfl | exact Or.inr rfl))) (fun _ _ _ _ _ => (pts_one (PW.pt (pw_and (pt_cmp (pc_dnotin (hu_of hr) (pv 4) (pv 3))) (pw_and1 (pt_val (pe_c c_is_parting hr (by decide) (by rfl) (pa_cons (pv 0) (pa_cons (pv 4) (pa_cons (pv 3) pa_nil)))))))))) (fun _ _ _ _ _ => (pv 4)))
      (pss_cons (ps_for PassesOwn.never rfl (pi_list (pv 6)) (pg_name (i := 4) sc_least_among.nd rfl (by first | exact Or.inl rfl | exact Or.inr rfl))
        (pss_one (ps_dput (hu_of hr) (pv 3) (pv 4) pe_bl rfl)))
      (pss_one (ps_set (i := 5) sc_least_among.nd rfl (by first | exact Or.inl rfl | exact Or.inr rfl) (pe_callTy call_boolL (by rfl) B.bool (by decide +kernel) (pa_cons (pv 6) pa_nil)))))))
    (pss_one (ps_ret (pe_callB (call_sortedDI rfl) (by rfl) B.sorted (by decide +kernel) (pa_cons (pv 3) pa_nil))))))), ?_⟩
    refine ⟨_, rfl, d, rfl, ⟨_, SqL.of ed⟩, fun D nD => ?_⟩
    have Slen : (S0.map V.int).length = S0.length := List.length_map _
    refine wk (walk_list (K := K) (a := d) (xs := S0.map V.int)) (fun i H1 => ∃ kvs ks, Same H H1 ∧ H1 D = some (.dK kvs) ∧ KeysI kvs ks ∧ ks.Nodup ∧ (∀ x, x ∈ ks ↔ x ∈ S0.take i) ∧ ks.length ≤ i) ⟨[], [], same_new nD, upd_same, rfl, List.nodup_nil, fun x => Iff.rfl, Nat.le_refl _⟩ ?_ ?_ ?_
    · rintro i H1 _ ⟨_, _, sm, _⟩
      exact SqL.of (sm _ _ ed)
    · rintro i x H1 H2 hi ⟨kvs, ks, sm, eD, hk, nd, hm, kl⟩ ⟨rfl, hx⟩
      rw [List.getElem?_map] at hx
      obtain ⟨j, ej, rfl⟩ := Option.map_eq_some_iff.mp hx
      refine ⟨rfl, yes ?_⟩
      have kll := hk.len
      refine ⟨_, rfl, kvs, Sum.inl j, rfl, eD, sz' (by omega), ?_⟩
      refine ⟨_, _, Same.put sm nD, upd_same, hk.put j (.bl true), ?_, fun x => ?_, ?_⟩
      · by_cases h : j ∈ ks
        · rw [if_pos h]; exact nd
        · rw [if_neg h, List.nodup_append]
          exact ⟨nd, List.nodup_cons.mpr ⟨List.not_mem_nil, List.nodup_nil⟩, fun a ha b hb e => h (by rw [List.mem_singleton.mp hb] at e; exact e ▸ ha)⟩
      · rw [List.take_add_one, ej, List.mem_append, ← hm x]
        show _ ↔ _ ∨ x ∈ [j]
        rw [List.mem_singleton]
        by_cases h : j ∈ ks
        · rw [if_pos h]; exact ⟨.inl, fun z => z.elim id fun z => z ▸ h⟩
        · rw [if_neg h, List.mem_append, List.mem_singleton]
      · by_cases h : j ∈ ks
        · rw [if_pos h]; omega
        · rw [if_neg h, List.length_append]; exact Nat.succ_le_succ kl
    · rintro H1 ⟨kvs, ks, s1, eD, hk, nd, hm, kl⟩
      rw [Slen, List.take_length] at hm
      have L0 : Lm n ts S0 ks := ⟨fun x hx => (hm x).mpr hx, fun x hx => hS x ((hm x).mp hx), nd, fun M _ hS x hx => hS x ((hm x).mp hx)⟩
      let W : Nat → L2.St → Hp → Prop := fun m σ H1 => ∃ kvs ks g y4 y6, σ = [some v, some (.ref e), some (.ref d), some (.ref D), y4, some (.bl g), y6] ∧ Same H H1 ∧ H1 D = some (.dK kvs) ∧ KeysI kvs ks ∧ Lm n ts S0 ks ∧ (g = false → Clo n ts ks) ∧ m = 2 * (n - ks.length) + g.toNat
      refine ⟨W, ⟨_, kvs, ks, true, none, none, rfl, s1, eD, hk, L0, fun z => (nomatch z), rfl⟩, ?_⟩
      rintro m σ H2 ⟨kvs, ks, g, y4, y6, rfl, s2, eD2, hk2, L2', hg, rfl⟩
      have kn : ks.length ≤ n := by
        have := nd_len (m := up n) L2'.nd fun x hx => mem_up.mpr (L2'.rng x hx)
        rwa [up_len] at this
      refine ⟨_, rfl, g, rfl, ?_⟩
      cases g with
      | false =>
        refine iteF ⟨_, rfl, D, kvs, ks, rfl, .inl eD2, hk2, by omega, fun ys r pm pw nr => ?_⟩
        have sr := same_new (o := .lst (ys.map V.int)) nr
        exact q ys r _ (same_free s2 nr) (s2.trans sr) (least_of L2' (hg rfl) pm pw) upd_same
      | true =>
        refine iteT ⟨fun σ' H' => ∃ m', m' < 2 * (n - ks.length) + 1 ∧ W m' σ' H', fun σ' H' hh => hh, ?_⟩
        refine ⟨_, rfl, e, rfl, ⟨_, SqL.of (s2 _ _ ee)⟩, fun N nN => ?_⟩
        have ul : ((up n).map V.int).length = n := by rw [List.length_map, up_len]
        refine wk (walk_list (K := K) (a := e) (xs := (up n).map V.int)) (fun i H3 => Same H2 H3 ∧ H3 N = some (.lst ((newP n ts ks i).map V.int))) ⟨same_new nN, upd_same⟩ ?_ ?_ ?_
        · rintro i H3 _ ⟨s3, _⟩
          exact SqL.of (s3 _ _ (s2 _ _ ee))
        · rintro i x H3 H4 hi ⟨s3, eN⟩ ⟨rfl, hx⟩
          rw [ul] at hi
          rw [List.getElem?_map, up_get hi] at hx
          cases hx
          have st := newP_step n ts ks i
          have nl : (newP n ts ks i).length ≤ i := Nat.le_trans (List.length_filter_le _ _) (Nat.le_of_eq (up_len i))
          refine ⟨rfl, _, rfl, _, rfl, D, _, rfl, DGet.k (k := Sum.inl (i : Int)) (s3 _ _ eD2), _, rfl, ?_⟩
          rw [hk2.get]
          by_cases hi2 : (i : Int) ∈ ks
          · rw [decide_eq_true hi2]
            rw [decide_eq_false (fun z => z hi2), Bool.false_and, if_neg (fun z => nomatch z), List.append_nil] at st
            refine iteF (iteF ⟨s3, ?_⟩)
            rw [st]; exact eN
          · rw [decide_eq_false hi2]
            rw [decide_eq_true hi2, Bool.true_and] at st
            refine iteT ⟨_, rfl, _, rfl, _, rfl, v, n, ts, (i : Int), D, kvs, ks, rfl, hW.mono (Same.tst (s2.trans s3)), s3 _ _ eD2, hk2, by omega, fun H5 s5 => ⟨_, rfl, ?_⟩⟩
            cases hp : partsB ts ks (i : Int) with
            | false =>
              rw [hp, if_neg (fun z => nomatch z), List.append_nil] at st
              refine iteF ⟨s3.trans s5, ?_⟩
              rw [st]; exact s5 _ _ eN
            | true =>
              rw [hp, if_pos rfl] at st
              refine iteT ⟨_, rfl, _, s5 _ _ eN, sz' (by rw [List.length_map]; omega), Same.put (s3.trans s5) nN, ?_⟩
              rw [upd_same, st, List.map_append]; rfl
        · rintro H3 ⟨s3, eN⟩
          rw [ul] at eN
          have nND : N ≠ D := Ne.symm (ne_of_none eD2 nN)
          have nl : (newP n ts ks n).length ≤ n := Nat.le_trans (List.length_filter_le _ _) (Nat.le_of_eq (up_len n))
          refine ⟨_, rfl, N, rfl, ⟨_, SqL.of eN⟩, ?_⟩
          refine for_it (walk_list (K := K) (a := N) (xs := (newP n ts ks n).map V.int)) (fun i σ H4 => ∃ kvs y4, σ = [some v, some (.ref e), some (.ref d), some (.ref D), y4, some (.bl true), some (.ref N)] ∧ Same H H4 ∧ H4 N = some (.lst ((newP n ts ks n).map V.int)) ∧ H4 D = some (.dK kvs) ∧ KeysI kvs (ks ++ (newP n ts ks n).take i))
            ⟨kvs, y4, rfl, s2.trans s3, eN, s3 _ _ eD2, by rw [List.take_zero, List.append_nil]; exact hk2⟩ ?_ ?_ ?_
          · rintro i σ H4 _ ⟨_, _, _, _, e4, _⟩
            exact SqL.of e4
          · rintro i x σ H4 H5 hi ⟨kvs4, y4, rfl, s4, eN4, eD4, hk4⟩ ⟨rfl, hx⟩
            rw [List.length_map] at hi
            rw [List.getElem?_map] at hx
            obtain ⟨j, ej, rfl⟩ := Option.map_eq_some_iff.mp hx
            have k4l := hk4.len
            rw [List.length_append, List.length_take] at k4l
            refine ⟨_, rfl, _, rfl, D, _, rfl, DPut.k (k := Sum.inl j) eD4 (sz' (by omega)), ?_⟩
            have nj : j ∉ ks ++ (newP n ts ks n).take i := by
              have Lnd := (lm_more L2').nd
              rw [← List.take_append_drop i (newP n ts ks n), ← List.append_assoc, List.nodup_append] at Lnd
              refine fun z => Lnd.2.2 j z j ?_ rfl
              rw [List.drop_eq_getElem_cons hi]
              have := (List.getElem?_eq_some_iff.mp ej).2
              rw [this]; exact List.mem_cons_self
            have hp := hk4.put j (.bl true)
            rw [if_neg nj] at hp
            refine ⟨_, _, rfl, Same.put s4 nD, by rw [upd_ne nND]; exact eN4, upd_same, ?_⟩
            rw [List.take_add_one, ej, ← List.append_assoc]
            exact hp
          · rintro σ H4 ⟨kvs4, y4, rfl, s4, eN4, eD4, hk4⟩
            rw [List.length_map, List.take_length] at hk4
            refine ⟨_, rfl, N, _, rfl, SqL.of eN4, ?_⟩
            have Lm' := lm_more L2'
            refine ⟨_, ?_, kvs4, _, _, _, _, rfl, s4, eD4, hk4, Lm', fun z => ?_, rfl⟩
            · rw [List.length_append]
              cases hh : newP n ts ks n with
              | nil => show 2 * (n - (ks.length + 0)) + 0 < _; omega
              | cons a l =>
                have kn' : (ks ++ newP n ts ks n).length ≤ n := by
                  have := nd_len (m := up n) Lm'.nd fun x hx => mem_up.mpr (Lm'.rng x hx)
                  rwa [up_len] at this
                rw [hh, List.length_append] at kn'
                rw [List.length_cons] at kn' ⊢
                show 2 * (n - (ks.length + (l.length + 1))) + 1 < _
                omega
            · cases hh : newP n ts ks n with
              | nil => rw [List.append_nil]; exact lm_clo hh
              | cons a l => rw [hh] at z; cases z
end
end My

set_option Elab.async false
set_option linter.all false
set_option maxRecDepth 100000
namespace My
open PySem PySem.Spec PyProof.Rows L2 GxR
theorem eqv_dI2 : ∀ a b : List Int, PyData.eqv (dI a) (dI b) = decide (a = b)
  | [], [] => rfl
  | [], _ :: _ => rfl
  | _ :: _, [] => rfl
  | x :: a, y :: b => by
    show ((x == y) && PyData.eqvAll (a.map PyData.int) (b.map PyData.int)) = _
    rw [show PyData.eqvAll (a.map PyData.int) (b.map PyData.int) = PyData.eqv (dI a) (dI b) from rfl, eqv_dI2 a b]
    by_cases h : x = y <;> by_cases k : a = b <;> simp [h, k]
theorem tab_lst {H H' : Hp} {P d : Addr} {xs : List V} (tb : Tabbed P H H') (tg : TabG H P) (e : H d = some (.lst xs)) : H' d = some (.lst xs) := by
  obtain ⟨ps, h1, _⟩ := tg
  rw [tb.2 d (fun z => by rw [z, h1] at e; cases e)]; exact e
theorem tabG_sameM {H H' : Hp} {P : Addr} (h : TabG H P) (s : Same H H') : TabG H' P := by
  obtain ⟨ps, h1, h2⟩ := h
  exact ⟨ps, s _ _ h1, h2⟩
theorem least_nil (n : Nat) (ts : List (Int × Int)) : Least n ts [] [] :=
  ⟨⟨fun _ z => z, fun _ z => absurd z List.not_mem_nil, List.nodup_nil, fun _ _ _ x z => absurd z List.not_mem_nil⟩, fun _ _ _ _ => rfl, List.Pairwise.nil⟩
section
variable {P : Program} {w : World} {K : PySem.W.Frag} {mg : Str → Option Value} {base : Heap}
end
end My

set_option Elab.async false
set_option linter.all false
set_option maxRecDepth 100000
namespace My
open PySem PySem.Spec PyProof.Rows L2 GxR
/-- a module of the web, as a rising list; it may be empty -/
structure Mdl (n : Nat) (ts : List (Int × Int)) (A : List Int) : Prop where
  clo : Clo n ts A
  rise : A.Pairwise (· < ·)
  rng : ∀ x ∈ A, 0 ≤ x ∧ x < (n : Int)
theorem Least.mdl {n : Nat} {ts : List (Int × Int)} {S0 L : List Int} (h : Least n ts S0 L) : Mdl n ts L := ⟨h.clo, h.rise, h.lm.rng⟩
theorem Mdl.len {n : Nat} {ts : List (Int × Int)} {A : List Int} (h : Mdl n ts A) : A.length ≤ n := by
  have := nd_len (m := up n) (h.rise.imp fun h => Int.ne_of_lt h) fun x hx => mem_up.mpr (h.rng x hx)
  rwa [up_len] at this
theorem Mdl.least {n : Nat} {ts : List (Int × Int)} {A : List Int} (h : Mdl n ts A) : Least n ts A A := least_self h.clo h.rise h.rng
theorem frM_keep {H H' : Hp} {PM d : Addr} {o : HO} (f : FrM [PM] H H') (tg : TabG H PM) (e : H d = some o) (ne : ∀ ps, o ≠ .tbl ps) : H' d = some o := by
  refine f d o (fun z => ?_) e
  obtain ⟨ps, h1, _⟩ := tg
  rw [List.mem_singleton.mp z, h1] at e
  cases e
  exact ne ps rfl
theorem frM_lst {H H' : Hp} {PM d : Addr} {xs : List V} (f : FrM [PM] H H') (tg : TabG H PM) (e : H d = some (.lst xs)) : H' d = some (.lst xs) := frM_keep f tg e fun _ z => nomatch z
theorem frM_tst {H H' : Hp} {PM : Addr} (f : FrM [PM] H H') (tg : TabG H PM) : Tst H H' := fun b xs e => frM_keep f tg e fun _ z => nomatch z
section
variable {P : Program} {w : World} {K : PySem.W.Frag} {mg : Str → Option Value} {base : Heap}
end
end My

set_option Elab.async false
set_option linter.all false
set_option maxRecDepth 100000
set_option pp.maxSteps 400
set_option maxHeartbeats 4000000
namespace My
open PySem PySem.Spec PyProof.Rows L2 GxR
/-! all stays but the draws and one table -/
def FL (PM L : Addr) (H H' : Hp) : Prop := ∀ b o, b ≠ L → b ≠ PM → H b = some o → H' b = some o
theorem FL.refl (PM L : Addr) (H : Hp) : FL PM L H H := fun _ _ _ _ e => e
theorem FL.trans {PM L : Addr} {H H1 H2 : Hp} (a : FL PM L H H1) (b : FL PM L H1 H2) : FL PM L H H2 := fun c o n m e => b c o n m (a c o n m e)
theorem FL.fr {PM L : Addr} {H H' : Hp} (a : Fr L H H') : FL PM L H H' := fun b o n _ e => a b o n e
theorem FL.same {PM L : Addr} {H H' : Hp} (a : Same H H') : FL PM L H H' := fun b o _ _ e => a b o e
theorem FL.tab {PM L : Addr} {H H' : Hp} (a : FrM [PM] H H') : FL PM L H H' := fun b o _ m e => a b o (fun z => m (List.mem_singleton.mp z)) e
theorem tab_neL {PM L : Addr} {H : Hp} {c : Int} (tg : TabG H PM) (lf : Lf H L c) : L ≠ PM := by
  obtain ⟨x, y, z, e, _⟩ := lf
  obtain ⟨ps, h1, _⟩ := tg
  exact fun w => by rw [w, h1] at e; cases e
theorem FL.tst {PM L : Addr} {H H' : Hp} {c : Int} (h : FL PM L H H') (tg : TabG H PM) (lf : Lf H L c) : Tst H H' := fun b xs e => by
  refine h b _ (fun z => ?_) (fun z => ?_) e
  · obtain ⟨x, y, w, e2, _⟩ := lf
    rw [z, e2] at e; cases e
  · obtain ⟨ps, h1, _⟩ := tg
    rw [z, h1] at e; cases e
theorem FL.lst {PM L p : Addr} {H H' : Hp} {xs : List V} (h : FL PM L H H') (tg : TabG H PM) (ne : p ≠ L) (e : H p = some (.lst xs)) : H' p = some (.lst xs) := h p _ ne (fun z => by
  obtain ⟨ps, h1, _⟩ := tg
  rw [z, h1] at e; cases e) e
theorem tab_frL {PM L : Addr} {H H' : Hp} {c : Int} (tg : TabG H PM) (lf : Lf H L c) (f : Fr L H H') : TabG H' PM := by
  have n := tab_neL tg lf
  obtain ⟨ps, h1, h2⟩ := tg
  exact ⟨ps, f _ _ (Ne.symm n) h1, h2⟩
theorem all_repM (n : Nat) : (List.replicate n true).all id = true := by
  rw [List.all_eq_true]
  intro x hx
  rw [(List.mem_replicate.mp hx).2]; rfl
/-- a list of numbers that stands apart from two places -/
def LsI (L Fd : Addr) (H : Hp) (v : V) (A : List Int) : Prop := ∃ q, v = .ref q ∧ q ≠ L ∧ q ≠ Fd ∧ H q = some (.lst (A.map V.int))
section
variable {P : Program} {w : World} {K : PySem.W.Frag} {mg : Str → Option Value} {base : Heap}
end
end My

set_option Elab.async false
set_option linter.all false
set_option maxRecDepth 100000
namespace My
open PySem PySem.Spec PyProof.Rows L2 GxR
section
variable {P : Program} {w : World} {K : PySem.W.Frag} {mg : Str → Option Value} {base : Heap}
end
end My

set_option Elab.async false
set_option linter.all false
set_option maxRecDepth 100000
set_option pp.maxSteps 400
set_option maxHeartbeats 4000000
namespace My
open PySem PySem.Spec PyProof.Rows L2 GxR
theorem cut_sub {xs : List V} {lo hi : Option Int} : ∀ x ∈ cutV xs lo hi, x ∈ xs := fun x hx => by
  unfold cutV at hx
  exact List.mem_of_mem_drop (List.mem_of_mem_take hx)
theorem cut_none {xs : List V} {m : Nat} {hi : Option Int} (h : xs.length ≤ m) : cutV xs (some (m : Int)) hi = [] := by
  unfold cutV
  rw [HT.sIx_nat, Nat.min_eq_right h, List.drop_length, List.take_nil]
section
variable {P : Program} {w : World} {K : PySem.W.Frag} {mg : Str → Option Value} {base : Heap}
/-! ### _law_folded -/
abbrev N__law_folded : List Str := ["_law_script", "_law_many", "_law_cells", "_law_k", "_law_cell"]
theorem sc__law_folded : FnScope N__law_folded ["_law_script", "_law_many"] (defScope s__law_folded) := ⟨rfl, rfl, rfl, by decide +kernel, rfl, by decide +kernel, by decide +kernel⟩
def sp_folded (K : PySem.W.Frag) : Sp := fun vs H Q _ => ∃ (a : Addr) (ns : List Int) (m : Nat), vs = [.ref a, .int (m : Int)] ∧ SqL K H a (ns.map V.int) ∧ ns.length ≤ 63 ∧ 1 ≤ m ∧ m ≤ 63 ∧
  ∀ (C : Addr) (cs : List Int) (H' : Hp), H C = none → Same H H' → H' C = some (.lst (cs.map V.int)) → cs.length = min m ns.length → Q (.ref C) H'
theorem ok_folded {f : Addr} {fd : FuncData} (B : Bts mg) (F : Fun K "_law_folded" "_law_folded" s__law_folded f fd) : FnOk P w K mg base CX0 1 f fd ["_law_script", "_law_many"] (sp_folded K) := by
  refine F.ok sc__law_folded (fun vs H Q E h => ?_) (fun cdv A outer s H vs Q E hr h => ?_)
  · obtain ⟨a, ns, m, rfl, _⟩ := h; rfl
  · obtain ⟨a, ns, m, rfl, hS, nl, m1, m63, q⟩ := h
    refine ⟨_, (pss_cons (ps_set (i := 2) sc__law_folded.nd rfl (by first | exact Or.inl rfl | exact Or.inr rfl) (pe_callTy call_list_of (by rfl) B.list (by decide +kernel) (pa_cons (pe_slice sl_list (pv 0) po_none (po_some (pv 1))) pa_nil)))
    (pss_cons (ps_for PassesOwn.never rfl (pi_enum (by rfl) B.enumerate (pa_cons (pe_slice sl_list (pv 0) (po_some (pv 1)) (po_some pe_int)) pa_nil)) (pg_tup rfl (pgs_cons (pg_name (i := 3) sc__law_folded.nd rfl (by first | exact Or.inl rfl | exact Or.inr rfl)) (pgs_cons (pg_name (i := 4) sc__law_folded.nd rfl (by first | exact Or.inl rfl | exact Or.inr rfl)) pgs_nil)))
      (pss_one (ps_asg (pe_op op_add (pe_ix ix_list (pv 2) (pe_op op_mod (pv 3) (pv 1)) (fun _ _ => rfl)) (pe_op op_mul (pv 4) (pe_op op_add (pv 3) pe_int))) (pg_sub (pv 2) (pe_op op_mod (pv 3) (pv 1)) set_list))))
    (pss_one (ps_ret (pv 2))))), ?_⟩
    refine ⟨_, rfl, _, rfl, _, rfl, a, _, rfl, hS, fun A1 nA1 => ?_⟩
    rw [cutTo, ← List.map_take]
    have s1 := same_new (o := .lst ((ns.take m).map V.int)) nA1
    refine ⟨A1, _, rfl, .inl (SqL.of upd_same), fun C nC => ?_⟩
    have sC := same_new (o := .lst ((ns.take m).map V.int)) nC
    have s2 := s1.trans sC
    have nC0 : H C = none := same_free s1 nC
    have eC := upd_same (H := upd H A1 (.lst ((ns.take m).map V.int))) (a := C) (o := .lst ((ns.take m).map V.int))
    generalize upd (upd H A1 (.lst ((ns.take m).map V.int))) C (.lst ((ns.take m).map V.int)) = H2 at s2 eC ⊢
    refine ⟨_, rfl, _, rfl, _, rfl, _, rfl, a, _, rfl, sq_same s2 hS, fun A3 nA3 => ?_⟩
    have sub : ∀ x ∈ cutV (ns.map V.int) (some (m : Int)) (some 63), x ∈ ns.map V.int := cut_sub
    have non : ns.length ≤ m → cutV (ns.map V.int) (some (m : Int)) (some 63) = [] := fun h => cut_none (by rw [List.length_map]; exact h)
    have cl := cutV_length (ns.map V.int) (some (m : Int)) (some 63)
    rw [List.length_map] at cl
    generalize cutV (ns.map V.int) (some (m : Int)) (some 63) = xs at sub non cl ⊢
    have s3 := same_new (o := .lst xs) nA3
    have eA3 := upd_same (H := H2) (a := A3) (o := .lst xs)
    have s03 := s2.trans s3
    have eC3 := s3 _ _ eC
    have CA : A3 ≠ C := fun z => by rw [z, eC] at nA3; cases nA3
    generalize upd H2 A3 (.lst xs) = H3 at s3 eA3 s03 eC3 ⊢
    refine ⟨A3, _, rfl, SqL.of eA3, ?_⟩
    refine for_it (walk_enum (K := K) (a := A3) (xs := xs)) (fun i σ H4 => ∃ cs y3 y4, σ = [some (.ref a), some (.int (m : Int)), some (.ref C), y3, y4] ∧ Same H H4 ∧ H4 A3 = some (.lst xs) ∧ H4 C = some (.lst (cs.map V.int)) ∧ cs.length = min m ns.length) ⟨ns.take m, _, _, rfl, s03, eA3, eC3, List.length_take ..⟩ ?_ ?_ ?_
    · rintro i σ H4 _ ⟨_, _, _, _, _, e4, _⟩
      exact SqL.of e4
    · rintro i z σ H4 H5 hi ⟨cs, y3, y4, rfl, s4, eA4, eC4, cl4⟩ ⟨T, x1, x2, rfl, nT, rfl, ex1, ex2⟩
      cases ex1
      dsimp only at ex2
      obtain ⟨cell, _, rfl⟩ := List.mem_map.mp (sub _ (List.mem_of_getElem? ex2))
      have lm : m < ns.length := by
        rcases Nat.lt_or_ge m ns.length with w | w
        · exact w
        · rw [non w] at hi; exact absurd hi (Nat.not_lt_zero _)
      have sT := same_new (o := .tup [.int ((i : Nat) : Int), .int cell]) nT
      have eC5 := sT _ _ eC4
      refine ⟨T, _, rfl, SqT.of upd_same, rfl, _, _, rfl, _, _, rfl, rfl, ?_⟩
      have s5 := s4.trans sT
      have eA5 := sT _ _ eA4
      generalize upd H4 T (.tup [.int ((i : Nat) : Int), .int cell]) = H5 at eC5 s5 eA5 ⊢
      obtain ⟨r, er⟩ : ∃ r : Nat, ((i : Nat) : Int) % (m : Int) = (r : Int) := ⟨i % m, by omega⟩
      have rm : r < m := by
        have := Int.emod_lt_of_pos ((i : Nat) : Int) (show (0 : Int) < (m : Int) by omega)
        omega
      have hr' : r < cs.length := by omega
      have gr : (cs.map V.int)[r]? = some (.int cs[r]) := by rw [List.getElem?_map, List.getElem?_eq_getElem hr']; rfl
      have mp : (0 : Int) < (m : Int) := by omega
      refine ⟨_, rfl, _, rfl, _, rfl, _, _, rfl, rfl, mp, ?_⟩
      have ixr : ixN (cs.map V.int).length (((i : Nat) : Int) % (m : Int)) = some r := by
        rw [er, List.length_map]
        unfold ixN
        rw [if_pos (by omega), if_pos (by omega), Int.toNat_natCast]
      refine ⟨C, _, ((i : Nat) : Int) % (m : Int), _, rfl, rfl, SqL.of eC5, by rw [er]; exact atI_nat gr, ?_⟩
      refine ⟨_, rfl, _, rfl, _, _, rfl, rfl, _, _, rfl, rfl, .inr ⟨by omega, by omega⟩, _, _, rfl, rfl, ?_⟩
      refine ⟨_, rfl, _, rfl, _, rfl, _, _, rfl, rfl, mp, C, _, _, r, rfl, rfl, eC5, ixr, ?_⟩
      refine ⟨cs.set r (cs[r] + cell * (((i : Nat) : Int) + 2)), _, _, rfl, Same.put s5 nC0, by rw [upd_ne CA]; exact eA5, ?_, by rw [List.length_set]; exact cl4⟩
      rw [upd_same, List.map_set]
    · rintro σ H4 ⟨cs, y3, y4, rfl, s4, eA4, eC4, cl4⟩
      exact ⟨_, rfl, q C cs H4 nC0 s4 eC4 cl4⟩
end
end My

set_option Elab.async false
set_option linter.all false
set_option maxRecDepth 100000
set_option pp.maxSteps 400
set_option maxHeartbeats 4000000
namespace My
open PySem PySem.Spec PyProof.Rows L2 GxR
/-! for each place the dict of those that it is tied to -/
def OneK (H : Hp) (ts : List (Int × Int)) (i : Int) (d : Addr) (k : Nat) : Prop := ∃ kvs : List (Key × V), H d = some (.dK kvs) ∧ kvs.length ≤ k ∧ ∀ x : Int, (valV kvs (Sum.inl x)).isSome = adjB ts i x
structure OnesAt (H : Hp) (O : Addr) (n : Nat) (ts : List (Int × Int)) : Prop where
  ex : ∃ ds : List Addr, H O = some (.lst (ds.map V.ref)) ∧ ds.length = n ∧ ∀ (i : Nat) (d : Addr), ds[i]? = some d → ∃ k, OneK H ts (i : Int) d k
theorem OnesAt.mono {H H' : Hp} {O : Addr} {n : Nat} {ts : List (Int × Int)} (h : OnesAt H O n ts) (s : Same H H') : OnesAt H' O n ts := by
  obtain ⟨ds, h1, h2, h3⟩ := h.ex
  refine ⟨ds, s _ _ h1, h2, fun i d e => ?_⟩
  obtain ⟨k, kvs, a, b, c⟩ := h3 i d e
  exact ⟨k, kvs, s _ _ a, b, c⟩
theorem OnesAt.fl {PM L : Addr} {H H' : Hp} {O : Addr} {n : Nat} {ts : List (Int × Int)} {c : Int} (h : OnesAt H O n ts) (f : FL PM L H H') (tg : TabG H PM) (lf : Lf H L c) (ne : O ≠ L) : OnesAt H' O n ts := by
  obtain ⟨ds, h1, h2, h3⟩ := h.ex
  refine ⟨ds, f.lst tg ne h1, h2, fun i d e => ?_⟩
  obtain ⟨k, kvs, a, b, z⟩ := h3 i d e
  refine ⟨k, kvs, f d _ (fun w => ?_) (fun w => ?_) a, b, z⟩
  · obtain ⟨x, y, u, e2, _⟩ := lf
    rw [w, e2] at a; cases a
  · obtain ⟨ps, p1, _⟩ := tg
    rw [w, p1] at a; cases a
theorem OnesAt.fr {L : Addr} {H H' : Hp} {O : Addr} {n : Nat} {ts : List (Int × Int)} {c : Int} (h : OnesAt H O n ts) (f : Fr L H H') (lf : Lf H L c) (ne : O ≠ L) : OnesAt H' O n ts := by
  obtain ⟨ds, h1, h2, h3⟩ := h.ex
  refine ⟨ds, f _ _ ne h1, h2, fun i d e => ?_⟩
  obtain ⟨k, kvs, a, b, z⟩ := h3 i d e
  refine ⟨k, kvs, f d _ (fun w => ?_) a, b, z⟩
  obtain ⟨x, y, u, e2, _⟩ := lf
  rw [w, e2] at a; cases a
/-- the dict of a place -/
theorem OnesAt.get {H : Hp} {O : Addr} {n : Nat} {ts : List (Int × Int)} (h : OnesAt H O n ts) {i : Int} (h0 : 0 ≤ i) (h1 : i < (n : Int)) : ∃ (xs : List V) (d : Addr) (kvs : List (Key × V)), H O = some (.lst xs) ∧ atI xs i = some (.ref d) ∧ H d = some (.dK kvs) ∧ ∀ x : Int, (valV kvs (Sum.inl x)).isSome = adjB ts i x := by
  obtain ⟨ds, e1, e2, e3⟩ := h.ex
  obtain ⟨j, rfl⟩ := natOf h0
  have lj : j < ds.length := by omega
  have gj : ds[j]? = some ds[j] := List.getElem?_eq_getElem lj
  obtain ⟨k, kvs, a, _, c⟩ := e3 j _ gj
  exact ⟨_, ds[j], kvs, e1, atI_nat (by rw [List.getElem?_map, gj]; rfl), a, c⟩
theorem adj_take_step {ts : List (Int × Int)} {j : Nat} {t : Int × Int} (e : ts[j]? = some t) (a b : Int) : adjB (ts.take (j + 1)) a b = (adjB (ts.take j) a b || decide (tieO a b = t)) := by
  unfold adjB
  rw [List.take_add_one, e, Bool.eq_iff_iff, Bool.or_eq_true, decide_eq_true_iff, decide_eq_true_iff, decide_eq_true_iff, List.mem_append]
  show _ ∨ _ ∈ [t] ↔ _
  rw [List.mem_singleton]
theorem tieO_isM {t : Int × Int} (ht : t.1 < t.2) (a b : Int) : tieO a b = t ↔ (a = t.1 ∧ b = t.2) ∨ (a = t.2 ∧ b = t.1) := by
  unfold tieO
  by_cases h : a < b
  · rw [if_pos h]
    constructor
    · rintro rfl; exact .inl ⟨rfl, rfl⟩
    · rintro (⟨rfl, rfl⟩ | ⟨rfl, rfl⟩)
      · rfl
      · omega
  · rw [if_neg h]
    by_cases k : b < a
    · first
      | rw [if_pos k]
        constructor
        · rintro rfl; exact .inr ⟨rfl, rfl⟩
        · rintro (⟨rfl, rfl⟩ | ⟨rfl, rfl⟩)
          · omega
          · rfl
      | constructor
        · rintro rfl; exact .inr ⟨rfl, rfl⟩
        · rintro (⟨rfl, rfl⟩ | ⟨rfl, rfl⟩)
          · omega
          · rfl
    · have : a = b := by omega
      subst this
      constructor
      · intro e
        exfalso
        have h1 := congrArg Prod.fst e
        have h2 := congrArg Prod.snd e
        dsimp only at h1 h2
        omega
      · rintro (⟨e1, e2⟩ | ⟨e1, e2⟩) <;> omega
theorem some_putI (kvs : List (Key × V)) (x y : Int) (v : V) : (valV (putK kvs (Sum.inl x) v) (Sum.inl y)).isSome = ((valV kvs (Sum.inl y)).isSome || decide (y = x)) := by
  rw [valV_put]
  by_cases h : y = x
  · subst h
    rw [if_pos rfl, decide_eq_true rfl, Bool.or_true]; rfl
  · rw [if_neg (fun z => h (Sum.inl.inj z)), decide_eq_false h, Bool.or_false]
section
variable {P : Program} {w : World} {K : PySem.W.Frag} {mg : Str → Option Value} {base : Heap}
end
end My

set_option Elab.async false
set_option linter.all false
set_option maxRecDepth 100000
namespace My
open PySem PySem.Spec PyProof.Rows L2 GxR
/-! ### modules of the part of some places -/
def CloI (ts : List (Int × Int)) (I : List Int) (M : Int → Prop) : Prop := ∀ p ∈ I, ¬ M p → ∀ a ∈ I, ∀ b ∈ I, M a → M b → adjB ts p a = adjB ts p b
def moreI (ts : List (Int × Int)) (I F : List Int) : List Int := I.filter fun p => decide (p ∉ F) && partsB ts F p
theorem moreI_step (ts : List (Int × Int)) (I F : List Int) {i : Nat} {p : Int} (e : I[i]? = some p) : moreI ts (I.take (i + 1)) F = moreI ts (I.take i) F ++ (if (decide (p ∉ F) && partsB ts F p) = true then [p] else []) := by
  unfold moreI
  rw [List.take_add_one, e, List.filter_append]
  show _ ++ List.filter _ [p] = _
  rw [List.filter_cons]; rfl
structure LI (ts : List (Int × Int)) (I S0 F : List Int) : Prop where
  ex : ∃ N, F = S0 ++ N ∧ N.Nodup ∧ ∀ x ∈ N, x ∉ S0 ∧ x ∈ I
  low : ∀ M : Int → Prop, CloI ts I M → (∀ x ∈ S0, M x) → ∀ x ∈ F, M x
theorem LI.start (ts : List (Int × Int)) (I S0 : List Int) : LI ts I S0 S0 := ⟨⟨[], (List.append_nil _).symm, List.nodup_nil, fun x h => absurd h List.not_mem_nil⟩, fun M _ h => h⟩
theorem LI.inI {ts : List (Int × Int)} {I S0 F : List Int} (h : LI ts I S0 F) (hs : ∀ x ∈ S0, x ∈ I) : ∀ x ∈ F, x ∈ I := fun x hx => by
  obtain ⟨N, rfl, _, k⟩ := h.ex
  rcases List.mem_append.mp hx with z | z
  · exact hs x z
  · exact (k x z).2
theorem LI.len {ts : List (Int × Int)} {I S0 F : List Int} (h : LI ts I S0 F) : F.length ≤ S0.length + I.length := by
  obtain ⟨N, rfl, nd, k⟩ := h.ex
  have := nd_len (m := I) nd fun x hx => (k x hx).2
  rw [List.length_append]; omega
theorem LI.more {ts : List (Int × Int)} {I S0 F : List Int} (h : LI ts I S0 F) (nI : I.Nodup) (hs : ∀ x ∈ S0, x ∈ I) : LI ts I S0 (F ++ moreI ts I F) := by
  have inI := h.inI hs
  constructor
  · obtain ⟨N, rfl, nd, k⟩ := h.ex
    have km : ∀ x ∈ moreI ts I (S0 ++ N), x ∈ I ∧ x ∉ S0 ++ N := fun x hx => by
      obtain ⟨h1, h2⟩ := List.mem_filter.mp hx
      rw [Bool.and_eq_true, decide_eq_true_iff] at h2
      exact ⟨h1, h2.1⟩
    refine ⟨N ++ moreI ts I (S0 ++ N), by rw [List.append_assoc], ?_, fun x hx => ?_⟩
    · rw [List.nodup_append]
      exact ⟨nd, nI.filter _, fun a ha b hb e => (km b hb).2 (List.mem_append_right _ (e ▸ ha))⟩
    · rcases List.mem_append.mp hx with z | z
      · exact k x z
      · exact ⟨fun w => (km x z).2 (List.mem_append_left _ w), (km x z).1⟩
  · intro M hM hS x hx
    rcases List.mem_append.mp hx with z | z
    · exact h.low M hM hS x z
    · obtain ⟨h1, h2⟩ := List.mem_filter.mp z
      rw [Bool.and_eq_true] at h2
      obtain ⟨⟨a, ha, e1⟩, b, hb, e2⟩ := parts_iff.mp h2.2
      refine Classical.byContradiction fun n => ?_
      have := hM x h1 n a (inI a ha) b (inI b hb) (h.low M hM hS a ha) (h.low M hM hS b hb)
      rw [e1, e2] at this; cases this
theorem LI.clo {ts : List (Int × Int)} {I F : List Int} (e : moreI ts I F = []) : CloI ts I (· ∈ F) := fun p hp n a _ b _ ha hb => by
  have : p ∉ moreI ts I F := by rw [e]; exact List.not_mem_nil
  have np : partsB ts F p = false := by
    cases h : partsB ts F p with
    | false => rfl
    | true => exact absurd (List.mem_filter.mpr ⟨hp, by rw [decide_eq_true n, h]; rfl⟩) this
  cases ea : adjB ts p a with
  | true =>
    cases eb : adjB ts p b with
    | true => rfl
    | false => rw [parts_iff.mpr ⟨⟨a, ha, ea⟩, b, hb, eb⟩] at np; cases np
  | false =>
    cases eb : adjB ts p b with
    | false => rfl
    | true => rw [parts_iff.mpr ⟨⟨b, hb, eb⟩, a, ha, ea⟩] at np; cases np
/-- the least module of S0 in the part of I, rising; what S0 has twice it has twice -/
structure LeastI (ts : List (Int × Int)) (I S0 L : List Int) : Prop where
  perm : ∃ N, L.Perm (S0 ++ N) ∧ N.Nodup ∧ ∀ x ∈ N, x ∉ S0 ∧ x ∈ I
  srt : L.Pairwise (· ≤ ·)
  low : ∀ M : Int → Prop, CloI ts I M → (∀ x ∈ S0, M x) → ∀ x ∈ L, M x
  clo : CloI ts I (· ∈ L)
theorem leastI_of {ts : List (Int × Int)} {I S0 F L : List Int} (h : LI ts I S0 F) (e : moreI ts I F = []) (pm : L.Perm F) (s : L.Pairwise (· ≤ ·)) : LeastI ts I S0 L := by
  obtain ⟨N, rfl, nd, k⟩ := h.ex
  refine ⟨⟨N, pm, nd, k⟩, s, fun M hM hS x hx => h.low M hM hS x (pm.mem_iff.mp hx), fun p hp n a ha b hb ma mb => LI.clo e p hp (fun z => n (pm.mem_iff.mpr z)) a ha b hb (pm.mem_iff.mp ma) (pm.mem_iff.mp mb)⟩
theorem LeastI.sub {ts : List (Int × Int)} {I S0 L : List Int} (h : LeastI ts I S0 L) : ∀ x ∈ S0, x ∈ L := fun x hx => by
  obtain ⟨N, pm, _, _⟩ := h.perm
  exact pm.mem_iff.mpr (List.mem_append_left _ hx)
theorem LeastI.inI {ts : List (Int × Int)} {I S0 L : List Int} (h : LeastI ts I S0 L) (hs : ∀ x ∈ S0, x ∈ I) : ∀ x ∈ L, x ∈ I := fun x hx => by
  obtain ⟨N, pm, _, k⟩ := h.perm
  rcases List.mem_append.mp (pm.mem_iff.mp hx) with z | z
  · exact hs x z
  · exact (k x z).2
theorem LeastI.nd {ts : List (Int × Int)} {I S0 L : List Int} (h : LeastI ts I S0 L) (n : S0.Nodup) : L.Nodup := by
  obtain ⟨N, pm, nd, k⟩ := h.perm
  refine pm.nodup_iff.mpr (List.nodup_append.mpr ⟨n, nd, fun a ha b hb e => (k b hb).1 (e ▸ ha)⟩)
theorem LeastI.len {ts : List (Int × Int)} {I S0 L : List Int} (h : LeastI ts I S0 L) : L.length ≤ S0.length + I.length := by
  obtain ⟨N, pm, nd, k⟩ := h.perm
  have := nd_len (m := I) nd fun x hx => (k x hx).2
  rw [pm.length_eq, List.length_append]; omega
def cntB (ts : List (Int × Int)) (F : List Int) (p : Int) : Nat := (F.filter (adjB ts p)).length
theorem cnt_parts (ts : List (Int × Int)) (F : List Int) (p : Int) : (!decide ((cntB ts F p : Int) ∈ [0, (F.length : Int)])) = partsB ts F p := by
  have key : partsB ts F p = true ↔ cntB ts F p ≠ 0 ∧ cntB ts F p ≠ F.length := by
    rw [parts_iff]
    unfold cntB
    constructor
    · rintro ⟨⟨a, ha, e1⟩, b, hb, e2⟩
      constructor
      · intro z
        have : a ∈ F.filter (adjB ts p) := List.mem_filter.mpr ⟨ha, e1⟩
        rw [List.eq_nil_of_length_eq_zero z] at this; cases this
      · intro z
        have := List.length_filter_eq_length_iff.mp z b hb
        rw [e2] at this; cases this
    · rintro ⟨h1, h2⟩
      constructor
      · obtain ⟨a, ha⟩ := List.exists_mem_of_ne_nil _ (fun z : F.filter (adjB ts p) = [] => h1 (by rw [z]; rfl))
        obtain ⟨k1, k2⟩ := List.mem_filter.mp ha
        exact ⟨a, k1, k2⟩
      · refine Classical.byContradiction fun n => h2 (List.length_filter_eq_length_iff.mpr fun b hb => ?_)
        cases e : adjB ts p b with
        | true => rfl
        | false => exact absurd ⟨b, hb, e⟩ n
  have mem : (cntB ts F p : Int) ∈ [0, (F.length : Int)] ↔ cntB ts F p = 0 ∨ cntB ts F p = F.length := by
    simp only [List.mem_cons, List.not_mem_nil, or_false]
    omega
  cases h : partsB ts F p with
  | true =>
    have := key.mp h
    rw [decide_eq_false (fun z => (mem.mp z).elim this.1 this.2)]; rfl
  | false =>
    have : ¬ (cntB ts F p ≠ 0 ∧ cntB ts F p ≠ F.length) := fun z => by rw [key.mpr z] at h; cases h
    rw [decide_eq_true (mem.mpr (by omega))]; rfl
end My

set_option Elab.async false
set_option linter.all false
set_option maxRecDepth 100000
set_option pp.maxSteps 400
set_option maxHeartbeats 4000000
namespace My
open PySem PySem.Spec PyProof.Rows L2 GxR
section
variable {P : Program} {w : World} {K : PySem.W.Frag} {mg : Str → Option Value} {base : Heap}
end
end My

set_option Elab.async false
set_option linter.all false
set_option maxRecDepth 100000
namespace My
open PySem PySem.Spec PyProof.Rows L2 GxR
/-! ### places joined by ties, or by gaps -/
def ClR (ts : List (Int × Int)) (b : Bool) (I : List Int) (A : Int → Prop) : Prop := ∀ x ∈ I, ∀ y ∈ I, A x → adjB ts x y = b → A y
/-- one's least place lies below all of the other's -/
def HdLt (S T : List Int) : Prop := ∃ s ∈ S, (∀ x ∈ S, s ≤ x) ∧ ∀ t ∈ T, s < t
theorem HdLt.irr {S : List Int} (h : HdLt S S) : False := by
  obtain ⟨s, hs, _, h⟩ := h
  have := h s hs; omega
theorem HdLt.asy {S T : List Int} (h : HdLt S T) (k : HdLt T S) : False := by
  obtain ⟨s, hs, _, h⟩ := h
  obtain ⟨t, ht, _, k⟩ := k
  have := h t ht
  have := k s hs
  omega
theorem HdLt.sub {S T U : List Int} (h : HdLt S T) (k : ∀ x ∈ U, x ∈ T) : HdLt S U := by
  obtain ⟨s, hs, h1, h2⟩ := h
  exact ⟨s, hs, h1, fun t ht => h2 t (k t ht)⟩
/-- two rows of sets in order with the same members are the same -/
theorem ord_ext : ∀ {F G : List (List Int)}, F.Pairwise HdLt → G.Pairwise HdLt → (∀ S, S ∈ F ↔ S ∈ G) → F = G
  | [], [], _, _, _ => rfl
  | [], b :: G, _, _, h => absurd ((h b).mpr List.mem_cons_self) List.not_mem_nil
  | a :: F, [], _, _, h => absurd ((h a).mp List.mem_cons_self) List.not_mem_nil
  | a :: F, b :: G, hF, hG, h => by
    obtain ⟨a1, F1⟩ := List.pairwise_cons.mp hF
    obtain ⟨b1, G1⟩ := List.pairwise_cons.mp hG
    have e : a = b := by
      rcases List.mem_cons.mp ((h a).mp List.mem_cons_self) with z | z
      · exact z
      · rcases List.mem_cons.mp ((h b).mpr List.mem_cons_self) with w | w
        · exact w.symm
        · exact absurd (HdLt.asy (b1 a z) (a1 b w)) id
    subst e
    congr 1
    refine ord_ext F1 G1 fun S => ⟨fun hS => ?_, fun hS => ?_⟩
    · rcases List.mem_cons.mp ((h S).mp (List.mem_cons_of_mem _ hS)) with z | z
      · subst z; exact absurd (HdLt.irr (a1 S hS)) id
      · exact z
    · rcases List.mem_cons.mp ((h S).mpr (List.mem_cons_of_mem _ hS)) with z | z
      · subst z; exact absurd (HdLt.irr (b1 S hS)) id
      · exact z
structure SetsI (ts : List (Int × Int)) (b : Bool) (I : List Int) (F : List (List Int)) : Prop where
  perm : F.flatten.Perm I
  ne : ∀ S ∈ F, S ≠ []
  srt : ∀ S ∈ F, S.Pairwise (· ≤ ·)
  clo : ∀ S ∈ F, ∀ x ∈ S, ∀ y ∈ I, adjB ts x y = b → y ∈ S
  con : ∀ S ∈ F, ∀ A : Int → Prop, ClR ts b I A → ∀ x ∈ S, A x → ∀ y ∈ S, A y
  ord : I.Pairwise (· < ·) → F.Pairwise HdLt
/-- some sets are found, some places are left -/
structure SetsP (ts : List (Int × Int)) (b : Bool) (I : List Int) (F : List (List Int)) (Lt : List Int) : Prop where
  perm : (F.flatten ++ Lt).Perm I
  ne : ∀ S ∈ F, S ≠ []
  srt : ∀ S ∈ F, S.Pairwise (· ≤ ·)
  clo : ∀ S ∈ F, ∀ x ∈ S, ∀ y ∈ I, adjB ts x y = b → y ∈ S
  con : ∀ S ∈ F, ∀ A : Int → Prop, ClR ts b I A → ∀ x ∈ S, A x → ∀ y ∈ S, A y
  sub : Lt.Sublist I
  ord : I.Pairwise (· < ·) → F.Pairwise HdLt ∧ ∀ S ∈ F, HdLt S Lt
theorem SetsP.start (ts : List (Int × Int)) (b : Bool) (I : List Int) : SetsP ts b I [] I := ⟨List.Perm.refl _, fun S h => absurd h List.not_mem_nil, fun S h => absurd h List.not_mem_nil, fun S h => absurd h List.not_mem_nil, fun S h => absurd h List.not_mem_nil, List.Sublist.refl _, fun _ => ⟨.nil, fun S h => absurd h List.not_mem_nil⟩⟩
theorem SetsP.done {ts : List (Int × Int)} {b : Bool} {I : List Int} {F : List (List Int)} (h : SetsP ts b I F []) : SetsI ts b I F := ⟨by have := h.perm; rwa [List.append_nil] at this, h.ne, h.srt, h.clo, h.con, fun k => (h.ord k).1⟩
/-- a set on its way -/
structure OneP (ts : List (Int × Int)) (b : Bool) (I L0 : List Int) (seed : Int) (S W Lt : List Int) : Prop where
  perm : (S ++ Lt).Perm L0
  sd : seed ∈ S
  wS : ∀ x ∈ W, x ∈ S
  wN : W.Nodup
  done : ∀ x ∈ S, x ∉ W → ∀ y ∈ Lt, adjB ts x y ≠ b
  reach : ∀ A : Int → Prop, ClR ts b I A → A seed → ∀ x ∈ S, A x
  sub : Lt.Sublist L0
  hd : ∃ l, L0 = seed :: l
theorem OneP.start {ts : List (Int × Int)} {b : Bool} {I : List Int} {seed : Int} {Lt : List Int} : OneP ts b I (seed :: Lt) seed [seed] [seed] Lt :=
  ⟨List.Perm.refl _, List.mem_singleton.mpr rfl, fun x h => h, List.nodup_cons.mpr ⟨List.not_mem_nil, List.nodup_nil⟩, fun x h n => absurd h n, fun A _ h x hx => by rw [List.mem_singleton.mp hx]; exact h, List.sublist_cons_self _ _, ⟨_, rfl⟩⟩
def candI (ts : List (Int × Int)) (b : Bool) (o : Int) (Lt : List Int) : List Int := Lt.filter fun y => decide (adjB ts o y = b)
theorem candI_step (ts : List (Int × Int)) (b : Bool) (o : Int) {Lt : List Int} {i : Nat} {y : Int} (e : Lt[i]? = some y) : candI ts b o (Lt.take (i + 1)) = candI ts b o (Lt.take i) ++ (if decide (adjB ts o y = b) = true then [y] else []) := by
  unfold candI
  rw [List.take_add_one, e, List.filter_append]
  show _ ++ List.filter _ [y] = _
  rw [List.filter_cons]; rfl
theorem OneP.step {ts : List (Int × Int)} {b : Bool} {I L0 : List Int} {seed o : Int} {S W Lt Le : List Int} (h : OneP ts b I L0 seed S (W ++ [o]) Lt) (nd : L0.Nodup) (inI : ∀ x ∈ L0, x ∈ I) (pm : (candI ts b o Lt ++ Le).Perm Lt) (sb : Le.Sublist Lt) : OneP ts b I L0 seed (S ++ candI ts b o Lt) (W ++ candI ts b o Lt) Le := by
  have oS := h.wS o (List.mem_append_right _ (List.mem_singleton.mpr rfl))
  have nSL : (S ++ Lt).Nodup := h.perm.nodup_iff.mpr nd
  rw [List.nodup_append] at nSL
  have cm : ∀ y, y ∈ candI ts b o Lt ↔ y ∈ Lt ∧ adjB ts o y = b := fun y => by unfold candI; rw [List.mem_filter, decide_eq_true_iff]
  have nL : (candI ts b o Lt ++ Le).Nodup := pm.nodup_iff.mpr nSL.2.1
  rw [List.nodup_append] at nL
  have leM : ∀ y ∈ Le, y ∈ Lt ∧ adjB ts o y ≠ b := fun y hy => by
    have hL := pm.mem_iff.mp (List.mem_append_right _ hy)
    exact ⟨hL, fun z => nL.2.2 y ((cm y).mpr ⟨hL, z⟩) y hy rfl⟩
  have mI : ∀ x ∈ S ++ Lt, x ∈ I := fun x hx => inI x (h.perm.mem_iff.mp hx)
  refine ⟨?_, List.mem_append_left _ h.sd, fun x hx => ?_, ?_, fun x hx nW y hy => ?_, fun A cA sA x hx => ?_, sb.trans h.sub, h.hd⟩
  · rw [List.append_assoc]
    exact (List.Perm.append_left S pm).trans h.perm
  · rcases List.mem_append.mp hx with z | z
    · exact List.mem_append_left _ (h.wS x (List.mem_append_left _ z))
    · exact List.mem_append_right _ z
  · have wN := h.wN
    rw [List.nodup_append] at wN ⊢
    refine ⟨wN.1, nL.1, fun a ha c hc e => ?_⟩
    have := h.wS a (List.mem_append_left _ ha)
    exact nSL.2.2 a this c ((cm c).mp hc).1 e
  · obtain ⟨yL, yo⟩ := leM y hy
    by_cases xo : x = o
    · rw [xo]; exact yo
    · rcases List.mem_append.mp hx with z | z
      · refine h.done x z (fun w => ?_) y yL
        rcases List.mem_append.mp w with w | w
        · exact nW (List.mem_append_left _ w)
        · exact xo (List.mem_singleton.mp w)
      · exact absurd (List.mem_append_right _ z) nW
  · rcases List.mem_append.mp hx with z | z
    · exact h.reach A cA sA x z
    · obtain ⟨k1, k2⟩ := (cm x).mp z
      exact cA o (mI o (List.mem_append_left _ oS)) x (mI x (List.mem_append_right _ k1)) (h.reach A cA sA o oS) k2
theorem SetsP.add {ts : List (Int × Int)} {b : Bool} {I : List Int} {F : List (List Int)} {L0 S Lt T : List Int} {seed : Int} (h : SetsP ts b I F L0) (nd : I.Nodup) (o : OneP ts b I L0 seed S [] Lt) (pm : T.Perm S) (st : T.Pairwise (· ≤ ·)) : SetsP ts b I (F ++ [T]) Lt := by
  have nI : (F.flatten ++ L0).Nodup := h.perm.nodup_iff.mpr nd
  have n0 := List.nodup_append.mp nI
  have sI : ∀ x ∈ S, x ∈ I := fun x hx => h.perm.mem_iff.mp (List.mem_append_right _ (o.perm.mem_iff.mp (List.mem_append_left _ hx)))
  have sdI := sI seed o.sd
  refine ⟨?_, fun U hU => ?_, fun U hU => ?_, fun U hU => ?_, fun U hU => ?_, o.sub.trans h.sub, fun hI => ?_⟩
  · rw [List.flatten_append, List.flatten_cons, List.flatten_nil, List.append_nil, List.append_assoc]
    exact (List.Perm.append_left _ ((List.Perm.append_right Lt pm).trans o.perm)).trans h.perm
  · rcases List.mem_append.mp hU with z | z
    · exact h.ne U z
    · rw [List.mem_singleton.mp z]
      exact fun e => by rw [e] at pm; have := pm.mem_iff.mpr o.sd; cases this
  · rcases List.mem_append.mp hU with z | z
    · exact h.srt U z
    · rw [List.mem_singleton.mp z]; exact st
  · rcases List.mem_append.mp hU with z | z
    · exact h.clo U z
    · rw [List.mem_singleton.mp z]
      intro x hx y hy e
      have xS := pm.mem_iff.mp hx
      refine pm.mem_iff.mpr ?_
      rcases List.mem_append.mp (h.perm.mem_iff.mpr hy) with w | w
      · exfalso
        obtain ⟨V', hV, yV⟩ := List.mem_flatten.mp w
        have xV := h.clo V' hV y yV x (sI x xS) (by rw [adj_comm]; exact e)
        exact n0.2.2 x (List.mem_flatten.mpr ⟨V', hV, xV⟩) x (o.perm.mem_iff.mp (List.mem_append_left _ xS)) rfl
      · rcases List.mem_append.mp (o.perm.mem_iff.mpr w) with k | k
        · exact k
        · exact absurd e (o.done x xS List.not_mem_nil y k)
  · rcases List.mem_append.mp hU with z | z
    · exact h.con U z
    · rw [List.mem_singleton.mp z]
      intro A cA x hx ax y hy
      have sA : A seed := by
        refine Classical.byContradiction fun n => ?_
        have cN : ClR ts b I (fun z => ¬ A z) := fun u hu v hv nu e av => nu (cA v hv u hu av (by rw [adj_comm]; exact e))
        exact o.reach _ cN n x (pm.mem_iff.mp hx) ax
      exact o.reach A cA sA y (pm.mem_iff.mp hy)
  · obtain ⟨k1, k2⟩ := h.ord hI
    have T0 : ∀ x ∈ T, x ∈ L0 := fun x hx => o.perm.mem_iff.mp (List.mem_append_left _ (pm.mem_iff.mp hx))
    have Lt0 : ∀ x ∈ Lt, x ∈ L0 := fun x hx => o.perm.mem_iff.mp (List.mem_append_right _ hx)
    have nS := List.nodup_append.mp (o.perm.nodup_iff.mpr n0.2.1)
    have le0 : ∀ x ∈ L0, seed ≤ x := fun x hx => by
      have p0 := hI.sublist h.sub
      obtain ⟨l, hl⟩ := o.hd
      rw [hl] at hx p0
      rcases List.mem_cons.mp hx with z | z
      · omega
      · have := (List.pairwise_cons.mp p0).1 x z; omega
    have hT : HdLt T Lt := ⟨seed, pm.mem_iff.mpr o.sd, fun x hx => le0 x (T0 x hx), fun t ht => by
      have h1 := le0 t (Lt0 t ht)
      have h2 : seed ≠ t := fun e => nS.2.2 seed o.sd t ht e
      omega⟩
    refine ⟨?_, fun U hU => ?_⟩
    · rw [List.pairwise_append]
      exact ⟨k1, List.pairwise_singleton _ _, fun U hU V hV => by rw [List.mem_singleton.mp hV]; exact (k2 U hU).sub T0⟩
    · rcases List.mem_append.mp hU with z | z
      · exact (k2 U z).sub Lt0
      · rw [List.mem_singleton.mp z]; exact hT
theorem erase_permI {l : List Int} {j : Nat} {x : Int} (e : l[j]? = some x) : (x :: l.eraseIdx j).Perm l := by
  obtain ⟨hj, rfl⟩ := List.getElem?_eq_some_iff.mp e
  exact erase_perm hj
theorem idx_at1 {ns : List Int} {x : Int} (h : x ∈ ns) : ns[ns.idxOf x]? = some x ∧ ∀ m : Nat, m < ns.idxOf x → ns[m]? ≠ some x := by
  refine ⟨idx_get h, fun m hm e => ?_⟩
  obtain ⟨l, e2⟩ := List.getElem?_eq_some_iff.mp e
  have := List.not_of_lt_findIdx (xs := ns) (p := fun y => y == x) hm
  rw [e2] at this
  simp at this
end My

set_option Elab.async false
set_option linter.all false
set_option maxRecDepth 100000
set_option pp.maxSteps 400
set_option maxHeartbeats 4000000
namespace My
open PySem PySem.Spec PyProof.Rows L2 GxR
/-- lists of numbers, each a new one -/
def LsN (bad : List Addr) (H : Hp) (v : V) (A : List Int) : Prop := ∃ q, v = .ref q ∧ q ∉ bad ∧ H q = some (.lst (A.map V.int))
section
variable {P : Program} {w : World} {K : PySem.W.Frag} {mg : Str → Option Value} {base : Heap}
end
end My

set_option Elab.async false
set_option linter.all false
set_option maxRecDepth 100000
namespace My
open PySem PySem.Spec PyProof.Rows L2 GxR
/-! ### the parts of places that neither ties nor gaps leave apart -/
/-- neither ties nor gaps leave I apart -/
structure Whl (ts : List (Int × Int)) (I : List Int) : Prop where
  con : ∀ (b : Bool) (A : Int → Prop), ClR ts b I A → ∀ x ∈ I, A x → ∀ y ∈ I, A y
theorem whl_of {ts : List (Int × Int)} {I : List Int} {F1 F2 : List (List Int)} (h1 : SetsI ts true I F1) (h2 : SetsI ts false I F2) (l1 : ¬ 1 < F1.length) (l2 : ¬ 1 < F2.length) : Whl ts I := by
  have one : ∀ (b : Bool) (F : List (List Int)), SetsI ts b I F → ¬ 1 < F.length → ∀ A : Int → Prop, ClR ts b I A → ∀ x ∈ I, A x → ∀ y ∈ I, A y := fun b F h l A cA x hx ax y hy => by
    obtain ⟨S, hS, xS⟩ := List.mem_flatten.mp (h.perm.mem_iff.mpr hx)
    obtain ⟨T, hT, yT⟩ := List.mem_flatten.mp (h.perm.mem_iff.mpr hy)
    have e : S = T := by
      rcases F with _ | ⟨U, _ | ⟨V', G⟩⟩
      · cases hS
      · rw [List.mem_singleton.mp hS, List.mem_singleton.mp hT]
      · exact absurd (by simp) l
    subst e
    exact h.con S hS A cA x xS ax y yT
  refine ⟨fun b => ?_⟩
  cases b with
  | true => exact one true F1 h1 l1
  | false => exact one false F2 h2 l2
theorem cloI_both {ts : List (Int × Int)} {I : List Int} {M N : Int → Prop} (hM : CloI ts I M) (hN : CloI ts I N) {c : Int} (cI : c ∈ I) (cM : M c) (cN : N c) : CloI ts I (fun x => M x ∨ N x) := fun p hp np a ha b hb ma mb => by
  have k : ∀ x ∈ I, M x ∨ N x → adjB ts p x = adjB ts p c := fun x hx m => by
    rcases m with m | m
    · exact hM p hp (fun z => np (.inl z)) x hx c cI m cM
    · exact hN p hp (fun z => np (.inr z)) x hx c cI m cN
  exact (k a ha ma).trans (k b hb mb).symm
/-- two modules that meet, each of which lacks a place, lack one together -/
theorem two_lack {ts : List (Int × Int)} {I : List Int} (w : Whl ts I) {M N : Int → Prop} (hM : CloI ts I M) (hN : CloI ts I N) {c a b : Int} (cI : c ∈ I) (cM : M c) (cN : N c) (aI : a ∈ I) (aN : ¬ N a) (bI : b ∈ I) (bM : ¬ M b) : ∃ z ∈ I, ¬ (M z ∨ N z) := by
  refine Classical.byContradiction fun no => ?_
  have all : ∀ z ∈ I, M z ∨ N z := fun z hz => Classical.byContradiction fun n => no ⟨z, hz, n⟩
  have aM : M a := (all a aI).resolve_right aN
  have bN : N b := (all b bI).resolve_left bM
  have k : ∀ x ∈ I, ¬ N x → ∀ y ∈ I, N y → adjB ts x y = adjB ts b a := fun x hx nx y hy ny => by
    have mx : M x := (all x hx).resolve_right nx
    have e1 := hN x hx nx y hy b bI ny bN
    have e2 := hM b bI bM x hx a aI mx aM
    rw [e1, adj_comm ts x b, e2]
  have cA : ClR ts (!adjB ts b a) I (fun x => ¬ N x) := fun x hx y hy nx e ny => by
    rw [k x hx nx y hy ny] at e
    cases h : adjB ts b a <;> rw [h] at e <;> cases e
  exact w.con _ _ cA a aI aN b bI bN
/-- a module has both that lacks a place -/
def Pr (ts : List (Int × Int)) (I : List Int) (p q : Int) : Prop := ∃ M : Int → Prop, CloI ts I M ∧ M p ∧ M q ∧ ∃ z ∈ I, ¬ M z
theorem Pr.symm {ts : List (Int × Int)} {I : List Int} {p q : Int} (h : Pr ts I p q) : Pr ts I q p := by
  obtain ⟨M, a, b, c, d⟩ := h
  exact ⟨M, a, c, b, d⟩
theorem Pr.trans {ts : List (Int × Int)} {I : List Int} (w : Whl ts I) {p q r : Int} (qI : q ∈ I) (h : Pr ts I p q) (k : Pr ts I q r) : Pr ts I p r := by
  obtain ⟨M, a, b, c, zb, z1, z2⟩ := h
  obtain ⟨N, a', b', c', za, y1, y2⟩ := k
  exact ⟨fun x => M x ∨ N x, cloI_both a a' qI c b', .inl b, .inr c', two_lack w a a' qI c b' y1 y2 z1 z2⟩
theorem cloI_one (ts : List (Int × Int)) (I : List Int) (p : Int) : CloI ts I (fun x => x = p) := fun q _ _ a _ b _ ha hb => by rw [ha, hb]
theorem whl_two {ts : List (Int × Int)} {I : List Int} (w : Whl ts I) {a b : Int} (aI : a ∈ I) (bI : b ∈ I) (ab : a ≠ b) : ∃ c ∈ I, c ≠ a ∧ c ≠ b := by
  refine Classical.byContradiction fun no => ?_
  have all : ∀ z ∈ I, z = a ∨ z = b := fun z hz => Classical.byContradiction fun n => no ⟨z, hz, fun e => n (.inl e), fun e => n (.inr e)⟩
  have cA : ClR ts (!adjB ts a b) I (fun x => x = a) := fun x hx y hy ex e => by
    subst ex
    rcases all y hy with z | z
    · exact z
    · subst z
      cases h : adjB ts x y <;> rw [h] at e <;> cases e
  exact ab (w.con _ _ cA a aI rfl b bI).symm
theorem Pr.refl {ts : List (Int × Int)} {I : List Int} {p q : Int} (qI : q ∈ I) (n : q ≠ p) : Pr ts I p p := ⟨fun x => x = p, cloI_one ts I p, rfl, rfl, q, qI, n⟩
open Classical in
noncomputable def clsI (ts : List (Int × Int)) (I : List Int) (p : Int) : List Int := I.filter fun q => decide (Pr ts I p q)
open Classical in
theorem mem_clsI {ts : List (Int × Int)} {I : List Int} {p q : Int} : q ∈ clsI ts I p ↔ q ∈ I ∧ Pr ts I p q := by
  unfold clsI
  rw [List.mem_filter, decide_eq_true_iff]
open Classical in
theorem clsI_eq {ts : List (Int × Int)} {I : List Int} (w : Whl ts I) {p q : Int} (pI : p ∈ I) (qI : q ∈ I) (h : Pr ts I p q) : clsI ts I p = clsI ts I q := by
  unfold clsI
  refine List.filter_congr fun x hx => ?_
  refine decide_eq_decide.mpr ⟨fun k => h.symm.trans w pI k, fun k => h.trans w qI k⟩
/-- not all are near -/
theorem cls_lack {ts : List (Int × Int)} {I : List Int} (w : Whl ts I) {p q : Int} (pI : p ∈ I) (qI : q ∈ I) (n : q ≠ p) : ∃ z ∈ I, z ∉ clsI ts I p := by
  refine Classical.byContradiction fun no => ?_
  have all : ∀ z ∈ I, Pr ts I p z := fun z hz => Classical.byContradiction fun k => no ⟨z, hz, fun m => k (mem_clsI.mp m).2⟩
  have key : ∀ l : List Int, (∀ x ∈ l, x ∈ I) → ∃ M : Int → Prop, CloI ts I M ∧ M p ∧ (∀ x ∈ l, M x) ∧ ∃ z ∈ I, ¬ M z := fun l => by
    induction l with
    | nil => intro _; exact ⟨fun x => x = p, cloI_one ts I p, rfl, fun x h => absurd h List.not_mem_nil, q, qI, n⟩
    | cons x l ih =>
      intro hl
      obtain ⟨M, a, b, c, zb, z1, z2⟩ := ih fun y hy => hl y (List.mem_cons_of_mem _ hy)
      obtain ⟨N, a', b', c', za, y1, y2⟩ := all x (hl x List.mem_cons_self)
      refine ⟨fun y => M y ∨ N y, cloI_both a a' pI b b', .inl b, fun y hy => ?_, two_lack w a a' pI b b' y1 y2 z1 z2⟩
      rcases List.mem_cons.mp hy with e | e
      · subst e; exact .inr c'
      · exact .inl (c y e)
  obtain ⟨M, _, _, c, z, z1, z2⟩ := key I fun _ h => h
  exact z2 (c z z1)
theorem ltLen {I L : List Int} (nL : L.Nodup) (sub : ∀ x ∈ L, x ∈ I) {z : Int} (zI : z ∈ I) (zL : z ∉ L) : L.length < I.length := by
  have := nd_len (l := z :: L) (m := I) (List.nodup_cons.mpr ⟨zL, nL⟩) fun x hx => by
    rcases List.mem_cons.mp hx with e | e
    · rw [e]; exact zI
    · exact sub x e
  rw [List.length_cons] at this; omega
/-- the least module of two places lacks a place just where some module does -/
theorem least_lt {ts : List (Int × Int)} {I L : List Int} {p q : Int} (w : Whl ts I) (nI : I.Nodup) (pI : p ∈ I) (qI : q ∈ I) {u : Int} (uI : u ∈ I) (up : u ≠ p) (h : LeastI ts I [p, q] L) : L.length < I.length ↔ Pr ts I p q := by
  have inL := h.inI (fun x hx => by
    rcases List.mem_cons.mp hx with e | e
    · rw [e]; exact pI
    · rw [List.mem_singleton.mp e]; exact qI)
  by_cases e : q = p
  · subst e
    have all : ∀ x ∈ L, x = q := h.low (fun x => x = q) (cloI_one ts I q) (fun x hx => by
      rcases List.mem_cons.mp hx with e | e
      · exact e
      · exact List.mem_singleton.mp e)
    obtain ⟨N, pm, nd, k⟩ := h.perm
    have N0 : N = [] := by
      cases N with
      | nil => rfl
      | cons x N =>
        have x1 := all x (pm.mem_iff.mpr (List.mem_append_right _ List.mem_cons_self))
        exact absurd (by rw [x1]; exact List.mem_cons_self) (k x List.mem_cons_self).1
    have l2 : L.length = 2 := by rw [pm.length_eq, N0]; rfl
    obtain ⟨c, cI, c1, c2⟩ := whl_two w pI uI (Ne.symm up)
    have l3 : 3 ≤ I.length := by
      have := nd_len (l := [q, u, c]) (m := I) (by simp [up.symm, c1.symm, c2.symm]) fun x hx => by
        simp only [List.mem_cons, List.not_mem_nil, or_false] at hx
        rcases hx with rfl | rfl | rfl
        · exact pI
        · exact uI
        · exact cI
      exact this
    exact ⟨fun _ => Pr.refl uI up, fun _ => by omega⟩
  · have nL := h.nd (show [p, q].Nodup from List.nodup_cons.mpr ⟨fun z => e (List.mem_singleton.mp z).symm, List.nodup_cons.mpr ⟨List.not_mem_nil, List.nodup_nil⟩⟩)
    constructor
    · intro lt
      refine ⟨(· ∈ L), h.clo, h.sub p List.mem_cons_self, h.sub q (List.mem_cons_of_mem _ List.mem_cons_self), ?_⟩
      refine Classical.byContradiction fun no => ?_
      have := nd_len nI fun x hx => Classical.byContradiction fun k => no ⟨x, hx, k⟩
      exact absurd (this : I.length ≤ L.length) (by omega)
    · rintro ⟨M, a, b, c, z, z1, z2⟩
      refine ltLen nL inL z1 fun k => z2 (h.low M a (fun x hx => ?_) z k)
      rcases List.mem_cons.mp hx with e | e
      · rw [e]; exact b
      · rw [List.mem_singleton.mp e]; exact c
/-- the unlike classes found so far -/
structure ClsG (ts : List (Int × Int)) (I : List Int) (i : Nat) (G : List (List Int)) : Prop where
  src : ∀ S ∈ G, ∃ p ∈ I.take i, S = clsI ts I p
  got : ∀ p ∈ I.take i, clsI ts I p ∈ G
  nd : G.Nodup
  ord : Whl ts I → I.Pairwise (· < ·) → (∃ u v, u ∈ I ∧ v ∈ I ∧ u ≠ v) → G.Pairwise HdLt
theorem rise_hd {S : List Int} (r : S.Pairwise (· < ·)) {q : Int} (hq : q ∈ S) : ∃ s ∈ S, (∀ x ∈ S, s ≤ x) := by
  cases S with
  | nil => cases hq
  | cons a l =>
    refine ⟨a, List.mem_cons_self, fun x hx => ?_⟩
    rcases List.mem_cons.mp hx with e | e
    · omega
    · have := (List.pairwise_cons.mp r).1 x e; omega
theorem ClsG.start (ts : List (Int × Int)) (I : List Int) : ClsG ts I 0 [] := ⟨fun S h => absurd h List.not_mem_nil, fun p h => absurd h (by rw [List.take_zero]; exact List.not_mem_nil), List.nodup_nil, fun _ _ _ => .nil⟩
theorem ClsG.step {ts : List (Int × Int)} {I : List Int} {i : Nat} {G : List (List Int)} {p : Int} (h : ClsG ts I i G) (e : I[i]? = some p) : ClsG ts I (i + 1) (if clsI ts I p ∈ G then G else G ++ [clsI ts I p]) := by
  have st : I.take (i + 1) = I.take i ++ [p] := by rw [List.take_add_one, e]; rfl
  by_cases k : clsI ts I p ∈ G
  · rw [if_pos k]
    refine ⟨fun S hS => ?_, fun q hq => ?_, h.nd, h.ord⟩
    · obtain ⟨r, hr, e⟩ := h.src S hS
      exact ⟨r, by rw [st]; exact List.mem_append_left _ hr, e⟩
    · rw [st] at hq
      rcases List.mem_append.mp hq with z | z
      · exact h.got q z
      · rw [List.mem_singleton.mp z]; exact k
  · rw [if_neg k]
    refine ⟨fun S hS => ?_, fun q hq => ?_, ?_, fun w r two => ?_⟩
    · rcases List.mem_append.mp hS with z | z
      · obtain ⟨r, hr, e⟩ := h.src S z
        exact ⟨r, by rw [st]; exact List.mem_append_left _ hr, e⟩
      · exact ⟨p, by rw [st]; exact List.mem_append_right _ (List.mem_singleton.mpr rfl), List.mem_singleton.mp z⟩
    · rw [st] at hq
      rcases List.mem_append.mp hq with z | z
      · exact List.mem_append_left _ (h.got q z)
      · rw [List.mem_singleton.mp z]; exact List.mem_append_right _ (List.mem_singleton.mpr rfl)
    · rw [List.nodup_append]
      exact ⟨h.nd, List.nodup_cons.mpr ⟨List.not_mem_nil, List.nodup_nil⟩, fun a ha b hb e => k (by rw [List.mem_singleton.mp hb] at e; exact e ▸ ha)⟩
    · rw [List.pairwise_append]
      refine ⟨h.ord w r two, List.pairwise_singleton _ _, fun S hS T hT => ?_⟩
      rw [List.mem_singleton.mp hT]
      obtain ⟨q, hq, rfl⟩ := h.src S hS
      have qI := List.take_subset _ _ hq
      obtain ⟨u, v, uI, vI, uv⟩ := two
      have other : ∀ x : Int, ∃ z ∈ I, z ≠ x := fun x => by
        by_cases e : u = x
        · exact ⟨v, vI, fun z => uv (e.trans z.symm)⟩
        · exact ⟨u, uI, e⟩
      obtain ⟨z, zI, zq⟩ := other q
      have qq : q ∈ clsI ts I q := mem_clsI.mpr ⟨qI, Pr.refl zI zq⟩
      have rS : (clsI ts I q).Pairwise (· < ·) := r.sublist List.filter_sublist
      obtain ⟨s, s1, s2⟩ := rise_hd rS qq
      refine ⟨s, s1, s2, fun t ht => ?_⟩
      obtain ⟨tI, tp⟩ := mem_clsI.mp ht
      have pI := List.mem_of_getElem? e
      have sq := s2 q qq
      -- q is ahead of p, and t is not ahead of p
      obtain ⟨a, al, ea⟩ := List.mem_iff_getElem.mp hq
      rw [List.length_take] at al
      rw [List.getElem_take] at ea
      obtain ⟨hi, ep⟩ := List.getElem?_eq_some_iff.mp e
      have qp : q < p := by
        have := List.pairwise_iff_getElem.mp r a i (by omega) hi (by omega)
        rw [ea, ep] at this; exact this
      obtain ⟨c, cl, ec⟩ := List.mem_iff_getElem.mp tI
      have ic : i ≤ c := by
        refine Classical.byContradiction fun no => k ?_
        have tt : t ∈ I.take i := List.mem_iff_getElem.mpr ⟨c, by rw [List.length_take]; omega, by rw [List.getElem_take]; exact ec⟩
        rw [clsI_eq w pI tI tp]
        exact h.got t tt
      have pt : p ≤ t := by
        rcases Nat.eq_or_lt_of_le ic with z | z
        · subst z; rw [ep] at ec; omega
        · have := List.pairwise_iff_getElem.mp r i c hi cl z
          rw [ep, ec] at this; omega
      omega
theorem ClsG.len {ts : List (Int × Int)} {I : List Int} {i : Nat} {G : List (List Int)} (h : ClsG ts I i G) (il : i ≤ I.length) : G.length ≤ i := by
  haveI : DecidableEq (List Int) := inferInstance
  have := nd_len (m := (I.take i).map (clsI ts I)) h.nd fun S hS => by
    obtain ⟨p, hp, e⟩ := h.src S hS
    exact List.mem_map.mpr ⟨p, hp, e.symm⟩
  rw [List.length_map, List.length_take] at this
  omega
/-- a partition of I into rising lists, each lesser than I -/
structure PartI (I : List Int) (G : List (List Int)) : Prop where
  perm : G.flatten.Perm I
  ne : ∀ S ∈ G, S ≠ []
  rise : ∀ S ∈ G, S.Pairwise (· < ·)
  two : 2 ≤ G.length
theorem PartI.mem {I : List Int} {G : List (List Int)} (h : PartI I G) {S : List Int} (hS : S ∈ G) : ∀ x ∈ S, x ∈ I := fun x hx => h.perm.mem_iff.mp (List.mem_flatten.mpr ⟨S, hS, hx⟩)
theorem PartI.less {I : List Int} {G : List (List Int)} (h : PartI I G) {S : List Int} (hS : S ∈ G) : S.length < I.length := by
  have key : ∀ G : List (List Int), (∀ S ∈ G, S ≠ []) → 2 ≤ G.length → ∀ S ∈ G, S.length < G.flatten.length := fun G => by
    match G with
    | [] => intro _ l; exact absurd l (by decide)
    | [_] => intro _ l; exact absurd l (by simp)
    | A :: B :: G =>
      intro ne _ S hS
      rw [List.flatten_cons, List.length_append]
      have a := List.length_pos_iff.mpr (ne A List.mem_cons_self)
      have b := List.length_pos_iff.mpr (ne B (List.mem_cons_of_mem _ List.mem_cons_self))
      have bl : B.length ≤ (B :: G).flatten.length := by rw [List.flatten_cons, List.length_append]; omega
      rcases List.mem_cons.mp hS with e | e
      · rw [e]; omega
      · have : ∀ L : List (List Int), S ∈ L → S.length ≤ L.flatten.length := fun L => by
          induction L with
          | nil => intro h; cases h
          | cons C L ih =>
            intro h
            rw [List.flatten_cons, List.length_append]
            rcases List.mem_cons.mp h with z | z
            · rw [z]; omega
            · have := ih z; omega
        have := this _ e
        omega
  rw [← h.perm.length_eq]
  exact key G h.ne h.two S hS
theorem PartI.len {I : List Int} {G : List (List Int)} (h : PartI I G) : G.length ≤ I.length := by
  have key : ∀ G : List (List Int), (∀ S ∈ G, S ≠ []) → G.length ≤ G.flatten.length := fun G => by
    induction G with
    | nil => intro _; exact Nat.le_refl _
    | cons A G ih =>
      intro ne
      have a := List.length_pos_iff.mpr (ne A List.mem_cons_self)
      have := ih fun S h => ne S (List.mem_cons_of_mem _ h)
      rw [List.flatten_cons, List.length_append, List.length_cons]; omega
  rw [← h.perm.length_eq]
  exact key G h.ne
theorem rise_of {S : List Int} (s : S.Pairwise (· ≤ ·)) (n : S.Nodup) : S.Pairwise (· < ·) := (s.and (List.nodup_iff_pairwise_ne.mp n)).imp fun ⟨a, b⟩ => by omega
theorem nd_flat {G : List (List Int)} : G.flatten.Nodup ↔ (∀ S ∈ G, S.Nodup) ∧ G.Pairwise fun S T => ∀ x ∈ S, ∀ y ∈ T, x ≠ y := by
  rw [List.nodup_iff_pairwise_ne, List.pairwise_flatten]
  exact ⟨fun ⟨a, b⟩ => ⟨fun S hS => List.nodup_iff_pairwise_ne.mpr (a S hS), b⟩, fun ⟨a, b⟩ => ⟨fun S hS => List.nodup_iff_pairwise_ne.mp (a S hS), b⟩⟩
theorem sub_flat {G : List (List Int)} {S : List Int} (hS : S ∈ G) (n : G.flatten.Nodup) : S.Nodup := (nd_flat.mp n).1 S hS
theorem SetsI.part {ts : List (Int × Int)} {b : Bool} {I : List Int} {F : List (List Int)} (h : SetsI ts b I F) (nI : I.Nodup) (l : 1 < F.length) : PartI I F :=
  ⟨h.perm, h.ne, fun S hS => rise_of (h.srt S hS) (sub_flat hS (h.perm.nodup_iff.mpr nI)), l⟩
theorem ClsG.part {ts : List (Int × Int)} {I : List Int} {G : List (List Int)} (w : Whl ts I) (r : I.Pairwise (· < ·)) {u v : Int} (uI : u ∈ I) (vI : v ∈ I) (uv : u ≠ v) (h : ClsG ts I I.length G) : PartI I G := by
  have nI : I.Nodup := r.imp fun h => Int.ne_of_lt h
  rw [show ClsG ts I I.length G ↔ _ from Iff.rfl] at h
  have src : ∀ S ∈ G, ∃ p ∈ I, S = clsI ts I p := fun S hS => by
    obtain ⟨p, hp, e⟩ := h.src S hS
    exact ⟨p, by rwa [List.take_length] at hp, e⟩
  have got : ∀ p ∈ I, clsI ts I p ∈ G := fun p hp => h.got p (by rw [List.take_length]; exact hp)
  have oth : ∀ p ∈ I, ∃ q ∈ I, q ≠ p := fun p hp => by
    by_cases e : u = p
    · exact ⟨v, vI, fun z => uv (e.trans z.symm)⟩
    · exact ⟨u, uI, e⟩
  have own : ∀ p ∈ I, p ∈ clsI ts I p := fun p hp => by
    obtain ⟨q, hq, n⟩ := oth p hp
    exact mem_clsI.mpr ⟨hp, Pr.refl hq n⟩
  have nF : G.flatten.Nodup := by
    rw [nd_flat]
    refine ⟨fun S hS => ?_, ?_⟩
    · obtain ⟨p, _, rfl⟩ := src S hS
      exact nI.filter _
    · refine (List.nodup_iff_pairwise_ne.mp h.nd).imp_of_mem fun {S T} hS hT ne x hx y hy exy => ?_
      obtain ⟨p, hp, rfl⟩ := src S hS
      obtain ⟨q, hq, rfl⟩ := src T hT
      obtain ⟨xI, x1⟩ := mem_clsI.mp hx
      obtain ⟨_, x2⟩ := mem_clsI.mp (exy ▸ hy)
      exact ne (clsI_eq w hp hq (x1.trans w xI x2.symm))
  refine ⟨?_, fun S hS e => ?_, fun S hS => ?_, ?_⟩
  · refine (List.perm_ext_iff_of_nodup nF nI).mpr fun x => ?_
    rw [List.mem_flatten]
    constructor
    · rintro ⟨S, hS, hx⟩
      obtain ⟨p, _, rfl⟩ := src S hS
      exact (mem_clsI.mp hx).1
    · exact fun hx => ⟨_, got x hx, own x hx⟩
  · obtain ⟨p, hp, rfl⟩ := src S hS
    have := own p hp
    rw [e] at this; cases this
  · obtain ⟨p, _, rfl⟩ := src S hS
    exact r.filter _
  · obtain ⟨z, zI, nz⟩ := cls_lack w uI vI (Ne.symm uv)
    have n : clsI ts I u ≠ clsI ts I z := fun e => nz (by rw [e]; exact own z zI)
    match G, got u uI, got z zI with
    | [], h1, _ => cases h1
    | [S], h1, h2 => exact absurd ((List.mem_singleton.mp h1).trans (List.mem_singleton.mp h2).symm) n
    | _ :: _ :: _, _, _ => simp
end My

set_option Elab.async false
set_option linter.all false
set_option maxRecDepth 100000
namespace My
open PySem PySem.Spec PyProof.Rows L2 GxR
/-! what a part of a web comes apart into -/
theorem SetsI.mem_sub {ts : List (Int × Int)} {b : Bool} {I : List Int} {F G : List (List Int)} (f : SetsI ts b I F) (g : SetsI ts b I G) (nI : I.Nodup) {S : List Int} (hS : S ∈ F) : S ∈ G := by
  obtain ⟨x, xS⟩ := List.exists_mem_of_ne_nil _ (f.ne S hS)
  have xI := f.perm.mem_iff.mp (List.mem_flatten.mpr ⟨S, hS, xS⟩)
  obtain ⟨T, hT, xT⟩ := List.mem_flatten.mp (g.perm.mem_iff.mpr xI)
  have ST : ∀ y ∈ S, y ∈ T := f.con S hS (· ∈ T) (fun u _ v hv ut e => g.clo T hT u ut v hv e) x xS xT
  have TS : ∀ y ∈ T, y ∈ S := g.con T hT (· ∈ S) (fun u _ v hv ut e => f.clo S hS u ut v hv e) x xT xS
  have e : S = T := rise_ext (rise_of (f.srt S hS) (sub_flat hS (f.perm.nodup_iff.mpr nI))) (rise_of (g.srt T hT) (sub_flat hT (g.perm.nodup_iff.mpr nI))) fun y => ⟨ST y, TS y⟩
  rw [e]; exact hT
theorem SetsI.uniq {ts : List (Int × Int)} {b : Bool} {I : List Int} {F G : List (List Int)} (f : SetsI ts b I F) (g : SetsI ts b I G) (r : I.Pairwise (· < ·)) : F = G := by
  have nI : I.Nodup := r.imp fun h => Int.ne_of_lt h
  exact ord_ext (f.ord r) (g.ord r) fun S => ⟨f.mem_sub g nI, g.mem_sub f nI⟩
def KindX (ts : List (Int × Int)) (I : List Int) (w : Str) (Is : List (List Int)) : Prop :=
  (w = "apart" ∧ SetsI ts true I Is ∧ 1 < Is.length) ∨
  (w = "all" ∧ (∃ F, SetsI ts true I F ∧ ¬ 1 < F.length) ∧ SetsI ts false I Is ∧ 1 < Is.length) ∨
  (w = "close" ∧ (∃ F, SetsI ts true I F ∧ ¬ 1 < F.length) ∧ (∃ F, SetsI ts false I F ∧ ¬ 1 < F.length) ∧ ClsG ts I I.length Is)
theorem two_of {I : List Int} (r : I.Pairwise (· < ·)) (l : 2 ≤ I.length) : ∃ u v, u ∈ I ∧ v ∈ I ∧ u ≠ v := by
  match I, l, r with
  | a :: b :: l, _, r => exact ⟨a, b, List.mem_cons_self, List.mem_cons_of_mem _ List.mem_cons_self, Int.ne_of_lt ((List.pairwise_cons.mp r).1 b List.mem_cons_self)⟩
theorem ClsG.uniq {ts : List (Int × Int)} {I : List Int} {F G : List (List Int)} (w : Whl ts I) (r : I.Pairwise (· < ·)) (l : 2 ≤ I.length) (f : ClsG ts I I.length F) (g : ClsG ts I I.length G) : F = G := by
  refine ord_ext (f.ord w r (two_of r l)) (g.ord w r (two_of r l)) fun S => ⟨fun h => ?_, fun h => ?_⟩
  · obtain ⟨p, hp, rfl⟩ := f.src S h
    exact g.got p hp
  · obtain ⟨p, hp, rfl⟩ := g.src S h
    exact f.got p hp
theorem KindX.uniq {ts : List (Int × Int)} {I : List Int} {w w' : Str} {F G : List (List Int)} (r : I.Pairwise (· < ·)) (l : 2 ≤ I.length) (f : KindX ts I w F) (g : KindX ts I w' G) : w = w' ∧ F = G := by
  rcases f with ⟨rfl, f1, f2⟩ | ⟨rfl, ⟨F1, a1, a2⟩, f1, f2⟩ | ⟨rfl, ⟨F1, a1, a2⟩, ⟨F2, b1, b2⟩, f1⟩ <;> rcases g with ⟨rfl, g1, g2⟩ | ⟨rfl, ⟨G1, c1, c2⟩, g1, g2⟩ | ⟨rfl, ⟨G1, c1, c2⟩, ⟨G2, d1, d2⟩, g1⟩
  · exact ⟨rfl, f1.uniq g1 r⟩
  · exact absurd f2 (by rw [f1.uniq c1 r]; exact c2)
  · exact absurd f2 (by rw [f1.uniq c1 r]; exact c2)
  · exact absurd g2 (by rw [g1.uniq a1 r]; exact a2)
  · exact ⟨rfl, f1.uniq g1 r⟩
  · exact absurd f2 (by rw [f1.uniq d1 r]; exact d2)
  · exact absurd g2 (by rw [g1.uniq a1 r]; exact a2)
  · exact absurd g2 (by rw [g1.uniq b1 r]; exact b2)
  · exact ⟨rfl, ClsG.uniq (whl_of a1 b1 a2 b2) r l f1 g1⟩
theorem KindX.part {ts : List (Int × Int)} {I : List Int} {w : Str} {F : List (List Int)} (r : I.Pairwise (· < ·)) (l : 2 ≤ I.length) (f : KindX ts I w F) : PartI I F := by
  have nI : I.Nodup := r.imp fun h => Int.ne_of_lt h
  rcases f with ⟨rfl, f1, f2⟩ | ⟨rfl, _, f1, f2⟩ | ⟨rfl, ⟨F1, a1, a2⟩, ⟨F2, b1, b2⟩, f1⟩
  · exact f1.part nI f2
  · exact f1.part nI f2
  · obtain ⟨u, v, uI, vI, uv⟩ := two_of r l
    exact f1.part (whl_of a1 b1 a2 b2) r uI vI uv
theorem KindX.word {ts : List (Int × Int)} {I : List Int} {w : Str} {F : List (List Int)} (f : KindX ts I w F) : w ≠ "place" ∧ PyData.canLay0 (.str w) = true := by
  rcases f with ⟨rfl, _⟩ | ⟨rfl, _⟩ | ⟨rfl, _⟩
  · exact ⟨by decide, by decide +kernel⟩
  · exact ⟨by decide, by decide +kernel⟩
  · exact ⟨by decide, by decide +kernel⟩
theorem eqd_strX {m : Nat} {H : Hp} {i : Str} : Eqd m H (.str i) (.str i) := by
  cases m with
  | zero => exact ⟨rfl, .inr (.inr (.inr ⟨i, rfl⟩))⟩
  | succ m => exact .inl ⟨rfl, .inr (.inr (.inr ⟨i, rfl⟩))⟩
/-- the tree of the places I that stands somewhere -/
def TrX (ts : List (Int × Int)) (H : Hp) : Nat → V → List Int → Prop
  | 0, _, _ => False
  | m + 1, v, I => (∃ p i, v = .ref p ∧ H p = some (.tup [.str "place", .int i]) ∧ I = [i]) ∨
      ∃ (p q : Addr) (w : Str) (vs : List V) (Is : List (List Int)), v = .ref p ∧ H p = some (.tup [.str w, .ref q]) ∧ (I.Pairwise (· < ·) ∧ 2 ≤ I.length) ∧ KindX ts I w Is ∧ H q = some (.tup vs) ∧ All2 (TrX ts H m) vs Is
theorem TrX.mono {ts : List (Int × Int)} {H H' : Hp} (t : Tst H H') : ∀ {m : Nat} {v : V} {I : List Int}, TrX ts H m v I → TrX ts H' m v I
  | 0, _, _, h => h.elim
  | m + 1, v, I, h => by
    rcases h with ⟨p, i, e, a, b⟩ | ⟨p, q, w, vs, Is, e, a, b, k, c, d⟩
    · exact .inl ⟨p, i, e, t _ _ a, b⟩
    · exact .inr ⟨p, q, w, vs, Is, e, t _ _ a, b, k, t _ _ c, d.imp fun _ _ h => TrX.mono t h⟩
theorem TrX.ne {ts : List (Int × Int)} {H : Hp} : ∀ {m : Nat} {v : V} {I : List Int}, TrX ts H m v I → I ≠ []
  | 0, _, _, h => h.elim
  | m + 1, v, I, h => by
    rcases h with ⟨p, i, e, a, rfl⟩ | ⟨p, q, w, vs, Is, e, a, b, k, c, d⟩
    · intro z; cases z
    · intro z; rw [z] at b; exact absurd b.2 (by decide)
/-- two trees of the same places are the same -/
theorem TrX.eqd {ts : List (Int × Int)} {H : Hp} : ∀ {m k : Nat} {v u : V} {I : List Int}, TrX ts H m v I → TrX ts H k u I → I.length ≤ 10000 → Eqd (2 * m) H v u
  | 0, _, _, _, _, h, _, _ => h.elim
  | _ + 1, 0, _, _, _, _, h, _ => h.elim
  | m + 1, k + 1, v, u, I, h, g, l => by
    rcases h with ⟨p, i, rfl, a, rfl⟩ | ⟨p, q, w, vs, Is, rfl, a, ⟨r, l2⟩, kd, c, d⟩
    · rcases g with ⟨p', i', rfl, a', e⟩ | ⟨p', q', w', vs', Is', rfl, a', ⟨r', l2'⟩, kd', c', d'⟩
      · obtain rfl : i = i' := by cases e; rfl
        refine .inr ⟨p, p', _, _, rfl, rfl, .inl ⟨a, a'⟩, rfl, by show 2 ≤ 10000; decide, fun j x y e f => ?_⟩
        rw [e] at f
        cases f
        match j, e with
        | 0, e => cases e; exact eqd_strX
        | 1, e => cases e; exact Eqd.int
      · exact absurd l2' (by simp)
    · rcases g with ⟨p', i', rfl, a', e⟩ | ⟨p', q', w', vs', Is', rfl, a', _, kd', c', d'⟩
      · rw [e] at l2; exact absurd l2 (by simp)
      · obtain ⟨rfl, rfl⟩ := kd.uniq r l2 kd'
        have pt := kd.part r l2
        have ptl := pt.len
        have dl := d.len
        have dl' := d'.len
        refine .inr ⟨p, p', _, _, rfl, rfl, .inl ⟨a, a'⟩, rfl, by show 2 ≤ 10000; decide, fun j x y e f => ?_⟩
        match j, e, f with
        | 0, e, f => cases e; cases f; exact eqd_strX
        | 1, e, f =>
          cases e; cases f
          show Eqd (2 * m + 1) H (.ref q) (.ref q')
          refine .inr ⟨q, q', vs, vs', rfl, rfl, .inl ⟨c, c'⟩, by rw [dl, dl'], by omega, fun j x y ex ey => ?_⟩
          obtain ⟨S, eS, hS⟩ := d.at ex
          obtain ⟨S', eS', hS'⟩ := d'.at ey
          rw [eS] at eS'
          cases eS'
          have less := pt.less (List.mem_of_getElem? eS)
          exact TrX.eqd hS hS' (by omega)
end My

set_option Elab.async false
set_option linter.all false
set_option maxRecDepth 100000
set_option pp.maxSteps 400
set_option maxHeartbeats 4000000
namespace My
open PySem PySem.Spec PyProof.Rows L2 GxR
/-- a tree of the places of I that stands somewhere -/
def TrAt (H : Hp) : Nat → V → List Int → Prop
  | 0, _, _ => False
  | m + 1, v, I => (∃ p i, v = .ref p ∧ H p = some (.tup [.str "place", .int i]) ∧ I = [i]) ∨
      ∃ (p q : Addr) (w : Str) (vs : List V) (Is : List (List Int)), v = .ref p ∧ H p = some (.tup [.str w, .ref q]) ∧ (w ≠ "place" ∧ PyData.canLay0 (.str w) = true) ∧ H q = some (.tup vs) ∧ All2 (TrAt H m) vs Is ∧ PartI I Is
theorem TrAt.mono {H H' : Hp} (t : Tst H H') : ∀ {m : Nat} {v : V} {I : List Int}, TrAt H m v I → TrAt H' m v I
  | 0, _, _, h => h.elim
  | m + 1, v, I, h => by
    rcases h with ⟨p, i, e, a, b⟩ | ⟨p, q, w, vs, Is, e, a, b, c, d, f⟩
    · exact .inl ⟨p, i, e, t _ _ a, b⟩
    · exact .inr ⟨p, q, w, vs, Is, e, t _ _ a, b, t _ _ c, d.imp fun _ _ h => TrAt.mono t h, f⟩
theorem TrX.at {ts : List (Int × Int)} {H : Hp} : ∀ {m : Nat} {v : V} {I : List Int}, TrX ts H m v I → TrAt H m v I
  | 0, _, _, h => h.elim
  | m + 1, v, I, h => by
    rcases h with ⟨p, i, e, a, b⟩ | ⟨p, q, w, vs, Is, e, a, b, k, c, d⟩
    · exact .inl ⟨p, i, e, a, b⟩
    · exact .inr ⟨p, q, w, vs, Is, e, a, k.word, c, d.imp fun _ _ h => TrX.at h, k.part b.1 b.2⟩
theorem lsn_dp {K : PySem.W.Frag} {H : Hp} {bad : List Addr} : ∀ {us : List V} {G : List (List Int)}, All2 (LsN bad H) us G → DpAll K H us (G.map dI)
  | [], [], _ => .nil
  | _ :: _, _ :: _, h => by
    obtain ⟨q, rfl, _, e⟩ := h.1
    exact .cons (.lst (SqL.of e) (dpI _)) (lsn_dp h.2)
  | [], _ :: _, h => h.elim
  | _ :: _, [], h => h.elim
theorem any_dIs (G : List (List Int)) (c : List Int) : ((G.map dI).any fun z => PyData.eqv z (dI c)) = decide (c ∈ G) := by
  induction G with
  | nil => rfl
  | cons d G ih =>
    rw [List.map_cons, List.any_cons, ih, eqv_dI2]
    by_cases h : d = c
    · subst h; simp
    · have h' : ¬ c = d := fun z => h z.symm
      simp [h, h']
theorem shaped_dIs (G : List (List Int)) : SeqAt.shaped (.list (G.map dI)) = true := by
  unfold SeqAt.shaped
  rw [Bool.and_eq_true, decide_eq_true_eq]
  constructor
  · show PyData.canLayAll0 (G.map dI) = true
    induction G with
    | nil => rfl
    | cons a l ih =>
      rw [List.map_cons, PyData.canLayAll0, ih]
      have : (dI a).canLay0 = true := by
        have := shaped_dI a
        unfold SeqAt.shaped at this
        rw [Bool.and_eq_true] at this
        exact this.1
      rw [this]; rfl
  · show PyData.depthAll (G.map dI) + 1 ≤ 64
    have : PyData.depthAll (G.map dI) ≤ 63 := by
      induction G with
      | nil => exact Nat.zero_le _
      | cons a l ih =>
        rw [List.map_cons, PyData.depthAll]
        have : (dI a).depth ≤ 63 := by
          unfold dI
          rw [PyData.depth]
          have : PyData.depthAll (a.map PyData.int) = 0 := by
            induction a with
            | nil => rfl
            | cons x a ih2 => rw [List.map_cons, PyData.depthAll, ih2]; rfl
          omega
        omega
    omega
section
variable {P : Program} {w : World} {K : PySem.W.Frag} {mg : Str → Option Value} {base : Heap}
end
end My

set_option Elab.async false
set_option linter.all false
set_option maxRecDepth 100000
set_option maxHeartbeats 2000000
namespace My
open PySem PySem.Spec PyProof.Rows L2 GxR GenW
/-! any(e for tg in iter): as all (Ge2, Ge3, A3), the other way round -/
section
variable {prog : Program} {w : World} {A : Around} {R : Result → Shared → Prop} {a : Addr} {g : Nat} {St : Nat → Shared → Prop} {En : Shared → Prop} {Yl : Nat → Value → Shared → Prop}
theorem anyG_loop (hh : A.handled = none) (hd : A.in1.depth < recursionLimit)
    (hen : ∀ s₁ h', En s₁ → (∀ b o, s₁.heap.get? b = some o → h'.get? b = some o) → R (.ok (.ret (.bool false))) { s₁.setGen g .finished with heap := h' })
    (hyl : ∀ m v s₁ gs', gs'.bare = true → Yl m v s₁ → (v = .bool true ∧ R (.ok (.ret (.bool true))) (s₁.setGen g gs')) ∨
      (v = .bool false ∧ (s₁.setGen g gs').heap.NoLimit ∧ (s₁.setGen g gs').heap.IsGen a g ∧ ∃ m', m' < m ∧ St m' ((s₁.setGen g gs').setGen g .running))) :
    ∀ (n : Nat) (s : Shared), s.heap.NoLimit → s.heap.IsGen a g →
      (∃ gs, s.gens[g]? = some gs ∧ gs.Goes (model prog w) A.in1.in1 (fun _ _ r s₁ => r = .ok .next ∧ En s₁) (protoG St Yl) n (.send .none) (s.setGen g .running)) →
      codeAny (model prog w) A (.builtin "any.loop" ⟨[.ref a], []⟩) R s := by
  intro n
  induction n with
  | zero =>
    rintro s hl hg ⟨gs, hgs, hgo⟩
    refine codeAny_builtin F.entry_any_loop ?_
    rw [Around.under_plainId F.plain_any_loop _]
    show wpAny _ A.in1 (pyNext (.ref a) >>= _) _ _ s
    refine wpAny_bind (wpAny_pyNext_genexpQ (P := fun _ _ s₁ => En s₁) hh hl hd hg hgs hgo (fun v s₁ gs' hb hY => ?_) (fun s₁ hP h' hk => ?_))
    · obtain ⟨⟨m, hm, hy⟩, _⟩ := hY
      rcases hyl m v s₁ gs' hb hy with ⟨rfl, hR⟩ | ⟨_, _, _, m', hm', _⟩
      · refine wpAny_bind (wpAny_holding (wpAny_truthy_bool ?_))
        refine wpAny_bind (wpAny_letGo ?_)
        simp only [if_true]
        exact wpAny_bind (wpAny_rule (wpAny_pure hR))
      · omega
    · exact wpAny_bind (wpAny_rule (wpAny_pure (hen s₁ h' hP hk)))
  | succ n ih =>
    rintro s hl hg ⟨gs, hgs, hgo⟩
    refine codeAny_builtin F.entry_any_loop ?_
    rw [Around.under_plainId F.plain_any_loop _]
    show wpAny _ A.in1 (pyNext (.ref a) >>= _) _ _ s
    have hsz : g + 1 ≤ s.gens.size := by
      rcases Nat.lt_or_ge g s.gens.size with z | z
      · exact z
      · rw [Array.getElem?_eq_none z] at hgs; cases hgs
    refine wpAny_bind (wpAny_gsz hsz (wpAny_pyNext_genexpQ (P := fun _ _ s₁ => En s₁) hh hl hd hg hgs hgo (fun v s₁ gs' hb hY hn => ?_) (fun s₁ hP h' hk _ => ?_)))
    · obtain ⟨⟨m, hm, hy⟩, hres⟩ := hY
      rcases hyl m v s₁ gs' hb hy with ⟨rfl, hR⟩ | ⟨rfl, hl', hg', m', hm', hst⟩
      · refine wpAny_bind (wpAny_holding (wpAny_truthy_bool ?_))
        refine wpAny_bind (wpAny_letGo ?_)
        simp only [if_true]
        exact wpAny_bind (wpAny_rule (wpAny_pure hR))
      · refine wpAny_bind (wpAny_holding (wpAny_truthy_bool ?_))
        refine wpAny_bind (wpAny_letGo ?_)
        simp only [Bool.false_eq_true, if_false]
        have hm : m ≤ n := hm
        refine wpAny_pure ⟨plainId_quiet F.plain_any_loop _, ih _ hl' hg' ⟨gs', ?_, hres _ m' (by omega) hst⟩⟩
        have hn' : g < s₁.gens.size := by
          rw [setGen_size] at hn; exact hn
        show (s₁.gens.setIfInBounds g gs')[g]? = some gs'
        rw [Array.getElem?_setIfInBounds_self, if_pos hn']
    · exact wpAny_bind (wpAny_rule (wpAny_pure (hen s₁ h' hP hk)))
end
theorem anyG_it {J : It} {n : Nat} {G : Hp → Prop} {Y : Nat → Hp → V → Hp → Prop} (w : Walk J n G Y) {g : TG} {te : TE} {vs : List Nat} {σ : L2.St} {H0 : Hp} {QT QF : Hp → Prop} (Pv : Nat → Hp → Prop) (h0 : Pv 0 H0) (hG : ∀ i H, i ≤ n → Pv i H → G H)
    (hs : ∀ i x H H', i < n → Pv i H → Y i H x H' → g x (wipe σ vs) H' fun σ2 H2 => wipe σ2 vs = wipe σ vs ∧ te σ2 H2 fun y H3 => ∃ b, y = .bl b ∧ if b = true then QF H3 else Pv (i + 1) H3)
    (hd : ∀ H, Pv n H → QT H) :
    ∃ W : Nat → Nat → Hp → Prop, (∃ m, W 0 m H0) ∧ ∀ i m H, W i m H → (J.stop i H ∧ QT H) ∨
      (J.go i H ∧ ∃ Nx : Hp → Prop, (∀ H', Nx H' → ∃ m', m' < m ∧ W (i + 1) m' H') ∧ ∀ x H', J.yld i H x H' → g x (wipe σ vs) H' fun σ2 H2 => wipe σ2 vs = wipe σ vs ∧
        te σ2 H2 fun y H3 => ∃ b, y = .bl b ∧ if b = true then QF H3 else Nx H3) := by
  refine ⟨fun i m H => m = n - i ∧ i ≤ n ∧ Pv i H, ⟨n, rfl, Nat.zero_le _, h0⟩, ?_⟩
  rintro i m H ⟨rfl, hi, p⟩
  have q := hG i H hi p
  by_cases hlt : i < n
  · exact .inr ⟨w.goes i H hlt q, Pv (i + 1), fun H' p' => ⟨n - (i + 1), by omega, rfl, hlt, p'⟩, fun x H' y => hs i x H H' hlt p (w.yields i H x H' hlt q y)⟩
  · have e : i = n := by omega
    subst e
    exact .inl ⟨w.stops H q, hd H p⟩
/-- any(e for tg in iter) -/
def tAnyG (P : Addr) (wi : TI) (g : TG) (te : TE) (vs : List Nat) : TE := fun σ H Q => wi σ H fun J H1 => TabG H1 P ∧ ∀ H2, Tabbed P H1 H2 →
  ∃ W : Nat → Nat → Hp → Prop, (∃ m, W 0 m H2) ∧ ∀ i m H, W i m H → (J.stop i H ∧ Q (.bl false) H) ∨
    (J.go i H ∧ ∃ Nx : Hp → Prop, (∀ H', Nx H' → ∃ m', m' < m ∧ W (i + 1) m' H') ∧ ∀ x H', J.yld i H x H' → g x (wipe σ vs) H' fun σ2 H2 => wipe σ2 vs = wipe σ vs ∧
      te σ2 H2 fun y H3 => ∃ b, y = .bl b ∧ if b = true then Q (.bl true) H3 else Nx H3)

section
variable {X : Cx}
theorem pe_anyG {c P : Addr} {elt tg iter : Expr} {p pos gpos : Pos} {scope : Scope} {own : List (Str × Nat)} {wi : TI} {g : TG} {te : TE} {k : Nat}
    (hc : X.calm = true) (hN : X.N.Nodup) (hr : Room (k + 1) X.A) (hgl : Gl X "any") (hm : X.mg "any" = none) (TB : TabB X.base X.mg c P) (hcode : X.env.code = .ref c)
    (S : GsOk scope) (ok : BlkOk X.N X.env.scope scope own) (hi : PI X tg iter wi)
    (hg : ∀ A' s H C code fp pn, PG (gcx X A' s H (gEnv X scope C code) fp pn) tg g)
    (he : ∀ A' s H C code fp pn, Room k A' → PE (gcx X A' s H (gEnv X scope C code) fp pn) elt te)
    (hs : ∀ v, genFold iter X.env v = pure v := by intro _; rfl)
    (h1 : starEach [.GeneratorExp elt [⟨tg, iter, [], 0⟩] scope gpos] X.env = (false, eval (.GeneratorExp elt [⟨tg, iter, [], 0⟩] scope gpos) X.env) :: starEach [] X.env := by rfl) :
    PE X (.Call (.Name "any" p) [.GeneratorExp elt [⟨tg, iter, [], 0⟩] scope gpos] [] pos) (tAnyG P wi g te (own.map (·.2))) := by
  refine ⟨fun pins s σ H Q I h => ?_⟩
  refine wpAny_Call_Name_kw (ld_blt I hgl hm boot_any ?_)
  refine PyProof.Rows.callWith_builtin1 ?_ h1 (by rfl)
  rw [h1]
  show wpAny _ _ (spliced ((false, eval (.GeneratorExp elt [⟨tg, iter, [], 0⟩] scope gpos) X.env) :: backTo pos (starEach [] X.env))) _ _ s
  refine Calls.spliced_cons (gen_mk hr TB hcode S ok hi hs I h fun J H1 H2 it fp tn s4 s5 C a code gi x y q M => ?_)
  refine Calls.spliced_nil ?_
  obtain ⟨W, ⟨m0, w0⟩, turn⟩ := q H2 M.tab
  have hX : X.A.handled = none := M.inv.ok.hd hc
  have I5 : Inv (gcx X (gA X elt tg iter scope gpos it C code) s4 H2 (gEnv X scope C code) fp [(a, genObj gi x y)]) [] (wipe σ (own.map (·.2))) H2 s5 :=
    gen_inv M.inv ok hN S M.fp M.c hX (gA_frames M.inv.ok.frames) M.kp M.ns M.os M.bare fun p hp => by
      rw [List.mem_singleton.mp hp]
      exact ⟨M.obj, M.lt, fun v e => by cases e⟩
  have pg := hg (gA X elt tg iter scope gpos it C code) s4 H2 C code fp [(a, genObj gi x y)]
  have pe := he (gA X elt tg iter scope gpos it C code) s4 H2 C code fp [(a, genObj gi x y)] (gA_room hr)
  have T := M.tu
  generalize hY : gcx X (gA X elt tg iter scope gpos it C code) s4 H2 (gEnv X scope C code) fp [(a, genObj gi x y)] = Y at I5 pg pe
  have stat : ∀ {σ' : L2.St} {H' : Hp} {s' : Shared}, Inv Y [] σ' H' s' → (∀ b ∈ fp, H' b = none) → ∀ b ∈ fp, FpOk Y [] H' b := fun {σ' H' s'} I' hn b hb => by
    subst hY
    refine ⟨hn b hb, (I'.ok.exf b hb).1, I'.ok.exfs b hb, .inl hb, fun x c e => (I'.ok.exf b hb).2 x c e, fun p hp => ?_⟩
    have hp : p ∈ [(a, genObj gi x y)] ++ ([] : List (Addr × Obj)) := hp
    rw [List.append_nil] at hp
    rw [List.mem_singleton.mp hp]
    have h2 := (M.fp b hb).2
    have h3 := M.lt
    exact Nat.ne_of_gt (Nat.lt_trans h2 h3)
  have obj : ∀ {σ' : L2.St} {H' : Hp} {s' : Shared}, Inv Y [] σ' H' s' → s'.heap.IsGen a gi := fun {σ' H' s'} I' => by
    subst hY
    exact ⟨_, x, y, (I'.pin (a, genObj gi x y) (List.mem_append_left _ (List.mem_singleton.mpr rfl))).1, rfl, rfl, rfl⟩
  have back : ∀ {σ' : L2.St} {H' : Hp} {s' : Shared}, Inv Y [] σ' H' s' → Inv X pins σ H' s' := fun {σ' H' s'} I' => by
    subst hY
    exact M.inv.call' (ch := fp) I'.os I'.base I'.hok I'.bare fun b hb => ⟨(M.fp b hb).1.2.2.2.1, (M.fp b hb).1.2.1, (M.fp b hb).1.2.2.2.2.1, (M.fp b hb).1.2.2.2.2.2⟩
  have seg := seg_loopG (prog := X.prog) (w := X.w) (A := X.A.in1.in1) (elt := elt) (tg := tg) (iter := iter) (scope := scope) (pos := gpos) (it := it) (cenv := gEnv X scope C code) S.co
    (fun m s => ∃ i H', Inv Y [] (wipe σ (own.map (·.2))) H' s ∧ tn i s.heap ∧ (∀ b ∈ fp, H' b = none) ∧ W i m H')
    (fun s => ∃ H', Inv Y [] (wipe σ (own.map (·.2))) H' s ∧ Q (.bl false) H')
    (fun m v s => ∃ i H' b, v = .bool b ∧ Inv Y [] (wipe σ (own.map (·.2))) H' s ∧ tn i s.heap ∧ (∀ b ∈ fp, H' b = none) ∧ if b = true then Q (.bl true) H' else ∃ m', m' < m ∧ W i m' H') ?_
  · have hl5 : s5.heap.NoLimit := I5.nolimit
    refine call_function_tree F.kind_any F.plain_any F.entry_any (F.args_any1 _) ?_
    unfold Builtin.«any»
    refine wpAny_bind (m := oneArg "any" _) (wpAny_pure ?_)
    refine wpAny_bind (wpAny_pyIter_gen (obj I5) ?_)
    refine wpAny_pure ⟨plainId_quiet F.plain_any_loop _, ?_⟩
    refine anyG_loop (g := gi) (n := m0 + 1) (St := fun m s => ∃ i H', Inv Y [] (wipe σ (own.map (·.2))) H' s ∧ tn i s.heap ∧ (∀ b ∈ fp, H' b = none) ∧ W i m H')
      (En := fun s => ∃ H', Inv Y [] (wipe σ (own.map (·.2))) H' s ∧ Q (.bl false) H')
      (Yl := fun m v s => ∃ i H' b, v = .bool b ∧ Inv Y [] (wipe σ (own.map (·.2))) H' s ∧ tn i s.heap ∧ (∀ b ∈ fp, H' b = none) ∧ if b = true then Q (.bl true) H' else ∃ m', m' < m ∧ W i m' H')
      hX (by have := hr.dp; show X.A.depth < _; omega) ?_ ?_ s5 hl5 (obj I5) ⟨_, M.gs, rfl, ?_⟩
    · rintro s₁ h' ⟨H', I', qq⟩ hk
      have I6 := inv_setGen (g := gi) (x := .finished) I' rfl
      have I7 := (back I6).kept (t' := s₁.toks) hk
      exact ⟨.bl false, H', I7, rfl, qq⟩
    · rintro m v s₁ gs' hb ⟨i, H', b, rfl, I', st', n', q'⟩
      have I6 := inv_setGen (g := gi) I' hb
      cases b with
      | true => exact .inl ⟨rfl, .bl true, H', back I6, rfl, q'⟩
      | false =>
        obtain ⟨m', hm', w'⟩ : ∃ m', m' < m ∧ W i m' H' := q'
        exact .inr ⟨rfl, I6.nolimit, obj I6, m', hm', i, H', inv_setGen I6 rfl, st', n', w'⟩
    · -- the start
      have I6 : Inv Y [] (wipe σ (own.map (·.2))) H2 (s5.setGen gi .running) := inv_setGen I5 rfl
      have st5 : tn 0 (s5.setGen gi .running).heap := T.keep _ _ _ M.st fun b _ o e => M.kp b o e
      have loop := seg (m0 + 1) m0 (s5.setGen gi .running) (s5.setGen gi .running) (Nat.lt_succ_self _) ⟨0, H2, I6, st5, fun b hb => (M.fp b hb).1.1, w0⟩
      show Seg _ X.A.in1.in1 _ _ _ _ _ ((compStart (.GeneratorExp elt [⟨tg, iter, [], 0⟩] scope gpos) 0 (.ref it) .none (gEnv X scope C code)).onRaise (leaving (gEnv X scope C code))) [] _
      unfold compStart
      rw [Sem.onRaise_eq_wrap]
      show Seg _ X.A.in1.in1 _ _ _ _ _ ((ask >>= _).wrap _ _ _ _) [] _
      refine seg_bind_wrap (wpAny_askSetting ?_)
      split
      · exact seg_again rfl loop
      · refine seg_bind_wrap (wpAny_rule ?_)
        show Seg _ X.A.in1.in1 _ _ _ _ _ ((standAt iter.pos >>= _).wrap _ _ _ _) [] _
        exact seg_bind_wrap (wpAny_standAt (seg_bind_wrap (T.self _ 0 _ _ _ st5 (seg_again rfl loop))))
  · rintro m s6 ⟨i, H', I', st', n', w'⟩
    rcases turn i m H' w' with ⟨stop, qq⟩ | ⟨go, Nx, hNx, step⟩
    · have td := T.done Y (by subst hY; rfl) (by subst hY; rfl) (by subst hY; rfl) (by subst hY; rfl) i [] s6 _ H' (fun _ _ => False) I' (stat I' n') st' stop
      subst hY
      refine wpAny_mono td (fun r s7 ⟨hr7, I7⟩ => ?_) fun _ _ e => e
      subst hr7
      exact ⟨H', I7, qq⟩
    · have ti := T.item Y (by subst hY; rfl) (by subst hY; rfl) (by subst hY; rfl) (by subst hY; rfl) i [] s6 _ H' (fun _ _ => False) I' (stat I' n') st' go
      subst hY
      refine wpAny_mono ti (fun r s7 ⟨u, hr7, h7⟩ => ?_) fun _ _ e => e
      subst hr7
      refine wpAny_mono h7 (fun _ s8 ⟨xv, H8, I8, r8, y8, st8, n8⟩ => ?_) fun _ _ e => e
      have I8' := I8.pinned (stat I8 n8) (T.obj _ _ st8)
      refine wpAny_mono (pg.run _ s8 _ H8 xv u _ I8' r8 (step xv H8 y8)) (fun _ s9 ⟨σ9, H9, I9, hw9, q9⟩ => ?_) fun _ _ e => e
      refine wpAny_mono (pe.run _ s9 σ9 H9 _ I9 q9) (fun v s10 ⟨yv, H10, I10, r10, b, eb, q10⟩ => ?_) fun _ _ e => e
      subst eb
      cases r10
      have pin' : ∀ b ∈ fp, ∀ o, s8.heap.get? b = some o → s10.heap.get? b = some o ∧ H10 b = none := fun b hb o e =>
        let z := I10.pin (b, o) (List.mem_append_right _ (List.mem_append_right _ (mem_pinsAt hb e)))
        ⟨z.1, z.2.1⟩
      have hl : (wipe σ (own.map (·.2))).length = σ9.length := by rw [← hw9, wipe_length]
      refine ⟨i + 1, H10, b, rfl, (I10.unpinned (pins := [])).weak hl (fun j v e => ?_), T.keep _ _ _ st8 fun b hb o e => (pin' b hb o e).1, fun b hb => ?_, ?_⟩
      · rw [← hw9] at e
        exact (wipe_some e).1
      · obtain ⟨o, e, _⟩ := T.obj _ _ st8 b hb
        exact (pin' b hb o e).2
      · cases b with
        | true => exact q10
        | false => exact hNx H10 q10
end
end My

set_option Elab.async false
set_option linter.all false
set_option maxRecDepth 100000
namespace My
open PySem PySem.Spec PyProof.Rows L2 GxR
open PySem.W (dataLt AllAlike Sortable sorted_data EachIs dataLe sort_pairwise sortLe_total)

/-! ### sorted(xs), xs a list of objects that are data -/
def rSortedD (K : PySem.W.Frag) : List V → Hp → VK → Prop := fun vs H Q => ∃ (a : Addr) (bs : List (V × PyData)), vs = [.ref a] ∧ SqL K H a (bs.map (·.1)) ∧ (∀ b ∈ bs, (∃ p, b.1 = .ref p) ∧ Dp K H b.1 b.2 ∧ b.2.depth ≤ 50) ∧
  AllAlike (bs.map (·.2)) ∧ Sortable (bs.map (·.2)) ∧
  ∀ (ys : List (V × PyData)) (p : Addr), ys.Perm bs → ys.Pairwise (fun x y => dataLt y.2 x.2 = false) → H p = none → Q (.ref p) (upd H p (.lst (ys.map (·.1))))
abbrev BkR : Value → V × PyData → Prop := fun v b => (∃ p, v = Value.ref p) ∧ b.1 = backV v
theorem each_bk : ∀ {bs : List (V × PyData)} {its : List Value}, Vals (bs.map (·.1)) its → (∀ b ∈ bs, ∃ p, b.1 = .ref p) → EachIs BkR its bs
  | [], _, .nil, _ => .nil
  | (x, d) :: bs, _, .cons r t, h => by
    obtain ⟨p, e⟩ := h _ List.mem_cons_self
    dsimp only at e
    subst e
    cases r
    exact .cons ⟨⟨_, rfl⟩, rfl⟩ (each_bk t fun b hb => h b (List.mem_cons_of_mem _ hb))
theorem each_out : ∀ {bs : List (V × PyData)} {out : List Value}, EachIs BkR out bs → bs.map (·.1) = out.map backV ∧ ∀ u ∈ out, ∃ p, u = Value.ref p
  | _, _, .nil => ⟨rfl, fun u hu => absurd hu List.not_mem_nil⟩
  | _, _, .cons h t => by
    obtain ⟨e1, e2⟩ := each_out t
    refine ⟨by rw [List.map_cons, List.map_cons, h.2, e1], fun u hu => ?_⟩
    rcases List.mem_cons.mp hu with rfl | hu
    · exact h.1
    · exact e2 u hu
section
variable {X : Cx}
theorem each_rd {pins : List (Addr × Obj)} {σ : L2.St} {H : Hp} {s : Shared} (I : Inv X pins σ H s) : ∀ {bs : List (V × PyData)} {its : List Value}, Vals (bs.map (·.1)) its → (∀ b ∈ bs, Dp X.K H b.1 b.2) → EachIs (fun v (b : V × PyData) => ∃ as, Reads s.heap v b.2 as) its bs
  | [], _, .nil, _ => .nil
  | b :: bs, _, .cons r t, h => .cons (Dp.reads I b.2 b.1 _ (h b List.mem_cons_self) r) (each_rd I t fun c hc => h c (List.mem_cons_of_mem _ hc))
theorem cr_sortedD (hu : X.A.units + 65 < cLine) : CallR X (.builtin "sorted") (rSortedD X.K) := by
  rintro pins s σ H vs us Q I r ⟨a, bs, rfl, ha, hb, al, so, q⟩
  obtain ⟨u, rfl, ru⟩ := vals1 r
  obtain rfl : u = Value.ref a := ru
  obtain ⟨its, rv, hl, hz⟩ := I.list ha
  have ll : its.length = bs.length := by rw [← rv.length, List.length_map]
  have hz' : bs.length ≤ sizeLine := by rw [List.length_map] at hz; exact hz
  refine sorted_data (enc := Prod.snd) (R := BkR) (bs := bs) hl.isList (each_bk rv fun b z => (hb b z).1) (each_rd I rv fun b z => (hb b z).2.1) al so hz' (fun b z => ?_) fun out ol eo => ?_
  · have := (hb b z).2.2
    omega
  · obtain ⟨e1, e2⟩ := each_out eo
    obtain ⟨ep, he'⟩ := PyProof.Rows.sortedAll_at s.heap its out.toArray
    have hn : H (s.heap.objs.size + 1) = none := I.hok.fresh (Nat.le_succ _)
    refine ⟨.ref _, upd H (s.heap.objs.size + 1) (.lst ((bs.mergeSort (dataLe false Prod.snd)).map (·.1))), I.laid (t' := s.toks) (fun _ _ => PyProof.Rows.sortedAll_old) (Nat.le_succ _) ⟨?_, out, ep, ?_, he'⟩, rfl, q _ _ (List.mergeSort_perm bs _) ?_ hn⟩
    · rw [List.length_map, (List.mergeSort_perm bs _).length_eq]; exact hz'
    · rw [e1]; exact vals_back e2
    · refine (sort_pairwise (sortLe_total _ _ _) bs).imp fun {x y} h => ?_
      have h' : (!dataLt y.2 x.2) = true := h
      simpa using h'
end
end My

set_option Elab.async false
set_option linter.all false
set_option maxRecDepth 100000
namespace My
open PySem PySem.Spec PyProof.Rows L2 GxR
open PySem.W (dataLt AllAlike Sortable alike alikeAll keyToks keyToksAll lex_atom lex_one)
/-! ### sets joined place by place -/
structure JP (ts : List (Int × Int)) (I : List Int) (i : Nat) (G : List (List Int)) : Prop where
  perm : G.flatten.Perm (I.take i)
  ne : ∀ S ∈ G, S ≠ []
  clo : ∀ S ∈ G, ∀ x ∈ S, ∀ y ∈ I.take i, adjB ts x y = true → y ∈ S
  con : ∀ S ∈ G, ∀ A : Int → Prop, ClR ts true I A → ∀ x ∈ S, A x → ∀ y ∈ S, A y
def njB (ts : List (Int × Int)) (p : Int) (S : List Int) : Bool := S.any (adjB ts p)
def nrG (ts : List (Int × Int)) (p : Int) (G : List (List Int)) : List (List Int) := G.filter (njB ts p)
def frG (ts : List (Int × Int)) (p : Int) (G : List (List Int)) : List (List Int) := G.filter fun S => !njB ts p S
theorem nr_fr_perm (ts : List (Int × Int)) (p : Int) (G : List (List Int)) : (frG ts p G ++ nrG ts p G).Perm G := by
  unfold frG nrG
  induction G with
  | nil => exact List.Perm.refl _
  | cons S G ih =>
    rw [List.filter_cons, List.filter_cons]
    cases h : njB ts p S with
    | true =>
      simp only [Bool.not_true, Bool.false_eq_true, if_false, if_true]
      exact List.perm_middle.trans (ih.cons S)
    | false =>
      simp only [Bool.not_false, Bool.false_eq_true, if_false, if_true, List.cons_append]
      exact ih.cons S
theorem JP.start (ts : List (Int × Int)) (I : List Int) : JP ts I 0 [] := ⟨List.Perm.refl _, fun S h => absurd h List.not_mem_nil, fun S h => absurd h List.not_mem_nil, fun S h => absurd h List.not_mem_nil⟩
theorem JP.len {ts : List (Int × Int)} {I : List Int} {i : Nat} {G : List (List Int)} (h : JP ts I i G) : G.length ≤ i ∧ G.flatten.length ≤ i := by
  have key : ∀ G : List (List Int), (∀ S ∈ G, S ≠ []) → G.length ≤ G.flatten.length := fun G => by
    induction G with
    | nil => intro _; exact Nat.le_refl _
    | cons A G ih =>
      intro ne
      have a := List.length_pos_iff.mpr (ne A List.mem_cons_self)
      have := ih fun S h => ne S (List.mem_cons_of_mem _ h)
      rw [List.flatten_cons, List.length_append, List.length_cons]; omega
  have a := key G h.ne
  have b := h.perm.length_eq
  rw [List.length_take] at b
  omega
theorem JP.step {ts : List (Int × Int)} {I : List Int} {i : Nat} {G : List (List Int)} {p : Int} (h : JP ts I i G) (e : I[i]? = some p) : JP ts I (i + 1) (frG ts p G ++ [(nrG ts p G).flatten ++ [p]]) := by
  have st : I.take (i + 1) = I.take i ++ [p] := by rw [List.take_add_one, e]; rfl
  have pI := List.mem_of_getElem? e
  have fm : ∀ S, S ∈ frG ts p G ↔ S ∈ G ∧ njB ts p S = false := fun S => by
    unfold frG; rw [List.mem_filter, Bool.not_eq_true']
  have nm : ∀ S, S ∈ nrG ts p G ↔ S ∈ G ∧ njB ts p S = true := fun S => by unfold nrG; rw [List.mem_filter]
  have nb : ∀ S, njB ts p S = true ↔ ∃ o ∈ S, adjB ts p o = true := fun S => by unfold njB; rw [List.any_eq_true]
  have inI : ∀ S ∈ G, ∀ x ∈ S, x ∈ I := fun S hS x hx => List.take_subset _ _ (h.perm.mem_iff.mp (List.mem_flatten.mpr ⟨S, hS, hx⟩))
  refine ⟨?_, fun S hS => ?_, fun S hS => ?_, fun S hS => ?_⟩
  · rw [List.flatten_append, List.flatten_cons, List.flatten_nil, List.append_nil, ← List.append_assoc, st, ← List.flatten_append]
    exact List.Perm.append_right _ ((nr_fr_perm ts p G).flatten.trans h.perm)
  · rcases List.mem_append.mp hS with z | z
    · exact h.ne S ((fm S).mp z).1
    · rw [List.mem_singleton.mp z]
      intro w
      have := congrArg List.length w
      rw [List.length_append] at this; simp at this
  · intro x hx y hy a
    rw [st] at hy
    rcases List.mem_append.mp hS with z | z
    · obtain ⟨SG, nS⟩ := (fm S).mp z
      rcases List.mem_append.mp hy with w | w
      · exact h.clo S SG x hx y w a
      · rw [List.mem_singleton.mp w, adj_comm] at a
        have := (nb S).mpr ⟨x, hx, a⟩
        rw [nS] at this; cases this
    · rw [List.mem_singleton.mp z] at hx ⊢
      rcases List.mem_append.mp hy with w | w
      · refine List.mem_append_left _ ?_
        rcases List.mem_append.mp hx with k | k
        · obtain ⟨T, hT, xT⟩ := List.mem_flatten.mp k
          exact List.mem_flatten.mpr ⟨T, hT, h.clo T ((nm T).mp hT).1 x xT y w a⟩
        · rw [List.mem_singleton.mp k] at a
          obtain ⟨T, hT, yT⟩ := List.mem_flatten.mp (h.perm.mem_iff.mpr w)
          exact List.mem_flatten.mpr ⟨T, (nm T).mpr ⟨hT, (nb T).mpr ⟨y, yT, a⟩⟩, yT⟩
      · exact List.mem_append_right _ w
  · intro A cA x hx ax y hy
    rcases List.mem_append.mp hS with z | z
    · exact h.con S ((fm S).mp z).1 A cA x hx ax y hy
    · rw [List.mem_singleton.mp z] at hx hy
      have toP : A p := by
        rcases List.mem_append.mp hx with k | k
        · obtain ⟨T, hT, xT⟩ := List.mem_flatten.mp k
          obtain ⟨TG, tn⟩ := (nm T).mp hT
          obtain ⟨o, oT, oa⟩ := (nb T).mp tn
          exact cA o (inI T TG o oT) p pI (h.con T TG A cA x xT ax o oT) (by rw [adj_comm]; exact oa)
        · rw [← List.mem_singleton.mp k]; exact ax
      rcases List.mem_append.mp hy with k | k
      · obtain ⟨T, hT, yT⟩ := List.mem_flatten.mp k
        obtain ⟨TG, tn⟩ := (nm T).mp hT
        obtain ⟨o, oT, oa⟩ := (nb T).mp tn
        exact h.con T TG A cA o oT (cA p pI o (inI T TG o oT) toP oa) y yT
      · rw [List.mem_singleton.mp k]; exact toP
/-- each sorted -/
def PSr : List (List Int) → List (List Int) → Prop
  | [], [] => True
  | S :: G, T :: Ts => (T.Perm S ∧ T.Pairwise (· ≤ ·)) ∧ PSr G Ts
  | _, _ => False
theorem PSr.app : ∀ {G Ts : List (List Int)} {S T : List Int}, PSr G Ts → T.Perm S → T.Pairwise (· ≤ ·) → PSr (G ++ [S]) (Ts ++ [T])
  | [], [], _, _, _, a, b => ⟨⟨a, b⟩, trivial⟩
  | _ :: _, _ :: _, _, _, h, a, b => ⟨h.1, PSr.app h.2 a b⟩
  | [], _ :: _, _, _, h, _, _ => h.elim
  | _ :: _, [], _, _, h, _, _ => h.elim
theorem PSr.flat : ∀ {G Ts : List (List Int)}, PSr G Ts → Ts.flatten.Perm G.flatten
  | [], [], _ => List.Perm.refl _
  | _ :: _, _ :: _, h => by
    rw [List.flatten_cons, List.flatten_cons]
    exact h.1.1.append (PSr.flat h.2)
  | [], _ :: _, h => h.elim
  | _ :: _, [], h => h.elim
theorem PSr.src : ∀ {G Ts : List (List Int)}, PSr G Ts → ∀ T ∈ Ts, ∃ S ∈ G, T.Perm S ∧ T.Pairwise (· ≤ ·)
  | [], [], _, T, hT => absurd hT List.not_mem_nil
  | S :: G, T :: Ts, h, U, hU => by
    rcases List.mem_cons.mp hU with e | e
    · rw [e]; exact ⟨S, List.mem_cons_self, h.1⟩
    · obtain ⟨S', h1, h2⟩ := PSr.src h.2 U e
      exact ⟨S', List.mem_cons_of_mem _ h1, h2⟩
  | [], _ :: _, h, _, _ => h.elim
  | _ :: _, [], h, _, _ => h.elim
theorem PSr.len : ∀ {G Ts : List (List Int)}, PSr G Ts → Ts.length = G.length
  | [], [], _ => rfl
  | _ :: _, _ :: _, h => congrArg (· + 1) (PSr.len h.2)
  | [], _ :: _, h => h.elim
  | _ :: _, [], h => h.elim
theorem dlt_dI {a b : Int} {l m : List Int} (h : a < b) : dataLt (dI (a :: l)) (dI (b :: m)) = true := by
  unfold dataLt
  show PyProof.Rows.lexLt itemOrd (.inl 1 :: ([.inl a] ++ keyToksAll (l.map PyData.int))) (.inl 1 :: ([.inl b] ++ keyToksAll (m.map PyData.int))) = true
  rw [lex_self]
  show PyProof.Rows.lexLt itemOrd (.inl a :: keyToksAll (l.map PyData.int)) (.inl b :: keyToksAll (m.map PyData.int)) = true
  rw [lex_atom (fun e => by have := Sum.inl.inj e; omega), lex_one]
  exact decide_eq_true h
theorem ord_of {F : List (List Int)} (ne : ∀ S ∈ F, S ≠ []) (srt : ∀ S ∈ F, S.Pairwise (· ≤ ·)) (nd : F.flatten.Nodup) (pw : F.Pairwise fun x y => dataLt (dI y) (dI x) = false) : F.Pairwise HdLt := by
  refine (pw.and (nd_flat.mp nd).2).imp_of_mem fun {S T} hS hT ⟨h, dj⟩ => ?_
  obtain ⟨a, l, rfl⟩ : ∃ a l, S = a :: l := by
    cases S with
    | nil => exact absurd rfl (ne [] hS)
    | cons a l => exact ⟨a, l, rfl⟩
  obtain ⟨b, m, rfl⟩ : ∃ a l, T = a :: l := by
    cases T with
    | nil => exact absurd rfl (ne [] hT)
    | cons a l => exact ⟨a, l, rfl⟩
  have ab : a ≠ b := dj a List.mem_cons_self b List.mem_cons_self
  have lt : a < b := by
    refine Classical.byContradiction fun no => ?_
    rw [dlt_dI (show b < a by omega)] at h; cases h
  refine ⟨a, List.mem_cons_self, fun x hx => ?_, fun t ht => ?_⟩
  · rcases List.mem_cons.mp hx with e | e
    · omega
    · exact (List.pairwise_cons.mp (srt _ hS)).1 x e
  · rcases List.mem_cons.mp ht with e | e
    · omega
    · have := (List.pairwise_cons.mp (srt _ hT)).1 t e; omega
theorem JP.sets {ts : List (Int × Int)} {I : List Int} {G Ts F : List (List Int)} (h : JP ts I I.length G) (nI : I.Nodup) (r : PSr G Ts) (pm : F.Perm Ts) (pw : F.Pairwise fun x y => dataLt (dI y) (dI x) = false) : SetsI ts true I F := by
  have hp := h.perm
  rw [List.take_length] at hp
  have fp : F.flatten.Perm I := (pm.flatten.trans r.flat).trans hp
  have src : ∀ T ∈ F, ∃ S ∈ G, T.Perm S ∧ T.Pairwise (· ≤ ·) := fun T hT => r.src T (pm.mem_iff.mp hT)
  have ne : ∀ T ∈ F, T ≠ [] := fun T hT e => by
    obtain ⟨S, hS, p, _⟩ := src T hT
    rw [e] at p
    exact h.ne S hS p.symm.eq_nil
  have srt : ∀ T ∈ F, T.Pairwise (· ≤ ·) := fun T hT => by
    obtain ⟨S, hS, _, q⟩ := src T hT
    exact q
  refine ⟨fp, ne, srt, fun T hT x hx y hy a => ?_, fun T hT A cA x hx ax y hy => ?_, fun _ => ord_of ne srt (fp.nodup_iff.mpr nI) pw⟩
  · obtain ⟨S, hS, p, _⟩ := src T hT
    exact p.mem_iff.mpr (h.clo S hS x (p.mem_iff.mp hx) y (by rw [List.take_length]; exact hy) a)
  · obtain ⟨S, hS, p, _⟩ := src T hT
    exact h.con S hS A cA x (p.mem_iff.mp hx) ax y (p.mem_iff.mp hy)
/-- by gaps: ties of the other web -/
theorem SetsI.gaps {ts gs : List (Int × Int)} {I : List Int} {F : List (List Int)} (h : SetsI gs true I F) (g : ∀ x ∈ I, ∀ y ∈ I, x ≠ y → adjB gs x y = !adjB ts x y) : SetsI ts false I F := by
  have inI : ∀ S ∈ F, ∀ x ∈ S, x ∈ I := fun S hS x hx => h.perm.mem_iff.mp (List.mem_flatten.mpr ⟨S, hS, hx⟩)
  refine ⟨h.perm, h.ne, h.srt, fun S hS x hx y hy a => ?_, fun S hS A cA => h.con S hS A fun x xI y yI ax a => ?_, h.ord⟩
  · by_cases e : x = y
    · rw [← e]; exact hx
    · exact h.clo S hS x hx y hy (by rw [g x (inI S hS x hx) y hy e, a]; rfl)
  · by_cases e : x = y
    · rw [← e]; exact ax
    · refine cA x xI y yI ax ?_
      rw [g x xI y yI e] at a
      cases z : adjB ts x y with
      | true => rw [z] at a; cases a
      | false => rfl
theorem alikeAll_int : ∀ c d : List Int, alikeAll (c.map PyData.int) (d.map PyData.int) = true
  | [], _ => by simp [alikeAll]
  | _ :: _, [] => by simp [alikeAll]
  | x :: c, y :: d => by
    show (alike (.int x) (.int y) && alikeAll (c.map PyData.int) (d.map PyData.int)) = true
    rw [alikeAll_int c d]
    simp [alike]
theorem alike_dI (c d : List Int) : alike (dI c) (dI d) = true := alikeAll_int c d
end My

set_option Elab.async false
set_option linter.all false
set_option maxRecDepth 100000
set_option pp.maxSteps 400
set_option maxHeartbeats 4000000
namespace My
open PySem PySem.Spec PyProof.Rows L2 GxR
def unI : PyData → List Int
  | .list xs => xs.filterMap fun d => match d with | .int i => some i | _ => none
  | _ => []
theorem unI_dI (S : List Int) : unI (dI S) = S := by
  show (S.map PyData.int).filterMap _ = S
  rw [List.filterMap_map]
  induction S with
  | nil => rfl
  | cons a S ih => rw [List.filterMap_cons]; show a :: _ = _; rw [ih]
theorem lsn_of {H : Hp} : ∀ {ys : List (V × PyData)}, (∀ b ∈ ys, ∃ S, LsN [] H b.1 S ∧ b.2 = dI S) → All2 (LsN [] H) (ys.map (·.1)) (ys.map fun b => unI b.2)
  | [], _ => trivial
  | b :: ys, h => by
    obtain ⟨S, h1, h2⟩ := h b List.mem_cons_self
    refine ⟨?_, lsn_of fun c hc => h c (List.mem_cons_of_mem _ hc)⟩
    show LsN [] H b.1 (unI b.2)
    rw [h2, unI_dI]; exact h1
theorem zip_at {H : Hp} : ∀ {ws : List V} {Ts : List (List Int)}, All2 (LsN [] H) ws Ts → (((ws.zip (Ts.map dI)).map (·.1) = ws) ∧ ((ws.zip (Ts.map dI)).map (·.2) = Ts.map dI)) ∧ ∀ b ∈ ws.zip (Ts.map dI), ∃ S, LsN [] H b.1 S ∧ b.2 = dI S
  | [], [], _ => ⟨⟨rfl, rfl⟩, fun b h => absurd h List.not_mem_nil⟩
  | v :: ws, T :: Ts, h => by
    obtain ⟨⟨a, b⟩, c⟩ := zip_at h.2
    rw [List.map_cons, List.zip_cons_cons, List.map_cons, List.map_cons, a, b]
    refine ⟨⟨rfl, rfl⟩, fun z hz => ?_⟩
    rcases List.mem_cons.mp hz with e | e
    · rw [e]; exact ⟨T, h.1, rfl⟩
    · exact c z e
  | [], _ :: _, h => h.elim
  | _ :: _, [], h => h.elim
theorem tabG_putM {H : Hp} {P D : Addr} {xs : List V} {o : HO} (t : TabG H P) (e : H D = some (.lst xs)) : TabG (upd H D o) P := by
  obtain ⟨ps, h1, h2⟩ := t
  exact ⟨ps, by rw [upd_ne (fun z => by rw [z, e] at h1; cases h1)]; exact h1, h2⟩
section
variable {P : Program} {w : World} {K : PySem.W.Frag} {mg : Str → Option Value} {base : Heap}
/-! ### joined_sets -/
abbrev N_joined_sets : List Str := ["web", "places", "sets", "place", "near", "part", "other", "far"]
theorem sc_joined_sets : FnScope N_joined_sets ["web", "places"] (defScope s_joined_sets) := ⟨rfl, rfl, rfl, by decide +kernel, rfl, by decide +kernel, by decide +kernel⟩
def sp_joined (PT : Addr) : Sp := fun vs H Q _ => ∃ (v : V) (n : Nat) (ts : List (Int × Int)) (pa : Addr) (I : List Int), vs = [v, .ref pa] ∧ Web H v n ts ∧ H pa = some (.lst (I.map V.int)) ∧ I.Pairwise (· < ·) ∧ I.length ≤ 100 ∧ TabG H PT ∧
  ∀ (F : List (List Int)) (r : Addr) (us : List V) (H' : Hp), H r = none → FrM [PT] H H' → TabG H' PT → SetsI ts true I F → H' r = some (.lst us) → All2 (LsN [] H') us F → Q (.ref r) H'
theorem ok_joined {f c PT : Addr} {fd : FuncData} (B : Bts mg) (F : Fun K "joined_sets" "joined_sets" s_joined_sets f fd) (hc : fd.code = .ref c) (TB : TabB base mg c PT) (c_tied : Cl P w K mg base 2 "tied" sp_tied) : FnOk P w K mg base CX0 4 f fd ["web", "places"] (sp_joined PT) := by
  refine okC F hc sc_joined_sets (fun vs H Q E h => ?_) (fun A outer s H vs Q E hr h => ?_)
  · obtain ⟨v, n, ts, pa, I, rfl, _⟩ := h; rfl
  · obtain ⟨v, n, ts, pa, I, rfl, hW, ep, rise, Il, tg, q⟩ := h
    refine ⟨_, (pss_cons (ps_set (i := 2) sc_joined_sets.nd rfl (by first | exact Or.inl rfl | exact Or.inr rfl) (pe_lst pa_nil))
    (pss_cons (ps_for PassesOwn.never rfl (pi_list (pv 1)) (pg_name (i := 3) sc_joined_sets.nd rfl (by first | exact Or.inl rfl | exact Or.inr rfl))
      (pss_cons (ps_set (i := 4) sc_joined_sets.nd rfl (by first | exact Or.inl rfl | exact Or.inr rfl) (pe_lc (own := [("part", 5)]) (g := (gName 5)) (tt := (tB (tAnyG PT (iList K (tVar 5)) (gName 6) (tCall sp_tied [] E0 (tCons (tVar 0) (tCons (tVar 3) (tCons (tVar 6) tNil)))) [6]))) rfl sc_joined_sets.nd (pi_list (pv 2)) (blkOk_by (own := [("part", 5)]) (N := N_joined_sets) (sc := defScope s_joined_sets) (by decide +kernel)) (fun _ _ _ _ _ => (pg_name (i := 5) sc_joined_sets.nd rfl (by first | exact Or.inl rfl | exact Or.inr rfl))) (fun _ _ _ _ _ => (pts_one (pt_val (pe_anyG (own := [("other", 6)]) (wi := iList K (tVar 5)) (g := (gName 6)) (te := (tCall sp_tied [] E0 (tCons (tVar 0) (tCons (tVar 3) (tCons (tVar 6) tNil))))) rfl sc_joined_sets.nd hr (by rfl) B.any TB rfl ⟨rfl, by decide +kernel, rfl⟩ (blkOk_by (own := [("other", 6)]) (N := N_joined_sets) (by with_unfolding_all rfl)) (pi_list (pv 5)) (fun _ _ _ _ _ _ _ => (pg_name (i := 6) sc_joined_sets.nd rfl (by first | exact Or.inl rfl | exact Or.inr rfl))) (fun _ _ _ _ _ _ _ hr => (pe_c c_tied hr (by decide) (by rfl) (pa_cons (pv 0) (pa_cons (pv 3) (pa_cons (pv 6) pa_nil))))))))) (fun _ _ _ _ _ => (pv 5))))
      (pss_cons (ps_setLc (i := 7) (own := [("part", 5)]) (g := (gName 5)) (tt := (tTest (tOp (rNotInD K) _ _))) rfl sc_joined_sets.nd rfl rfl (sw_true rfl rfl rfl (by decide +kernel)) (pi_list (pv 2)) (blkOk_by (own := [("part", 5)]) (N := N_joined_sets) (sc := defScope s_joined_sets) (by decide +kernel)) (fun _ _ _ _ _ => (pg_name (i := 5) sc_joined_sets.nd rfl (by first | exact Or.inl rfl | exact Or.inr rfl))) (fun _ _ _ _ _ => (pts_one (pt_cmpR (op_notInD (u65 hr)) (pv 5) (pv 4) (by rfl)))) (fun _ _ _ _ _ => (pv 5)))
      (pss_one (ps_set (i := 2) sc_joined_sets.nd rfl (by first | exact Or.inl rfl | exact Or.inr rfl) (pe_op op_cat (pv 7) (pe_lst (pa_cons (pe_op op_cat (pe_lc2 (own := [("part", 5), ("other", 6)]) (vs1 := [6]) (g := (gName 5)) (g1 := (gName 6)) (tt := tYes) (tt1 := tYes) (wi1 := iList K (tVar 5)) rfl sc_joined_sets.nd (pi_list (pv 4)) (blkOk_by (own := [("part", 5), ("other", 6)]) (N := N_joined_sets) (sc := defScope s_joined_sets) (by decide +kernel)) (by decide) (fun _ _ _ _ _ => (pg_name (i := 5) sc_joined_sets.nd rfl (by first | exact Or.inl rfl | exact Or.inr rfl))) (fun _ _ _ _ _ => pts_nil) (fun _ _ _ _ _ => (pi_list (pv 5))) (fun _ _ _ _ _ => (pg_name (i := 6) sc_joined_sets.nd rfl (by first | exact Or.inl rfl | exact Or.inr rfl))) (fun _ _ _ _ _ => pts_nil) (fun _ _ _ _ _ => (pv 6))) (pe_lst (pa_cons (pv 3) pa_nil))) pa_nil))))))))
    (pss_one (ps_ret (pe_callB (cr_sortedD (u65 hr)) (by rfl) B.sorted (by decide +kernel) (pa_cons (pe_lc (own := [("part", 5)]) (g := (gName 5)) (tt := tYes) (te := (tCB (rSortedI K) _)) rfl sc_joined_sets.nd (pi_list (pv 2)) (blkOk_by (own := [("part", 5)]) (N := N_joined_sets) (sc := defScope s_joined_sets) (by decide +kernel)) (fun _ _ _ _ _ => (pg_name (i := 5) sc_joined_sets.nd rfl (by first | exact Or.inl rfl | exact Or.inr rfl))) (fun _ _ _ _ _ => pts_nil) (fun _ _ _ _ _ => (pe_callB cr_sortedI (by rfl) B.sorted (by decide +kernel) (pa_cons (pv 5) pa_nil)))) pa_nil)))))), ?_⟩
    have nI : I.Nodup := rise.imp fun h => Int.ne_of_lt h
    refine ⟨Nat.zero_le _, fun S0 nS0 => ?_⟩
    have s1 := same_new (o := .lst []) nS0
    have eS0 := upd_same (H := H) (a := S0) (o := .lst [])
    generalize upd H S0 (.lst []) = H1 at s1 eS0 ⊢
    refine ⟨_, rfl, pa, rfl, ⟨_, SqL.of (s1 _ _ ep)⟩, ?_⟩
    refine for_it (walk_list (K := K) (a := pa) (xs := I.map V.int)) (fun i σ HX => ∃ Sa us G y3 y4 y5 y6 y7, σ = [some v, some (.ref pa), some (.ref Sa), y3, y4, y5, y6, y7] ∧ FrM [PT] H HX ∧ TabG HX PT ∧ HX Sa = some (.lst us) ∧ All2 (LsN [] HX) us G ∧ JP ts I i G) ⟨S0, [], [], _, _, _, _, _, rfl, FrM.same s1, tabG_sameM tg s1, eS0, by exact trivial, JP.start ts I⟩ ?_ ?_ ?_
    · rintro i σ HX _ ⟨_, _, _, _, _, _, _, _, _, fX, _⟩
      exact SqL.of (frM_lst fX tg ep)
    · rintro i x σ HX HY hi ⟨Sa, us, G, y3, y4, y5, y6, y7, rfl, fX, tX, eS, hA, hJ⟩ ⟨rfl, hx⟩
      rw [List.length_map] at hi
      rw [List.getElem?_map] at hx
      obtain ⟨p, ep2, rfl⟩ := Option.map_eq_some_iff.mp hx
      have Gl := hJ.len
      have ul := hA.len
      have hWX := hW.mono (frM_tst fX tg)
      have wX : ∀ {HZ : Hp}, FrM [PT] HY HZ → Web HZ v n ts := fun {HZ} f => hWX.mono (frM_tst f tX)
      -- near
      refine ⟨_, rfl, Sa, rfl, ⟨_, SqL.of eS⟩, fun D nD => ?_⟩
      refine wk (walk_list (K := K) (a := Sa) (xs := us)) (fun j HZ => ∃ vs, FrM [PT] HY HZ ∧ TabG HZ PT ∧ HZ D = some (.lst vs) ∧ All2 (LsN [D] HZ) vs (nrG ts p (G.take j))) ⟨[], FrM.same (same_new nD), tabG_sameM tX (same_new nD), upd_same, by exact trivial⟩ ?_ ?_ ?_
      · rintro j HZ _ ⟨_, fZ, _⟩
        exact SqL.of (frM_lst fZ tX eS)
      · rintro j x HZ0 HZ hj ⟨vs, fZ, tZ, eD, hV⟩ ⟨rfl, hx2⟩
        obtain ⟨S, eSj, q0, rfl, _, eq0⟩ := hA.at hx2
        have vl := hV.len
        have fl := List.length_filter_le (njB ts p) (G.take j)
        rw [List.length_take] at fl
        have vle : vs.length ≤ j := by rw [vl]; exact Nat.le_trans fl (Nat.min_le_left _ _)
        have qD : q0 ≠ D := fun z => by rw [z, nD] at eq0; cases eq0
        have stp : nrG ts p (G.take (j + 1)) = nrG ts p (G.take j) ++ (if njB ts p S = true then [S] else []) := by
          unfold nrG
          rw [List.take_add_one, eSj, List.filter_append]
          show _ ++ List.filter _ [S] = _
          rw [List.filter_cons]; rfl
        have eqZ := frM_lst fZ tX eq0
        refine ⟨rfl, _, rfl, q0, rfl, ⟨_, SqL.of eqZ⟩, tZ, fun H3 tb => ?_⟩
        have fZ3 := tb_frM tb
        refine anyG_it (walk_list (K := K) (a := q0) (xs := S.map V.int)) (fun m H4 => FrM [PT] HZ H4 ∧ TabG H4 PT ∧ ∀ o ∈ S.take m, adjB ts p o = false) ⟨fZ3, tb.1, fun o h => absurd h (by rw [List.take_zero]; exact List.not_mem_nil)⟩ ?_ ?_ ?_
        · rintro m H4 _ ⟨f4, _⟩
          exact SqL.of (frM_lst f4 tZ eqZ)
        · rintro m y H4 H5 hm ⟨f4, t4, al4⟩ ⟨rfl, hy⟩
          rw [List.getElem?_map] at hy
          obtain ⟨o, eo, rfl⟩ := Option.map_eq_some_iff.mp hy
          refine ⟨rfl, _, rfl, _, rfl, _, rfl, v, n, ts, p, o, rfl, wX (fZ.trans f4), fun H6 s6 => ⟨adjB ts p o, rfl, ?_⟩⟩
          have f6 := f4.trans (FrM.same s6)
          have t6 := tabG_sameM t4 s6
          by_cases ha : adjB ts p o = true
          · rw [if_pos ha]
            have hn : njB ts p S = true := List.any_eq_true.mpr ⟨o, List.mem_of_getElem? eo, ha⟩
            rw [hn, if_pos rfl] at stp
            have eD6 := frM_lst f6 tZ eD
            have eq6 := frM_lst f6 tZ eqZ
            refine ⟨true, rfl, iteT ⟨_, rfl, vs, eD6, sz' (by omega), vs ++ [.ref q0], ?_, ?_, upd_same, ?_⟩⟩
            · exact (fZ.trans f6).trans (FrM.refl _ _) |>.putN nD
            · exact tabG_putM t6 eD6
            · rw [stp]
              exact All2.app (hV.imp fun _ _ ⟨q1, e, nb, h⟩ => ⟨q1, e, nb, by rw [upd_ne (fun z => nb (List.mem_singleton.mpr z))]; exact frM_lst f6 tZ h⟩) ⟨⟨q0, rfl, fun z => qD (List.mem_singleton.mp z), by rw [upd_ne qD]; exact eq6⟩, trivial⟩
          · rw [if_neg ha]
            refine ⟨f6, t6, fun o' ho' => ?_⟩
            rw [List.take_add_one, eo] at ho'
            rcases List.mem_append.mp ho' with z | z
            · exact al4 o' z
            · rw [List.mem_singleton.mp (show o' ∈ [o] from z)]; exact Bool.eq_false_iff.mpr ha
        · rintro H4 ⟨f4, t4, al4⟩
          rw [List.length_map, List.take_length] at al4
          have hn : ¬ njB ts p S = true := fun z => by
            obtain ⟨o, ho, ha⟩ := List.any_eq_true.mp z
            rw [al4 o ho] at ha; cases ha
          rw [if_neg hn, List.append_nil] at stp
          refine ⟨false, rfl, iteF ⟨vs, fZ.trans f4, t4, frM_lst f4 tZ eD, ?_⟩⟩
          rw [stp]
          exact hV.imp fun _ _ ⟨q1, e, nb, h⟩ => ⟨q1, e, nb, frM_lst f4 tZ h⟩
      rintro HN ⟨vs, fN, tN, eDN, hV⟩
      rw [ul, List.take_length] at hV
      have vl := hV.len
      have vle : vs.length ≤ G.length := by rw [vl]; exact List.length_filter_le _ _
      have eSN := frM_lst fN tX eS
      have hAN : All2 (LsN [] HN) us G := hA.imp fun _ _ ⟨q1, e, nb, h⟩ => ⟨q1, e, nb, frM_lst fN tX h⟩
      -- far
      refine ⟨_, rfl, Sa, rfl, ⟨_, SqL.of eSN⟩, fun E nE => ?_⟩
      have ED : E ≠ D := fun z => by rw [z, eDN] at nE; cases nE
      refine wk (walk_list (K := K) (a := Sa) (xs := us)) (fun j HZ => ∃ fs, Same HN HZ ∧ HZ E = some (.lst fs) ∧ All2 (LsN [E] HZ) fs (frG ts p (G.take j))) ⟨[], same_new nE, upd_same, by exact trivial⟩ ?_ ?_ ?_
      · rintro j HZ _ ⟨_, sZ, _⟩
        exact SqL.of (sZ _ _ eSN)
      · rintro j x HZ0 HZ hj ⟨fs, sZ, eE, hE⟩ ⟨rfl, hx2⟩
        obtain ⟨S, eSj, q0, rfl, _, eq0⟩ := hAN.at hx2
        have SG := List.mem_of_getElem? eSj
        have el := hE.len
        have fl := List.length_filter_le (fun S => !njB ts p S) (G.take j)
        rw [List.length_take] at fl
        have ele : fs.length ≤ j := by rw [el]; exact Nat.le_trans fl (Nat.min_le_left _ _)
        have qE : q0 ≠ E := fun z => by rw [z, nE] at eq0; cases eq0
        have stp : frG ts p (G.take (j + 1)) = frG ts p (G.take j) ++ (if (!njB ts p S) = true then [S] else []) := by
          unfold frG
          rw [List.take_add_one, eSj, List.filter_append]
          show _ ++ List.filter _ [S] = _
          rw [List.filter_cons]; rfl
        have hVZ : All2 (LsN [D] HZ) vs (nrG ts p G) := hV.imp fun _ _ ⟨q1, e, nb, h⟩ => ⟨q1, e, nb, sZ _ _ h⟩
        refine ⟨rfl, _, rfl, _, rfl, dI S, (nrG ts p G).map dI, .lst (SqL.of (sZ _ _ eq0)) (dpI S), .lst (SqL.of (sZ _ _ eDN)) (lsn_dp hVZ), shaped_dI S, shaped_dIs _, _, rfl, ?_⟩
        rw [any_dIs]
        have em : decide (S ∈ nrG ts p G) = njB ts p S := by
          have : S ∈ nrG ts p G ↔ njB ts p S = true := by
            unfold nrG; rw [List.mem_filter]; exact ⟨fun z => z.2, fun z => ⟨SG, z⟩⟩
          rw [Bool.eq_iff_iff, decide_eq_true_iff]; exact this
        rw [em]
        cases hn : njB ts p S with
        | true =>
          rw [hn, if_neg (by decide), List.append_nil] at stp
          refine iteF ⟨fs, sZ, eE, ?_⟩
          rw [stp]; exact hE
        | false =>
          rw [hn, if_pos (show (!false) = true from rfl)] at stp
          refine iteT ⟨_, rfl, fs, eE, sz' (by omega), fs ++ [.ref q0], Same.put sZ nE, upd_same, ?_⟩
          rw [stp]
          exact All2.app (hE.imp fun _ _ ⟨q1, e, nb, h⟩ => ⟨q1, e, nb, by rw [upd_ne (fun z => nb (List.mem_singleton.mpr z))]; exact h⟩) ⟨⟨q0, rfl, fun z => qE (List.mem_singleton.mp z), by rw [upd_ne qE]; exact sZ _ _ eq0⟩, trivial⟩
      rintro HF ⟨fs, sF, eEF, hE⟩
      rw [ul, List.take_length] at hE
      have el := hE.len
      have ele : fs.length ≤ G.length := by rw [el]; exact List.length_filter_le _ _
      have eDF := sF _ _ eDN
      have hVF : All2 (LsN [D] HF) vs (nrG ts p G) := hV.imp fun _ _ ⟨q1, e, nb, h⟩ => ⟨q1, e, nb, sF _ _ h⟩
      have nfl : (nrG ts p G).flatten.length ≤ G.flatten.length := by
        have := ((nr_fr_perm ts p G).flatten).length_eq
        rw [List.flatten_append, List.length_append] at this; omega
      -- joined
      refine ⟨_, rfl, _, rfl, D, rfl, ⟨_, SqL.of eDF⟩, fun M nM => ?_⟩
      have hVM : ∀ {HZ : Hp}, Same HF HZ → All2 (LsN [D] HZ) vs (nrG ts p G) := fun {HZ} s => hVF.imp fun _ _ ⟨q1, e, nb, h⟩ => ⟨q1, e, nb, s _ _ h⟩
      refine wk (walk_list (K := K) (a := D) (xs := vs)) (fun j HZ => Same HF HZ ∧ HZ M = some (.lst ((((nrG ts p G).take j).flatten).map V.int))) ⟨same_new nM, upd_same⟩ ?_ ?_ ?_
      · rintro j HZ _ ⟨sZ, _⟩
        exact SqL.of (sZ _ _ eDF)
      · rintro j x HZ0 HZ hj ⟨sZ, eM⟩ ⟨rfl, hx2⟩
        obtain ⟨S, eSj, q0, rfl, _, eq0⟩ := hVF.at hx2
        have tkl : ((nrG ts p G).take j).flatten.length + S.length ≤ (nrG ts p G).flatten.length := by
          obtain ⟨hjl, e⟩ := List.getElem?_eq_some_iff.mp eSj
          have e2 : (nrG ts p G) = (nrG ts p G).take j ++ S :: (nrG ts p G).drop (j + 1) := by
            rw [← e, List.getElem_cons_drop, List.take_append_drop]
          have e3 := congrArg (fun l => l.flatten.length) e2
          simp only [List.flatten_append, List.flatten_cons, List.length_append] at e3
          omega
        refine ⟨rfl, yes ⟨_, rfl, q0, rfl, ⟨_, SqL.of (sZ _ _ eq0)⟩, ?_⟩⟩
        refine wk (walk_list (K := K) (a := q0) (xs := S.map V.int)) (fun l HU => Same HF HU ∧ HU M = some (.lst ((((nrG ts p G).take j).flatten ++ S.take l).map V.int))) ⟨sZ, by rw [List.take_zero, List.append_nil]; exact eM⟩ ?_ ?_ ?_
        · rintro l HU _ ⟨sU, _⟩
          exact SqL.of (sU _ _ eq0)
        · rintro l y HU0 HU hl ⟨sU, eMU⟩ ⟨rfl, hy⟩
          rw [List.length_map] at hl
          rw [List.getElem?_map] at hy
          obtain ⟨o, eo, rfl⟩ := Option.map_eq_some_iff.mp hy
          refine ⟨rfl, yes ⟨_, rfl, _, eMU, sz' (by rw [List.length_map, List.length_append, List.length_take]; omega), Same.put sU nM, ?_⟩⟩
          rw [upd_same, List.take_add_one, eo, ← List.append_assoc]
          exact congrArg (fun z => some (HO.lst z)) (List.map_append (f := V.int) (l₁ := ((nrG ts p G).take j).flatten ++ S.take l) (l₂ := [o])).symm
        · rintro HU ⟨sU, eMU⟩
          rw [List.length_map, List.take_length] at eMU
          refine ⟨sU, ?_⟩
          rw [eMU, List.take_add_one, eSj, List.flatten_append]
          show _ = some (HO.lst ((_ ++ [S].flatten).map V.int))
          rw [List.flatten_cons, List.flatten_nil, List.append_nil]
      rintro HM ⟨sM, eMM⟩
      rw [vl, List.take_length] at eMM
      refine ⟨_, rfl, by show 1 ≤ sizeLine; decide, fun l nl => ?_⟩
      have kl := same_new (o := .lst [.int p]) nl
      refine ⟨M, l, _, _, rfl, rfl, kl _ _ eMM, upd_same, sz (by rw [List.length_map]; show _ + 1 ≤ _; omega), fun cc ncc => ?_⟩
      have kc := kl.trans (same_new (o := .lst ((nrG ts p G).flatten.map V.int ++ [.int p])) ncc)
      have ecc := upd_same (H := upd HM l (.lst [.int p])) (a := cc) (o := .lst ((nrG ts p G).flatten.map V.int ++ [.int p]))
      generalize upd (upd HM l (.lst [.int p])) cc (.lst ((nrG ts p G).flatten.map V.int ++ [.int p])) = HC at kc ecc ⊢
      refine ⟨by show 1 ≤ sizeLine; decide, fun w1 nw1 => ?_⟩
      have kw := same_new (o := .lst [.ref cc]) nw1
      have sAll := sM.trans (kc.trans kw)
      refine ⟨E, w1, fs, [.ref cc], rfl, rfl, sAll _ _ eEF, upd_same, sz (by show fs.length + 1 ≤ _; omega), fun z nz => ?_⟩
      have kz := same_new (o := .lst (fs ++ [.ref cc])) nz
      have sEnd := sAll.trans kz
      refine ⟨z, fs ++ [.ref cc], frG ts p G ++ [(nrG ts p G).flatten ++ [p]], _, _, _, _, _, rfl, (fX.trans fN).trans (FrM.same (sF.trans sEnd)), tabG_sameM tN (sF.trans sEnd), upd_same, ?_, hJ.step ep2⟩
      refine All2.app (hE.imp fun _ _ ⟨q1, e, nb, h⟩ => ⟨q1, e, List.not_mem_nil, sEnd _ _ h⟩) ⟨⟨cc, rfl, List.not_mem_nil, ?_⟩, trivial⟩
      rw [(kw.trans kz) _ _ ecc, List.map_append]; rfl
    · rintro σ HX ⟨Sa, us, G, y3, y4, y5, y6, y7, rfl, fX, tX, eS, hA, hJ⟩
      rw [List.length_map] at hJ
      have Gl := hJ.len
      have ul := hA.len
      refine ⟨_, rfl, Sa, rfl, ⟨_, SqL.of eS⟩, fun D nD => ?_⟩
      refine wk (walk_list (K := K) (a := Sa) (xs := us)) (fun j HZ => ∃ ws Ts, Same HX HZ ∧ HZ D = some (.lst ws) ∧ All2 (LsN [D] HZ) ws Ts ∧ PSr (G.take j) Ts) ⟨[], [], same_new nD, upd_same, by exact trivial, by exact trivial⟩ ?_ ?_ ?_
      · rintro j HZ _ ⟨_, _, sZ, _⟩
        exact SqL.of (sZ _ _ eS)
      · rintro j x HZ0 HZ hj ⟨ws, Ts, sZ, eD, hT, hP⟩ ⟨rfl, hx2⟩
        obtain ⟨S, eSj, q0, rfl, _, eq0⟩ := hA.at hx2
        have wl := hT.len
        have pl := hP.len
        rw [List.length_take] at pl
        refine ⟨rfl, yes ⟨_, rfl, q0, S, rfl, SqL.of (sZ _ _ eq0), fun T t pmT srT nt => ?_⟩⟩
        have st := same_new (o := .lst (T.map V.int)) nt
        have tD : t ≠ D := fun z => by rw [z, eD] at nt; cases nt
        refine ⟨ws, st _ _ eD, sz' (by omega), ws ++ [.ref t], Ts ++ [T], Same.put (sZ.trans st) nD, upd_same, ?_, ?_⟩
        · exact All2.app (hT.imp fun _ _ ⟨q1, e, nb, h⟩ => ⟨q1, e, nb, by rw [upd_ne (fun z => nb (List.mem_singleton.mpr z))]; exact st _ _ h⟩) ⟨⟨t, rfl, fun z => tD (List.mem_singleton.mp z), by rw [upd_ne tD]; exact upd_same⟩, trivial⟩
        · rw [List.take_add_one, eSj]
          exact hP.app pmT srT
      rintro HZ ⟨ws, Ts, sZ, eD, hT, hP⟩
      rw [ul, List.take_length] at hP
      have hT0 : All2 (LsN [] HZ) ws Ts := hT.imp fun _ _ ⟨q1, e, nb, h⟩ => ⟨q1, e, List.not_mem_nil, h⟩
      obtain ⟨⟨z1, z2⟩, z3⟩ := zip_at hT0
      refine ⟨D, ws.zip (Ts.map dI), rfl, ?_, fun b hb => ?_, ?_, ?_, fun ys r pm pw nr => ?_⟩
      · rw [z1]; exact SqL.of eD
      · obtain ⟨S, ⟨q1, e1, _, h1⟩, e2⟩ := z3 b hb
        refine ⟨⟨q1, e1⟩, ?_, ?_⟩
        · rw [e1, e2]; exact .lst (SqL.of h1) (dpI S)
        · rw [e2]
          unfold dI
          rw [PyData.depth, PySem.W.depth_ints]; decide
      · rw [z2]
        intro d hd d' hd'
        obtain ⟨c, _, rfl⟩ := List.mem_map.mp hd
        obtain ⟨c', _, rfl⟩ := List.mem_map.mp hd'
        exact alike_dI c c'
      · rw [z2]
        refine .inr fun d hd => ?_
        obtain ⟨c, _, rfl⟩ := List.mem_map.mp hd
        exact ⟨fun z => (nomatch z), fun xs z => (nomatch z)⟩
      · have sr := same_new (o := .lst (ys.map (·.1))) nr
        have ysm : ∀ b ∈ ys, ∃ S, LsN [] HZ b.1 S ∧ b.2 = dI S := fun b hb => z3 b (pm.mem_iff.mp hb)
        have hF := lsn_of ysm
        have sEnd := sZ.trans sr
        refine q (ys.map fun b => unI b.2) r _ _ ?_ (fX.trans (FrM.same sEnd)) (tabG_sameM tX sEnd) (hJ.sets nI hP ?_ ?_) upd_same (hF.imp fun _ _ ⟨q1, e, nb, h⟩ => ⟨q1, e, nb, sr _ _ h⟩)
        · have nX := same_free sZ nr
          cases hh : H r with
          | none => rfl
          | some o =>
            exfalso
            by_cases hp : r = PT
            · obtain ⟨ps, h1, _⟩ := tX
              rw [hp, h1] at nX; cases nX
            · rw [fX r o (fun m => hp (List.mem_singleton.mp m)) hh] at nX; cases nX
        · have := (pm.map (·.2)).map unI
          rw [z2, List.map_map, List.map_map] at this
          have e : Ts.map (unI ∘ dI) = Ts := by
            conv => rhs; rw [← List.map_id Ts]
            exact List.map_congr_left fun S _ => unI_dI S
          rw [e] at this
          exact this
        · rw [List.pairwise_map]
          refine pw.imp_of_mem fun {x y} hx hy h => ?_
          obtain ⟨S, _, e1⟩ := ysm x hx
          obtain ⟨T, _, e2⟩ := ysm y hy
          rw [e1, e2, unI_dI, unI_dI, ← e1, ← e2]; exact h
end
end My

set_option Elab.async false
set_option linter.all false
set_option maxRecDepth 100000
namespace My
open PySem PySem.Spec PyProof.Rows L2 GxR
/-! the least module of some places among places I -/
structure LmI (ts : List (Int × Int)) (I S0 ks : List Int) : Prop where
  sub : ∀ x ∈ S0, x ∈ ks
  inI : ∀ x ∈ ks, x ∈ I
  nd : ks.Nodup
  low : ∀ M : Int → Prop, CloI ts I M → (∀ x ∈ S0, M x) → ∀ x ∈ ks, M x
structure LeastD (ts : List (Int × Int)) (I S0 L : List Int) : Prop where
  rise : L.Pairwise (· < ·)
  sub : ∀ x ∈ S0, x ∈ L
  inI : ∀ x ∈ L, x ∈ I
  low : ∀ M : Int → Prop, CloI ts I M → (∀ x ∈ S0, M x) → ∀ x ∈ L, M x
  clo : CloI ts I (· ∈ L)
theorem mem_moreI {ts : List (Int × Int)} {I F : List Int} {x : Int} : x ∈ moreI ts I F ↔ x ∈ I ∧ x ∉ F ∧ partsB ts F x = true := by
  unfold moreI
  rw [List.mem_filter, Bool.and_eq_true, decide_eq_true_iff]
theorem lmI_more {ts : List (Int × Int)} {I S0 ks : List Int} (h : LmI ts I S0 ks) (nI : I.Nodup) : LmI ts I S0 (ks ++ moreI ts I ks) := by
  refine ⟨fun x hx => List.mem_append_left _ (h.sub x hx), fun x hx => ?_, ?_, fun M hM hS x hx => ?_⟩
  · rcases List.mem_append.mp hx with z | z
    · exact h.inI x z
    · exact (mem_moreI.mp z).1
  · rw [List.nodup_append]
    exact ⟨h.nd, nI.filter _, fun a ha b hb e => (mem_moreI.mp hb).2.1 (e ▸ ha)⟩
  · rcases List.mem_append.mp hx with z | z
    · exact h.low M hM hS x z
    · obtain ⟨a, c, d⟩ := mem_moreI.mp z
      refine Classical.byContradiction fun no => ?_
      obtain ⟨⟨u, hu, eu⟩, w, hw, ew⟩ := parts_iff.mp d
      have := hM x a no u (h.inI u hu) w (h.inI w hw) (h.low M hM hS u hu) (h.low M hM hS w hw)
      rw [eu, ew] at this; cases this
theorem cloI_of {ts : List (Int × Int)} {I ks : List Int} (e : moreI ts I ks = []) : CloI ts I (· ∈ ks) := fun p pI pn a _ b _ ha hb => by
  have np : ¬ partsB ts ks p = true := fun z => by
    have : p ∈ moreI ts I ks := mem_moreI.mpr ⟨pI, pn, z⟩
    rw [e] at this; cases this
  cases ea : adjB ts p a <;> cases eb : adjB ts p b
  · rfl
  · exact absurd (parts_iff.mpr ⟨⟨b, hb, eb⟩, a, ha, ea⟩) np
  · exact absurd (parts_iff.mpr ⟨⟨a, ha, ea⟩, b, hb, eb⟩) np
  · rfl
theorem leastD_of {ts : List (Int × Int)} {I S0 ks ys : List Int} (h : LmI ts I S0 ks) (c : CloI ts I (· ∈ ks)) (p : ys.Perm ks) (r : ys.Pairwise (· ≤ ·)) : LeastD ts I S0 ys := by
  have hm : ∀ x, x ∈ ys ↔ x ∈ ks := fun x => p.mem_iff
  refine ⟨rise_of r (p.nodup_iff.mpr h.nd), fun x hx => (hm x).mpr (h.sub x hx), fun x hx => h.inI x ((hm x).mp hx), fun M hM hS x hx => h.low M hM hS x ((hm x).mp hx), fun q qI qn a aI b bI ha hb => c q qI (fun z => qn ((hm q).mpr z)) a aI b bI ((hm a).mp ha) ((hm b).mp hb)⟩
/-- not all: a module lacks a place -/
theorem leastD_ne {ts : List (Int × Int)} {I L : List Int} {p q : Int} (r : I.Pairwise (· < ·)) (h : LeastD ts I [p, q] L) : L ≠ I ↔ Pr ts I p q := by
  constructor
  · intro ne
    refine ⟨(· ∈ L), h.clo, h.sub p List.mem_cons_self, h.sub q (List.mem_cons_of_mem _ List.mem_cons_self), ?_⟩
    refine Classical.byContradiction fun no => ne (rise_ext h.rise r fun x => ⟨h.inI x, fun hx => Classical.byContradiction fun k => no ⟨x, hx, k⟩⟩)
  · rintro ⟨M, cM, mp, mq, z, zI, zM⟩ e
    refine zM (h.low M cM (fun x hx => ?_) z (e ▸ zI))
    rcases List.mem_cons.mp hx with k | k
    · rw [k]; exact mp
    · rw [List.mem_singleton.mp k]; exact mq
/-! the classes, one after another -/
open Classical in
structure GrP (ts : List (Int × Int)) (I : List Int) (G : List (List Int)) (Lt : List Int) : Prop where
  src : ∀ S ∈ G, ∃ p ∈ I, S = clsI ts I p
  left : Lt = I.filter fun x => decide (∀ S ∈ G, x ∉ S)
  ord : G.Pairwise HdLt
  ahd : ∀ S ∈ G, HdLt S Lt
open Classical in
theorem GrP.start (ts : List (Int × Int)) (I : List Int) : GrP ts I [] I := ⟨fun S h => absurd h List.not_mem_nil, by rw [List.filter_eq_self.mpr fun x _ => decide_eq_true fun S h => absurd h List.not_mem_nil], .nil, fun S h => absurd h List.not_mem_nil⟩
open Classical in
theorem GrP.mem {ts : List (Int × Int)} {I Lt : List Int} {G : List (List Int)} (h : GrP ts I G Lt) {x : Int} : x ∈ Lt ↔ x ∈ I ∧ ∀ S ∈ G, x ∉ S := by
  rw [h.left, List.mem_filter, decide_eq_true_iff]
open Classical in
theorem GrP.part {ts : List (Int × Int)} {I Lt : List Int} {G : List (List Int)} {p : Int} (w : Whl ts I) (h : GrP ts I G (p :: Lt)) : (p :: Lt).filter (fun q => decide (Pr ts I p q)) = clsI ts I p := by
  have pL := h.mem.mp List.mem_cons_self
  rw [h.left, List.filter_filter]
  unfold clsI
  refine List.filter_congr fun x hx => ?_
  by_cases hp : Pr ts I p x
  · rw [decide_eq_true hp, Bool.true_and]
    refine decide_eq_true fun S hS xS => ?_
    obtain ⟨r, rI, rfl⟩ := h.src S hS
    obtain ⟨_, rx⟩ := mem_clsI.mp xS
    exact pL.2 _ hS (mem_clsI.mpr ⟨pL.1, rx.trans w hx hp.symm⟩)
  · rw [decide_eq_false hp, Bool.false_and]
open Classical in
theorem GrP.step {ts : List (Int × Int)} {I Lt : List Int} {G : List (List Int)} {p : Int} (w : Whl ts I) (r : I.Pairwise (· < ·)) (l : 2 ≤ I.length) (h : GrP ts I G (p :: Lt)) : GrP ts I (G ++ [clsI ts I p]) ((p :: Lt).filter fun x => decide (x ∉ clsI ts I p)) ∧ p ∈ clsI ts I p := by
  have pL := h.mem.mp List.mem_cons_self
  obtain ⟨u, v, uI, vI, uv⟩ := two_of r l
  obtain ⟨z, zI, zp⟩ : ∃ z ∈ I, z ≠ p := by
    by_cases e : u = p
    · exact ⟨v, vI, fun z => uv (e.trans z.symm)⟩
    · exact ⟨u, uI, e⟩
  have pp : p ∈ clsI ts I p := mem_clsI.mpr ⟨pL.1, Pr.refl zI zp⟩
  have rL : (p :: Lt).Pairwise (· < ·) := by rw [h.left]; exact r.sublist List.filter_sublist
  have le : ∀ x ∈ p :: Lt, p ≤ x := fun x hx => by
    rcases List.mem_cons.mp hx with e | e
    · omega
    · have := (List.pairwise_cons.mp rL).1 x e; omega
  have cL : ∀ x ∈ clsI ts I p, x ∈ p :: Lt := fun x hx => by
    rw [← h.part w] at hx
    exact (List.mem_filter.mp hx).1
  refine ⟨⟨fun S hS => ?_, ?_, ?_, fun S hS => ?_⟩, pp⟩
  · rcases List.mem_append.mp hS with k | k
    · exact h.src S k
    · exact ⟨p, pL.1, List.mem_singleton.mp k⟩
  · rw [h.left, List.filter_filter]
    refine List.filter_congr fun x hx => ?_
    rw [Bool.eq_iff_iff, Bool.and_eq_true, decide_eq_true_iff, decide_eq_true_iff, decide_eq_true_iff]
    constructor
    · rintro ⟨a, b⟩ S hS
      rcases List.mem_append.mp hS with k | k
      · exact b S k
      · rw [List.mem_singleton.mp k]; exact a
    · intro a
      exact ⟨a _ (List.mem_append_right _ (List.mem_singleton.mpr rfl)), fun S hS => a S (List.mem_append_left _ hS)⟩
  · rw [List.pairwise_append]
    exact ⟨h.ord, List.pairwise_singleton _ _, fun S hS T hT => by rw [List.mem_singleton.mp hT]; exact (h.ahd S hS).sub cL⟩
  · rcases List.mem_append.mp hS with k | k
    · exact (h.ahd S k).sub fun x hx => (List.mem_filter.mp hx).1
    · rw [List.mem_singleton.mp k]
      refine ⟨p, pp, fun x hx => le x (cL x hx), fun t ht => ?_⟩
      obtain ⟨tL, tn⟩ := List.mem_filter.mp ht
      have := le t tL
      have : t ≠ p := fun e => (of_decide_eq_true tn) (e ▸ pp)
      omega
theorem GrP.done {ts : List (Int × Int)} {I : List Int} {G : List (List Int)} (w : Whl ts I) (h : GrP ts I G []) : ClsG ts I I.length G := by
  refine ⟨fun S hS => ?_, fun p hp => ?_, ?_, fun _ _ _ => h.ord⟩
  · rw [List.take_length]; exact h.src S hS
  · rw [List.take_length] at hp
    have : ∃ S ∈ G, p ∈ S := Classical.byContradiction fun no => by
      have := h.mem.mpr ⟨hp, fun S hS k => no ⟨S, hS, k⟩⟩
      cases this
    obtain ⟨S, hS, pS⟩ := this
    obtain ⟨r, rI, rfl⟩ := h.src S hS
    rw [← clsI_eq w rI hp (mem_clsI.mp pS).2]; exact hS
  · exact List.nodup_iff_pairwise_ne.mpr (h.ord.imp fun {S T} k e => by subst e; exact k.irr)
theorem GrP.len {ts : List (Int × Int)} {I Lt : List Int} {G : List (List Int)} (h : GrP ts I G Lt) : Lt.length ≤ I.length := by
  rw [h.left]; exact List.length_filter_le _ _
end My

set_option Elab.async false
set_option linter.all false
set_option maxRecDepth 100000
set_option pp.maxSteps 400
set_option maxHeartbeats 4000000
namespace My
open PySem PySem.Spec PyProof.Rows L2 GxR
section
variable {P : Program} {w : World} {K : PySem.W.Frag} {mg : Str → Option Value} {base : Heap}
/-! ### least_among -/
def sp_amongI : Sp := fun vs H Q _ => ∃ (v : V) (n : Nat) (ts : List (Int × Int)) (e d : Addr) (I S0 : List Int), vs = [v, .ref e, .ref d] ∧ Web H v n ts ∧ I.Nodup ∧ I.length ≤ 60 ∧ H e = some (.lst (I.map V.int)) ∧ H d = some (.lst (S0.map V.int)) ∧ (∀ x ∈ S0, x ∈ I) ∧ S0.length ≤ 1000 ∧
  ∀ L r H', H r = none → Same H H' → LeastD ts I S0 L → H' r = some (.lst (L.map V.int)) → Q (.ref r) H'
theorem ok_amongI {f : Addr} {fd : FuncData} (B : Bts mg) (F : Fun K "least_among" "least_among" s_least_among f fd) (c_is_parting : Cl P w K mg base 3 "is_parting" sp_parting) : FnOk P w K mg base CX0 4 f fd ["web", "everything", "places"] sp_amongI := by
  refine F.ok sc_least_among (fun vs H Q E h => ?_) (fun cdv A outer s H vs Q E hr h => ?_)
  · obtain ⟨v, n, ts, e, d, I, S0, rfl, _⟩ := h; rfl
  · obtain ⟨v, n, ts, e, d, I, S0, rfl, hW, nI, Il, ee, ed, hS, sl, q⟩ := h
    refine ⟨_, (pss_cons (ps_set (i := 3) sc_least_among.nd rfl (by first | exact Or.inl rfl | exact Or.inr rfl) (pe_dc (own := [("place", 4)]) (g := (gName 4)) (tt := tYes) rfl sc_least_among.nd (pi_list (pv 2)) (blkOk_by (own := [("place", 4)]) (N := N_least_among) (sc := defScope s_least_among) (by decide +kernel)) (fun _ _ _ _ _ => (pg_name (i := 4) sc_least_among.nd rfl (by first | exact Or.inl rfl | exact Or.inr rfl))) (fun _ _ _ _ _ => pts_nil) (fun _ _ _ _ _ => (pv 4)) (fun _ _ _ _ _ => pe_bl)))
    (pss_cons (ps_set (i := 5) sc_least_among.nd rfl (by first | exact Or.inl rfl | exact Or.inr rfl) pe_bl)
    (pss_cons (ps_while PassesOwn.never (pt_val (pv 5))
      (pss_cons (ps_setLc (i := 6) (own := [("place", 4)]) (g := (gName 4)) rfl sc_least_among.nd rfl rfl (sw_true rfl rfl rfl (by decide +kernel)) (pi_list (pv 1)) (blkOk_by (own := [("place", 4)]) (N := N_least_among) (sc := defScope s_least_among) (by decide +kernel)) (fun _ _ _ _ _ => (pg_name (i := 4) sc_least_among.nd rfl (by first | exact Or.inl rfl | exact Or.inr rfl))) (fun _ _ _ _ _ => (pts_one (PW.pt (pw_and (pt_cmp (pc_dnotin (hu_of hr) (pv 4) (pv 3))) (pw_and1 (pt_val (pe_c c_is_parting hr (by decide) (by rfl) (pa_cons (pv 0) (pa_cons (pv 4) (pa_cons (pv 3) pa_nil)))))))))) (fun _ _ _ _ _ => (pv 4)))
      (pss_cons (ps_for PassesOwn.never rfl (pi_list (pv 6)) (pg_name (i := 4) sc_least_among.nd rfl (by first | exact Or.inl rfl | exact Or.inr rfl))
        (pss_one (ps_dput (hu_of hr) (pv 3) (pv 4) pe_bl rfl)))
      (pss_one (ps_set (i := 5) sc_least_among.nd rfl (by first | exact Or.inl rfl | exact Or.inr rfl) (pe_callTy call_boolL (by rfl) B.bool (by decide +kernel) (pa_cons (pv 6) pa_nil)))))))
    (pss_one (ps_ret (pe_callB (call_sortedDI rfl) (by rfl) B.sorted (by decide +kernel) (pa_cons (pv 3) pa_nil))))))), ?_⟩
    refine ⟨_, rfl, d, rfl, ⟨_, SqL.of ed⟩, fun D nD => ?_⟩
    have Slen : (S0.map V.int).length = S0.length := List.length_map _
    refine wk (walk_list (K := K) (a := d) (xs := S0.map V.int)) (fun i H1 => ∃ kvs ks, Same H H1 ∧ H1 D = some (.dK kvs) ∧ KeysI kvs ks ∧ ks.Nodup ∧ (∀ x, x ∈ ks ↔ x ∈ S0.take i) ∧ ks.length ≤ i) ⟨[], [], same_new nD, upd_same, rfl, List.nodup_nil, fun x => Iff.rfl, Nat.le_refl _⟩ ?_ ?_ ?_
    · rintro i H1 _ ⟨_, _, sm, _⟩
      exact SqL.of (sm _ _ ed)
    · rintro i x H1 H2 hi ⟨kvs, ks, sm, eD, hk, nd, hm, kl⟩ ⟨rfl, hx⟩
      rw [List.getElem?_map] at hx
      obtain ⟨j, ej, rfl⟩ := Option.map_eq_some_iff.mp hx
      refine ⟨rfl, yes ?_⟩
      have kll := hk.len
      refine ⟨_, rfl, kvs, Sum.inl j, rfl, eD, sz' (by omega), ?_⟩
      refine ⟨_, _, Same.put sm nD, upd_same, hk.put j (.bl true), ?_, fun x => ?_, ?_⟩
      · by_cases h : j ∈ ks
        · rw [if_pos h]; exact nd
        · rw [if_neg h, List.nodup_append]
          exact ⟨nd, List.nodup_cons.mpr ⟨List.not_mem_nil, List.nodup_nil⟩, fun a ha b hb e => h (by rw [List.mem_singleton.mp hb] at e; exact e ▸ ha)⟩
      · rw [List.take_add_one, ej, List.mem_append, ← hm x]
        show _ ↔ _ ∨ x ∈ [j]
        rw [List.mem_singleton]
        by_cases h : j ∈ ks
        · rw [if_pos h]; exact ⟨.inl, fun z => z.elim id fun z => z ▸ h⟩
        · rw [if_neg h, List.mem_append, List.mem_singleton]
      · by_cases h : j ∈ ks
        · rw [if_pos h]; omega
        · rw [if_neg h, List.length_append]; exact Nat.succ_le_succ kl
    · rintro H1 ⟨kvs, ks, s1, eD, hk, nd, hm, kl⟩
      rw [Slen, List.take_length] at hm
      have L0 : LmI ts I S0 ks := ⟨fun x hx => (hm x).mpr hx, fun x hx => hS x ((hm x).mp hx), nd, fun M _ hS x hx => hS x ((hm x).mp hx)⟩
      let W : Nat → L2.St → Hp → Prop := fun m σ H1 => ∃ kvs ks g y4 y6, σ = [some v, some (.ref e), some (.ref d), some (.ref D), y4, some (.bl g), y6] ∧ Same H H1 ∧ H1 D = some (.dK kvs) ∧ KeysI kvs ks ∧ LmI ts I S0 ks ∧ (g = false → CloI ts I (· ∈ ks)) ∧ m = 2 * (I.length - ks.length) + g.toNat
      refine ⟨W, ⟨_, kvs, ks, true, none, none, rfl, s1, eD, hk, L0, fun z => (nomatch z), rfl⟩, ?_⟩
      rintro m σ H2 ⟨kvs, ks, g, y4, y6, rfl, s2, eD2, hk2, L2', hg, rfl⟩
      have kn : ks.length ≤ I.length := nd_len (m := I) L2'.nd L2'.inI
      refine ⟨_, rfl, g, rfl, ?_⟩
      cases g with
      | false =>
        refine iteF ⟨_, rfl, D, kvs, ks, rfl, .inl eD2, hk2, by omega, fun ys r pm pw nr => ?_⟩
        have sr := same_new (o := .lst (ys.map V.int)) nr
        exact q ys r _ (same_free s2 nr) (s2.trans sr) (leastD_of L2' (hg rfl) pm pw) upd_same
      | true =>
        refine iteT ⟨fun σ' H' => ∃ m', m' < 2 * (I.length - ks.length) + 1 ∧ W m' σ' H', fun σ' H' hh => hh, ?_⟩
        refine ⟨_, rfl, e, rfl, ⟨_, SqL.of (s2 _ _ ee)⟩, fun N nN => ?_⟩
        have ul : (I.map V.int).length = I.length := List.length_map _
        refine wk (walk_list (K := K) (a := e) (xs := I.map V.int)) (fun i H3 => Same H2 H3 ∧ H3 N = some (.lst ((moreI ts (I.take i) ks).map V.int))) ⟨same_new nN, upd_same⟩ ?_ ?_ ?_
        · rintro i H3 _ ⟨s3, _⟩
          exact SqL.of (s3 _ _ (s2 _ _ ee))
        · rintro i x H3 H4 hi ⟨s3, eN⟩ ⟨rfl, hx⟩
          rw [ul] at hi
          rw [List.getElem?_map] at hx
          obtain ⟨o, eo, rfl⟩ := Option.map_eq_some_iff.mp hx
          have st := moreI_step ts I ks eo
          have nl : (moreI ts (I.take i) ks).length ≤ i := Nat.le_trans (List.length_filter_le _ _) (by rw [List.length_take]; exact Nat.min_le_left _ _)
          refine ⟨rfl, _, rfl, _, rfl, D, _, rfl, DGet.k (k := Sum.inl o) (s3 _ _ eD2), _, rfl, ?_⟩
          rw [hk2.get]
          by_cases hi2 : o ∈ ks
          · rw [decide_eq_true hi2]
            rw [decide_eq_false (fun z => z hi2), Bool.false_and, if_neg (fun z => nomatch z), List.append_nil] at st
            refine iteF (iteF ⟨s3, ?_⟩)
            rw [st]; exact eN
          · rw [decide_eq_false hi2]
            rw [decide_eq_true hi2, Bool.true_and] at st
            refine iteT ⟨_, rfl, _, rfl, _, rfl, v, n, ts, o, D, kvs, ks, rfl, hW.mono (Same.tst (s2.trans s3)), s3 _ _ eD2, hk2, by omega, fun H5 s5 => ⟨_, rfl, ?_⟩⟩
            cases hp : partsB ts ks o with
            | false =>
              rw [hp, if_neg (fun z => nomatch z), List.append_nil] at st
              refine iteF ⟨s3.trans s5, ?_⟩
              rw [st]; exact s5 _ _ eN
            | true =>
              rw [hp, if_pos rfl] at st
              refine iteT ⟨_, rfl, _, s5 _ _ eN, sz' (by rw [List.length_map]; omega), Same.put (s3.trans s5) nN, ?_⟩
              rw [upd_same, st, List.map_append]; rfl
        · rintro H3 ⟨s3, eN⟩
          rw [ul, List.take_length] at eN
          have nND : N ≠ D := Ne.symm (ne_of_none eD2 nN)
          have nl : (moreI ts I ks).length ≤ I.length := List.length_filter_le _ _
          refine ⟨_, rfl, N, rfl, ⟨_, SqL.of eN⟩, ?_⟩
          refine for_it (walk_list (K := K) (a := N) (xs := (moreI ts I ks).map V.int)) (fun i σ H4 => ∃ kvs y4, σ = [some v, some (.ref e), some (.ref d), some (.ref D), y4, some (.bl true), some (.ref N)] ∧ Same H H4 ∧ H4 N = some (.lst ((moreI ts I ks).map V.int)) ∧ H4 D = some (.dK kvs) ∧ KeysI kvs (ks ++ (moreI ts I ks).take i))
            ⟨kvs, y4, rfl, s2.trans s3, eN, s3 _ _ eD2, by rw [List.take_zero, List.append_nil]; exact hk2⟩ ?_ ?_ ?_
          · rintro i σ H4 _ ⟨_, _, _, _, e4, _⟩
            exact SqL.of e4
          · rintro i x σ H4 H5 hi ⟨kvs4, y4, rfl, s4, eN4, eD4, hk4⟩ ⟨rfl, hx⟩
            rw [List.length_map] at hi
            rw [List.getElem?_map] at hx
            obtain ⟨j, ej, rfl⟩ := Option.map_eq_some_iff.mp hx
            have k4l := hk4.len
            rw [List.length_append, List.length_take] at k4l
            refine ⟨_, rfl, _, rfl, D, _, rfl, DPut.k (k := Sum.inl j) eD4 (sz' (by omega)), ?_⟩
            have nj : j ∉ ks ++ (moreI ts I ks).take i := by
              have Lnd := (lmI_more L2' nI).nd
              rw [← List.take_append_drop i (moreI ts I ks), ← List.append_assoc, List.nodup_append] at Lnd
              refine fun z => Lnd.2.2 j z j ?_ rfl
              rw [List.drop_eq_getElem_cons hi]
              have := (List.getElem?_eq_some_iff.mp ej).2
              rw [this]; exact List.mem_cons_self
            have hp := hk4.put j (.bl true)
            rw [if_neg nj] at hp
            refine ⟨_, _, rfl, Same.put s4 nD, by rw [upd_ne nND]; exact eN4, upd_same, ?_⟩
            rw [List.take_add_one, ej, ← List.append_assoc]
            exact hp
          · rintro σ H4 ⟨kvs4, y4, rfl, s4, eN4, eD4, hk4⟩
            rw [List.length_map, List.take_length] at hk4
            refine ⟨_, rfl, N, _, rfl, SqL.of eN4, ?_⟩
            have Lm' := lmI_more L2' nI
            refine ⟨_, ?_, kvs4, _, _, _, _, rfl, s4, eD4, hk4, Lm', fun z => ?_, rfl⟩
            · rw [List.length_append]
              cases hh : moreI ts I ks with
              | nil => show 2 * (I.length - (ks.length + 0)) + 0 < _; omega
              | cons a l =>
                have kn' : (ks ++ moreI ts I ks).length ≤ I.length := nd_len (m := I) Lm'.nd Lm'.inI
                rw [hh, List.length_append] at kn'
                rw [List.length_cons] at kn' ⊢
                show 2 * (I.length - (ks.length + (l.length + 1))) + 1 < _
                omega
            · cases hh : moreI ts I ks with
              | nil => rw [List.append_nil]; exact cloI_of hh
              | cons a l => rw [hh] at z; cases z
end
end My

set_option Elab.async false
set_option linter.all false
set_option maxRecDepth 100000
set_option pp.maxSteps 400
set_option maxHeartbeats 4000000
namespace My
open PySem PySem.Spec PyProof.Rows L2 GxR
section
variable {P : Program} {w : World} {K : PySem.W.Frag} {mg : Str → Option Value} {base : Heap}
/-! ### greatest_modules -/
abbrev N_greatest_modules : List Str := ["web", "places", "sets", "left", "first", "part", "place"]
theorem sc_greatest_modules : FnScope N_greatest_modules ["web", "places"] (defScope s_greatest_modules) := ⟨rfl, rfl, rfl, by decide +kernel, rfl, by decide +kernel, by decide +kernel⟩
def sp_gm : Sp := fun vs H Q _ => ∃ (v : V) (n : Nat) (ts : List (Int × Int)) (pa : Addr) (I : List Int), vs = [v, .ref pa] ∧ Web H v n ts ∧ H pa = some (.lst (I.map V.int)) ∧ I.Pairwise (· < ·) ∧ 2 ≤ I.length ∧ I.length ≤ 60 ∧ Whl ts I ∧
  ∀ (G : List (List Int)) (r : Addr) (us : List V) (H' : Hp), H r = none → Same H H' → ClsG ts I I.length G → H' r = some (.lst us) → All2 (LsN [] H') us G → Q (.ref r) H'
open Classical in
theorem ok_gm {f : Addr} {fd : FuncData} (B : Bts mg) (F : Fun K "greatest_modules" "greatest_modules" s_greatest_modules f fd) (c_least_among : Cl P w K mg base 4 "least_among" sp_amongI) : FnOk P w K mg base CX0 5 f fd ["web", "places"] sp_gm := by
  refine F.ok sc_greatest_modules (fun vs H Q E h => ?_) (fun cdv A outer s H vs Q E hr h => ?_)
  · obtain ⟨v, n, ts, pa, I, rfl, _⟩ := h; rfl
  · obtain ⟨v, n, ts, pa, I, rfl, hW, ep, rise, I2, Il, wh, q⟩ := h
    refine ⟨_, (pss_cons (ps_set (i := 2) sc_greatest_modules.nd rfl (by first | exact Or.inl rfl | exact Or.inr rfl) (pe_lst pa_nil))
    (pss_cons (ps_set (i := 3) sc_greatest_modules.nd rfl (by first | exact Or.inl rfl | exact Or.inr rfl) (pv 1))
    (pss_cons (ps_while PassesOwn.never (pt_truth (pv 3) (by intro _; rfl))
      (pss_cons (ps_set (i := 4) sc_greatest_modules.nd rfl (by first | exact Or.inl rfl | exact Or.inr rfl) (pe_ix ix_list (pv 3) pe_int (fun _ _ => rfl)))
      (pss_cons (ps_set (i := 5) sc_greatest_modules.nd rfl (by first | exact Or.inl rfl | exact Or.inr rfl) (pe_lc (own := [("place", 6)]) (g := (gName 6)) (tt := (tTest (tOp (rNeD K) _ _))) rfl sc_greatest_modules.nd (pi_list (pv 3)) (blkOk_by (own := [("place", 6)]) (N := N_greatest_modules) (sc := defScope s_greatest_modules) (by decide +kernel)) (fun _ _ _ _ _ => (pg_name (i := 6) sc_greatest_modules.nd rfl (by first | exact Or.inl rfl | exact Or.inr rfl))) (fun _ _ _ _ _ => (pts_one (pt_cmpR (op_neD hr.units) (pe_c c_least_among hr (by decide) (by rfl) (pa_cons (pv 0) (pa_cons (pv 1) (pa_cons (pe_lst (pa_cons (pv 4) (pa_cons (pv 6) pa_nil))) pa_nil)))) (pv 1) (nomark _)))) (fun _ _ _ _ _ => (pv 6))))
      (pss_cons (ps_expr (pe_bm PySem.F.plainAttrs_list PySem.F.slot_list_append PySem.F.type_list_append mt_append (pv 2) (pa_cons (pv 5) pa_nil)))
      (pss_one (ps_setLc (i := 3) (own := [("place", 6)]) (g := (gName 6)) (tt := (tTest (tOp (rIn K true) _ _))) rfl sc_greatest_modules.nd rfl rfl (sw_true rfl rfl rfl (by decide +kernel)) (pi_list (pv 3)) (blkOk_by (own := [("place", 6)]) (N := N_greatest_modules) (sc := defScope s_greatest_modules) (by decide +kernel)) (fun _ _ _ _ _ => (pg_name (i := 6) sc_greatest_modules.nd rfl (by first | exact Or.inl rfl | exact Or.inr rfl))) (fun _ _ _ _ _ => (pts_one (pt_cmpR op_notIn_seq (pv 6) (pv 5) (by rfl)))) (fun _ _ _ _ _ => (pv 6))))))))
    (pss_one (ps_ret (pv 2)))))), ?_⟩
    have nI : I.Nodup := rise.imp fun h => Int.ne_of_lt h
    refine ⟨Nat.zero_le _, fun Sa nSa => ?_⟩
    have s1 := same_new (o := .lst []) nSa
    have eS1 := upd_same (H := H) (a := Sa) (o := .lst [])
    have pS : pa ≠ Sa := fun z => by rw [← z, ep] at nSa; cases nSa
    generalize upd H Sa (.lst []) = H1 at s1 eS1 ⊢
    refine ⟨_, rfl, ?_⟩
    let W : Nat → L2.St → Hp → Prop := fun m σ HX => ∃ G La Lt us y4 y5 y6, σ = [some v, some (.ref pa), some (.ref Sa), some (.ref La), y4, y5, y6] ∧ Same H HX ∧ HX Sa = some (.lst us) ∧ All2 (LsN [Sa] HX) us G ∧ HX La = some (.lst (Lt.map V.int)) ∧ La ≠ Sa ∧ GrP ts I G Lt ∧ G.length + Lt.length ≤ I.length ∧ m = Lt.length
    refine ⟨W, ⟨_, [], pa, I, [], _, _, _, rfl, s1, eS1, by exact trivial, s1 _ _ ep, pS, GrP.start ts I, by show 0 + _ ≤ _; omega, rfl⟩, ?_⟩
    rintro m σ HX ⟨G, La, Lt, us, y4, y5, y6, rfl, sX, eS, hA, eL, LS, hG, gl, rfl⟩
    have ul := hA.len
    refine ⟨_, rfl, !(Lt.map V.int).isEmpty, .inl ⟨_, SqL.of eL, rfl⟩, ?_⟩
    cases Lt with
    | nil =>
      refine iteF ⟨_, rfl, q G Sa us HX nSa sX (hG.done wh) eS (hA.imp fun _ _ ⟨q0, e, nb, h⟩ => ⟨q0, e, List.not_mem_nil, h⟩)⟩
    | cons p Lt1 =>
      refine iteT ⟨fun σ' H' => ∃ m', m' < (p :: Lt1).length ∧ W m' σ' H', fun σ' H' hh => hh, ?_⟩
      have pL := hG.mem.mp List.mem_cons_self
      have LI : ∀ x ∈ p :: Lt1, x ∈ I := fun x hx => (hG.mem.mp hx).1
      obtain ⟨hstep, pp⟩ := hG.step wh rise I2
      refine ⟨_, rfl, La, _, 0, .int p, rfl, rfl, SqL.of eL, atI_nat (j := 0) rfl, ?_⟩
      -- part
      refine ⟨_, rfl, La, rfl, ⟨_, SqL.of eL⟩, fun D nD => ?_⟩
      refine wk (walk_list (K := K) (a := La) (xs := (p :: Lt1).map V.int)) (fun j HZ => Same HX HZ ∧ HZ D = some (.lst ((((p :: Lt1).take j).filter fun q => decide (Pr ts I p q)).map V.int))) ⟨same_new nD, upd_same⟩ ?_ ?_ ?_
      · rintro j HZ _ ⟨sZ, _⟩
        exact SqL.of (sZ _ _ eL)
      · rintro j x HZ0 HZ hj ⟨sZ, eD⟩ ⟨rfl, hx⟩
        rw [List.length_map] at hj
        rw [List.getElem?_map] at hx
        obtain ⟨o, eo, rfl⟩ := Option.map_eq_some_iff.mp hx
        have oI := LI o (List.mem_of_getElem? eo)
        have fl := List.length_filter_le (fun q => decide (Pr ts I p q)) ((p :: Lt1).take j)
        rw [List.length_take] at fl
        have stp : ((p :: Lt1).take (j + 1)).filter (fun q => decide (Pr ts I p q)) = ((p :: Lt1).take j).filter (fun q => decide (Pr ts I p q)) ++ (if decide (Pr ts I p o) = true then [o] else []) := by
          rw [List.take_add_one, eo, List.filter_append]
          show _ ++ List.filter _ [o] = _
          rw [List.filter_cons]; rfl
        refine ⟨rfl, _, rfl, _, rfl, _, rfl, _, rfl, by show 2 ≤ sizeLine; decide, fun l nl => ?_⟩
        have sl := same_new (o := .lst [.int p, .int o]) nl
        have s0l := (sX.trans sZ).trans sl
        refine ⟨v, n, ts, pa, l, I, [p, o], rfl, hW.mono (Same.tst s0l), nI, Il, s0l _ _ ep, upd_same, fun x hx => ?_, by show 2 ≤ 1000; decide, fun L r HW nr sW hL er => ?_⟩
        · rcases List.mem_cons.mp hx with z | z
          · rw [z]; exact pL.1
          · rw [List.mem_singleton.mp z]; exact oI
        have s0W := s0l.trans sW
        refine ⟨_, rfl, dI L, dI I, .lst (SqL.of er) (dpI L), .lst (SqL.of (s0W _ _ ep)) (dpI I), shaped_dI L, shaped_dI I, _, rfl, ?_⟩
        rw [eqv_dI2]
        have eDW := (sl.trans sW) _ _ eD
        have sZW := sZ.trans (sl.trans sW)
        by_cases hp : Pr ts I p o
        · rw [decide_eq_false ((leastD_ne rise hL).mpr hp)]
          rw [decide_eq_true hp, if_pos rfl] at stp
          refine iteT ⟨_, rfl, _, eDW, sz' (by rw [List.length_map]; have := hG.len; omega), Same.put sZW nD, ?_⟩
          rw [upd_same, stp, List.map_append]; rfl
        · rw [decide_eq_true (Classical.byContradiction fun z => hp ((leastD_ne rise hL).mp z))]
          rw [decide_eq_false hp, if_neg (by decide), List.append_nil] at stp
          refine iteF ⟨sZW, ?_⟩
          rw [stp]; exact eDW
      rintro HD ⟨sD, eD⟩
      rw [List.length_map, List.take_length, hG.part wh] at eD
      have eSD := sD _ _ eS
      have eLD := sD _ _ eL
      have DS : D ≠ Sa := fun z => by rw [z, eS] at nD; cases nD
      refine ⟨_, rfl, .inl ⟨rfl, _, SqL.of eSD⟩, _, rfl, Sa, us, .ref D, rfl, rfl, eSD, sz' (by omega), ?_⟩
      have sP : Same H (upd HD Sa (.lst (us ++ [.ref D]))) := Same.put (sX.trans sD) nSa
      have eSP := upd_same (H := HD) (a := Sa) (o := .lst (us ++ [.ref D]))
      have eLP : (upd HD Sa (.lst (us ++ [.ref D]))) La = some (.lst ((p :: Lt1).map V.int)) := by rw [upd_ne LS]; exact eLD
      have eDP : (upd HD Sa (.lst (us ++ [.ref D]))) D = some (.lst ((clsI ts I p).map V.int)) := by rw [upd_ne DS]; exact eD
      have hAP : All2 (LsN [Sa] (upd HD Sa (.lst (us ++ [.ref D])))) (us ++ [.ref D]) (G ++ [clsI ts I p]) := All2.app (hA.imp fun _ _ ⟨q0, e, nb, h⟩ => ⟨q0, e, nb, by rw [upd_ne (fun z => nb (List.mem_singleton.mpr z))]; exact sD _ _ h⟩) ⟨⟨D, rfl, fun z => DS (List.mem_singleton.mp z), eDP⟩, trivial⟩
      generalize upd HD Sa (.lst (us ++ [.ref D])) = HP at sP eSP eLP eDP hAP ⊢
      -- left
      refine ⟨_, rfl, La, rfl, ⟨_, SqL.of eLP⟩, fun E nE => ?_⟩
      refine wk (walk_list (K := K) (a := La) (xs := (p :: Lt1).map V.int)) (fun j HZ => Same HP HZ ∧ HZ E = some (.lst ((((p :: Lt1).take j).filter fun x => decide (x ∉ clsI ts I p)).map V.int))) ⟨same_new nE, upd_same⟩ ?_ ?_ ?_
      · rintro j HZ _ ⟨sZ, _⟩
        exact SqL.of (sZ _ _ eLP)
      · rintro j x HZ0 HZ hj ⟨sZ, eE⟩ ⟨rfl, hx⟩
        rw [List.length_map] at hj
        rw [List.getElem?_map] at hx
        obtain ⟨o, eo, rfl⟩ := Option.map_eq_some_iff.mp hx
        have fl := List.length_filter_le (fun x => decide (x ∉ clsI ts I p)) ((p :: Lt1).take j)
        rw [List.length_take] at fl
        have stp : ((p :: Lt1).take (j + 1)).filter (fun x => decide (x ∉ clsI ts I p)) = ((p :: Lt1).take j).filter (fun x => decide (x ∉ clsI ts I p)) ++ (if decide (o ∉ clsI ts I p) = true then [o] else []) := by
          rw [List.take_add_one, eo, List.filter_append]
          show _ ++ List.filter _ [o] = _
          rw [List.filter_cons]; rfl
        refine ⟨rfl, _, rfl, _, rfl, D, _, rfl, .inl (SqL.of (sZ _ _ eDP)), rfl, all_flat _, _, rfl, ?_⟩
        rw [inV_int]
        by_cases hp : o ∈ clsI ts I p
        · rw [decide_eq_true hp]
          rw [decide_eq_false (fun z => z hp), if_neg (by decide), List.append_nil] at stp
          refine iteF ⟨sZ, ?_⟩
          rw [stp]; exact eE
        · rw [decide_eq_false hp]
          rw [decide_eq_true hp, if_pos rfl] at stp
          refine iteT ⟨_, rfl, _, eE, sz' (by rw [List.length_map]; have := hG.len; omega), Same.put sZ nE, ?_⟩
          rw [upd_same, stp, List.map_append]; rfl
      rintro HE ⟨sE, eE⟩
      rw [List.length_map, List.take_length] at eE
      have ll : ((p :: Lt1).filter fun x => decide (x ∉ clsI ts I p)).length ≤ Lt1.length := by
        rw [List.filter_cons_of_neg (by rw [decide_eq_true_iff]; exact fun z => z pp)]
        exact List.length_filter_le _ _
      have eSE := sE _ _ eSP
      have ES : E ≠ Sa := fun z => by rw [z, eSP] at nE; cases nE
      refine ⟨_, Nat.lt_succ_of_le ll, G ++ [clsI ts I p], E, _, us ++ [.ref D], _, _, _, rfl, sP.trans sE, eSE, hAP.imp fun _ _ ⟨q0, e, nb, h⟩ => ⟨q0, e, nb, sE _ _ h⟩, eE, ES, hstep, ?_, rfl⟩
      rw [List.length_append]
      have e1 : ([clsI ts I p] : List (List Int)).length = 1 := rfl
      rw [List.length_cons] at gl
      omega
end
end My

set_option Elab.async false
set_option linter.all false
set_option maxRecDepth 100000
set_option pp.maxSteps 400
set_option maxHeartbeats 4000000
namespace My
open PySem PySem.Spec PyProof.Rows L2 GxR
theorem SetsI.pos {ts : List (Int × Int)} {b : Bool} {I : List Int} {F : List (List Int)} (h : SetsI ts b I F) (ne : I ≠ []) : 1 ≤ F.length := by
  cases F with
  | nil => exact absurd h.perm.symm.eq_nil ne
  | cons _ _ => exact Nat.succ_le_succ (Nat.zero_le _)
theorem FrM.free {PT r : Addr} {H H' : Hp} (f : FrM [PT] H H') (t : TabG H' PT) (n : H' r = none) : H r = none := by
  cases hh : H r with
  | none => rfl
  | some o =>
    exfalso
    by_cases hp : r = PT
    · obtain ⟨ps, h1, _⟩ := t
      rw [hp, h1] at n; cases n
    · rw [f r o (fun m => hp (List.mem_singleton.mp m)) hh] at n; cases n
theorem rg_upT (n : Nat) : rgV 0 (n : Int) = (up n).map V.int := by
  unfold rgV up
  rw [List.map_map, show ((n : Int) - 0).toNat = n from by omega]
  exact List.map_congr_left fun i _ => congrArg V.int (Int.zero_add _)
theorem adj_gaps {n : Nat} {ts : List (Int × Int)} {x y : Int} (hx : 0 ≤ x ∧ x < (n : Int)) (hy : 0 ≤ y ∧ y < (n : Int)) (ne : x ≠ y) : adjB (gapsF ts (pup n n)) x y = !adjB ts x y := by
  have mp : tieO x y ∈ pup n n := by
    rw [mem_pup (Nat.le_refl n)]
    unfold tieO
    split
    · dsimp only; omega
    · dsimp only; omega
  unfold adjB gapsF
  rw [Bool.eq_iff_iff, decide_eq_true_iff, List.mem_filter, Bool.not_eq_true', decide_eq_false_iff_not]
  exact ⟨fun z => z.2, fun z => ⟨mp, z⟩⟩
section
variable {P : Program} {w : World} {K : PySem.W.Frag} {mg : Str → Option Value} {base : Heap}
/-! ### tree_of -/
abbrev N_tree_of : List Str := ["web", "gaps", "places", "kind", "sets", "part"]
theorem sc_tree_of : FnScope N_tree_of ["web", "gaps", "places"] (defScope s_tree_of) := ⟨rfl, rfl, rfl, by decide +kernel, rfl, by decide +kernel, by decide +kernel⟩
def sp_tree (PT : Addr) : Nat → Sp
  | 0 => fun _ _ _ _ => False
  | m + 1 => fun vs H Q _ => ∃ (v g : V) (n : Nat) (ts gs : List (Int × Int)) (pa : Addr) (I : List Int), vs = [v, g, .ref pa] ∧ Web H v n ts ∧ Web H g n gs ∧ (∀ x ∈ I, ∀ y ∈ I, x ≠ y → adjB gs x y = !adjB ts x y) ∧ H pa = some (.lst (I.map V.int)) ∧ I.Pairwise (· < ·) ∧ I ≠ [] ∧ I.length ≤ m ∧ m ≤ 30 ∧ TabG H PT ∧
    ∀ u H', FrM [PT] H H' → TabG H' PT → TrX ts H' m u I → Q u H'
theorem ok_tree1 {f PT : Addr} {fd : FuncData} {m : Nat} (B : Bts mg) (F : Fun K "tree_of" "tree_of" s_tree_of f fd) (c_joined_sets : Cl P w K mg base 4 "joined_sets" (sp_joined PT)) (c_greatest_modules : Cl P w K mg base 5 "greatest_modules" sp_gm) (c_tree_of : Cl P w K mg base (m + 6) "tree_of" (sp_tree PT m)) :
    FnOk P w K mg base CX0 (m + 7) f fd ["web", "gaps", "places"] (sp_tree PT (m + 1)) := by
  refine F.ok sc_tree_of (fun vs H Q E h => ?_) (fun cdv A outer s H vs Q E hr h => ?_)
  · obtain ⟨v, g, n, ts, gs, pa, I, rfl, _⟩ := h; rfl
  · obtain ⟨v, g, n, ts, gs, pa, I, rfl, hW, hG, gap, ep, rise, Ine, Il, m30, tg, q⟩ := h
    refine ⟨_, (pss_cons (ps_if (pt_cmpR op_eq (pe_callB call_len_seq (by rfl) B.len (by decide +kernel) (pa_cons (pv 2) pa_nil)) pe_int (nomark _)) (pss_one (ps_ret (pe_tup (pa_cons pe_str (pa_cons (pe_ix ix_list (pv 2) pe_int (fun _ _ => rfl)) pa_nil))))) pss_nil)
    (pss_cons (ps_set (i := 3) sc_tree_of.nd rfl (by first | exact Or.inl rfl | exact Or.inr rfl) pe_str)
    (pss_cons (ps_set (i := 4) sc_tree_of.nd rfl (by first | exact Or.inl rfl | exact Or.inr rfl) (pe_c c_joined_sets hr (by omega) (by rfl) (pa_cons (pv 0) (pa_cons (pv 2) pa_nil))))
    (pss_cut (ps_if (pt_cmpR op_eq (pe_callB call_len_seq (by rfl) B.len (by decide +kernel) (pa_cons (pv 4) pa_nil)) pe_int (nomark _)) (pss_cons (ps_set (i := 3) sc_tree_of.nd rfl (by first | exact Or.inl rfl | exact Or.inr rfl) pe_str)
      (pss_one (ps_set (i := 4) sc_tree_of.nd rfl (by first | exact Or.inl rfl | exact Or.inr rfl) (pe_c c_joined_sets hr (by omega) (by rfl) (pa_cons (pv 1) (pa_cons (pv 2) pa_nil)))))) pss_nil)
    (pss_cut (ps_if (pt_cmpR op_eq (pe_callB call_len_seq (by rfl) B.len (by decide +kernel) (pa_cons (pv 4) pa_nil)) pe_int (nomark _)) (pss_cons (ps_set (i := 3) sc_tree_of.nd rfl (by first | exact Or.inl rfl | exact Or.inr rfl) pe_str)
      (pss_one (ps_set (i := 4) sc_tree_of.nd rfl (by first | exact Or.inl rfl | exact Or.inr rfl) (pe_c c_greatest_modules hr (by omega) (by rfl) (pa_cons (pv 0) (pa_cons (pv 2) pa_nil)))))) pss_nil)
    (pss_one (ps_ret (pe_tup (pa_cons (pv 3) (pa_cons (pe_callTy call_tuple_of (by rfl) B.tuple (by decide +kernel) (pa_cons (pe_lc (own := [("part", 5)]) (g := (gName 5)) (tt := tYes) rfl sc_tree_of.nd (pi_list (pv 4)) (blkOk_by (own := [("part", 5)]) (N := N_tree_of) (sc := defScope s_tree_of) (by decide +kernel)) (fun _ _ _ _ _ => (pg_name (i := 5) sc_tree_of.nd rfl (by first | exact Or.inl rfl | exact Or.inr rfl))) (fun _ _ _ _ _ => pts_nil) (fun _ _ _ _ _ => (pe_c c_tree_of hr (Nat.le_refl _) (by rfl) (pa_cons (pv 0) (pa_cons (pv 1) (pa_cons (pv 5) pa_nil)))))) pa_nil)) pa_nil)))))))))), ?_⟩
    have nI : I.Nodup := rise.imp fun h => Int.ne_of_lt h
    have I0 := List.length_pos_iff.mpr Ine
    obtain ⟨m, rfl⟩ : ∃ k, m = k + 1 := ⟨m - 1, by omega⟩
    refine ⟨_, rfl, pa, _, rfl, .inl (SqL.of ep), rfl, _, rfl, ite2 (fun e => ?_) (fun e => ?_)⟩
    · have l1 : I.length = 1 := by
        have := V.int.inj (of_decide_eq_true e)
        rw [List.length_map] at this; omega
      obtain ⟨i, rfl⟩ := List.length_eq_one_iff.mp l1
      refine ⟨_, rfl, pa, _, 0, .int i, rfl, rfl, SqL.of ep, atI_nat (j := 0) rfl, by show 2 ≤ sizeLine; decide, fun p np => ?_⟩
      exact q _ _ (FrM.same (same_new np)) (tabG_sameM tg (same_new np)) (.inl ⟨p, i, rfl, upd_same, rfl⟩)
    have I2 : 2 ≤ I.length := by
      refine Classical.byContradiction fun k => e ?_
      rw [List.length_map]
      have : I.length = 1 := by omega
      rw [this]; exact decide_eq_true rfl
    -- apart
    refine ⟨_, rfl, _, rfl, v, n, ts, pa, I, rfl, hW, ep, rise, by omega, tg, fun F1 r1 us1 H1 nr1 f1 t1 h1 er1 hA1 => ?_⟩
    have tst1 := frM_tst f1 tg
    have ul1 := hA1.len
    have ps1 := h1.pos Ine
    -- all
    refine ⟨fun σ HX => ∃ (kd : Str) (r : Addr) (us : List V) (Fc : List (List Int)), σ = [some v, some g, some (.ref pa), some (.str kd), some (.ref r), none] ∧ FrM [PT] H HX ∧ TabG HX PT ∧ HX r = some (.lst us) ∧ All2 (LsN [] HX) us Fc ∧ ((kd = "apart" ∧ SetsI ts true I Fc ∧ 1 < Fc.length) ∨ (kd = "all" ∧ (∃ F1, SetsI ts true I F1 ∧ ¬ 1 < F1.length) ∧ SetsI ts false I Fc)), ?_, ?_⟩
    · refine ⟨_, rfl, r1, _, rfl, .inl (SqL.of er1), rfl, _, rfl, ite2 (fun e => ?_) (fun e => ?_)⟩
      · have l1 : us1.length = 1 := by have := V.int.inj (of_decide_eq_true e); omega
        refine ⟨_, rfl, _, rfl, g, n, gs, pa, I, rfl, hG.mono tst1, frM_lst f1 tg ep, rise, by omega, t1, fun F2 r2 us2 H2 nr2 f2 t2 h2 er2 hA2 => ?_⟩
        exact ⟨"all", r2, us2, F2, rfl, f1.trans f2, t2, er2, hA2, .inr ⟨rfl, ⟨F1, h1, by omega⟩, h2.gaps gap⟩⟩
      · have l1 : 1 < F1.length := by
          refine Classical.byContradiction fun k => e ?_
          have : us1.length = 1 := by omega
          rw [this]; exact decide_eq_true rfl
        exact ⟨"apart", r1, us1, F1, rfl, f1, t1, er1, hA1, .inl ⟨rfl, h1, l1⟩⟩
    rintro σ H2 ⟨kd, r2, us2, F2, rfl, f2, t2, er2, hA2, hk2⟩
    have tst2 := frM_tst f2 tg
    have ul2 := hA2.len
    have ps2 : 1 ≤ F2.length := by
      rcases hk2 with ⟨_, h, _⟩ | ⟨_, _, h⟩
      · exact h.pos Ine
      · exact h.pos Ine
    -- close
    refine ⟨fun σ HX => ∃ (kd : Str) (r : Addr) (us : List V) (Fc : List (List Int)), σ = [some v, some g, some (.ref pa), some (.str kd), some (.ref r), none] ∧ FrM [PT] H HX ∧ TabG HX PT ∧ HX r = some (.lst us) ∧ All2 (LsN [] HX) us Fc ∧ KindX ts I kd Fc, ?_, ?_⟩
    · refine ⟨_, rfl, r2, _, rfl, .inl (SqL.of er2), rfl, _, rfl, ite2 (fun e => ?_) (fun e => ?_)⟩
      · have l1 : us2.length = 1 := by have := V.int.inj (of_decide_eq_true e); omega
        have n1 : ¬ 1 < F2.length := by omega
        obtain ⟨⟨F1', a1, a2⟩, b1⟩ : (∃ F1, SetsI ts true I F1 ∧ ¬ 1 < F1.length) ∧ SetsI ts false I F2 := by
          rcases hk2 with ⟨_, _, h⟩ | ⟨_, h, k⟩
          · exact absurd h n1
          · exact ⟨h, k⟩
        refine ⟨_, rfl, _, rfl, v, n, ts, pa, I, rfl, hW.mono tst2, frM_lst f2 tg ep, rise, I2, by omega, whl_of a1 b1 a2 n1, fun G r us H3 nr s3 hC er hA => ?_⟩
        exact ⟨"close", r, us, G, rfl, f2.trans (FrM.same s3), tabG_sameM t2 s3, er, hA, .inr (.inr ⟨rfl, ⟨F1', a1, a2⟩, ⟨F2, b1, n1⟩, hC⟩)⟩
      · have l1 : 1 < F2.length := by
          refine Classical.byContradiction fun k => e ?_
          have : us2.length = 1 := by omega
          rw [this]; exact decide_eq_true rfl
        refine ⟨kd, r2, us2, F2, rfl, f2, t2, er2, hA2, ?_⟩
        rcases hk2 with ⟨rfl, h, k⟩ | ⟨rfl, h, k⟩
        · exact .inl ⟨rfl, h, k⟩
        · exact .inr (.inl ⟨rfl, h, k, l1⟩)
    rintro σ H3 ⟨kd, r3, us3, F3, rfl, f3, t3, er3, hA3, hk⟩
    have tst3 := frM_tst f3 tg
    have pt := hk.part rise I2
    have ptl := pt.len
    have ul3 := hA3.len
    have hW3 := hW.mono tst3
    have hG3 := hG.mono tst3
    refine ⟨_, rfl, _, rfl, r3, rfl, ⟨_, SqL.of er3⟩, fun D nD => ?_⟩
    refine wk (walk_list (K := K) (a := r3) (xs := us3)) (fun j HY => ∃ ws, FrM [PT] H3 HY ∧ TabG HY PT ∧ HY D = some (.lst ws) ∧ All2 (TrX ts HY m) ws (F3.take j)) ⟨[], FrM.same (same_new nD), tabG_sameM t3 (same_new nD), upd_same, by exact trivial⟩ ?_ ?_ ?_
    · rintro j HY _ ⟨_, fY, _⟩
      exact SqL.of (frM_lst fY t3 er3)
    · rintro j x HY0 HY hj ⟨ws, fY, tY, eD, hT⟩ ⟨rfl, hx2⟩
      obtain ⟨S, eS, q0, rfl, _, eq0⟩ := hA3.at hx2
      have Sm := List.mem_of_getElem? eS
      have less := pt.less Sm
      have wl := hT.len
      rw [List.length_take] at wl
      have tY3 := frM_tst fY t3
      refine ⟨rfl, yes ⟨_, rfl, _, rfl, _, rfl, v, g, n, ts, gs, q0, S, rfl, hW3.mono tY3, hG3.mono tY3, fun x hx y hy => gap x (pt.mem Sm x hx) y (pt.mem Sm y hy), frM_lst fY t3 eq0, pt.rise S Sm, pt.ne S Sm, by omega, by omega, tY, fun u HU fU tU ht => ?_⟩⟩
      have eDU := frM_lst fU tY eD
      have tp := tst_put (o := .lst (ws ++ [u])) eDU
      refine ⟨ws, eDU, sz' (by omega), ws ++ [u], (fY.trans fU).putN nD, tabG_putM tU eDU, upd_same, ?_⟩
      rw [List.take_add_one, eS]
      exact (hT.imp fun _ _ h => (h.mono (frM_tst fU tY)).mono tp).app ⟨ht.mono tp, trivial⟩
    rintro HY ⟨ws, fY, tY, eD, hT⟩
    rw [ul3, List.take_length] at hT
    refine ⟨D, ws, rfl, .inl ⟨SqL.of eD, fun q1 nq1 => ⟨by show 2 ≤ sizeLine; decide, fun p np => ?_⟩⟩⟩
    have sq1 := same_new (o := .tup ws) nq1
    have sp_ := same_new (o := .tup [.str kd, .ref q1]) np
    have sE := sq1.trans sp_
    refine q _ _ ((f3.trans fY).trans (FrM.same sE)) (tabG_sameM tY sE) (.inr ⟨p, q1, kd, ws, F3, rfl, upd_same, ⟨rise, I2⟩, hk, sp_ _ _ upd_same, hT.imp fun _ _ h => h.mono (Same.tst sE)⟩)
theorem ok_tree {f PT : Addr} {fd : FuncData} (B : Bts mg) (F : Fun K "tree_of" "tree_of" s_tree_of f fd) (hm : mg "tree_of" = some (.ref f)) (hb : Binds K fd ["web", "gaps", "places"] []) (c_joined_sets : Cl P w K mg base 4 "joined_sets" (sp_joined PT)) (c_greatest_modules : Cl P w K mg base 5 "greatest_modules" sp_gm) :
    ∀ m, FnOk P w K mg base CX0 (m + 6) f fd ["web", "gaps", "places"] (sp_tree PT m)
  | 0 => ⟨fun _ _ _ _ h => h.elim, fun _ _ _ _ _ _ _ _ _ _ _ _ _ h => h.elim⟩
  | m + 1 => ok_tree1 B F c_joined_sets c_greatest_modules (Cl.mk' F hm hb (ok_tree B F hm hb c_joined_sets c_greatest_modules m))
/-! ### parts_of -/
abbrev N_parts_of : List Str := ["web"]
theorem sc_parts_of : FnScope N_parts_of ["web"] (defScope s_parts_of) := ⟨rfl, rfl, rfl, by decide +kernel, rfl, by decide +kernel, by decide +kernel⟩
def sp_parts (PT : Addr) : Sp := fun vs H Q _ => ∃ (v : V) (n : Nat) (ts : List (Int × Int)), vs = [v] ∧ Web H v n ts ∧ n ≤ 12 ∧ ts.length ≤ 10000 ∧ TabG H PT ∧
  ∀ u H', FrM [PT] H H' → TabG H' PT → ((n = 0 ∧ u = .non) ∨ (0 < n ∧ TrX ts H' 12 u (up n))) → Q u H'
theorem ok_parts {f PT : Addr} {fd : FuncData} (B : Bts mg) (F : Fun K "parts_of" "parts_of" s_parts_of f fd) (c_tree_of : Cl P w K mg base 19 "tree_of" (sp_tree PT 13)) (c_gaps_of : Cl P w K mg base 1 "gaps_of" sp_gaps) : FnOk P w K mg base CX0 20 f fd ["web"] (sp_parts PT) := by
  refine F.ok sc_parts_of (fun vs H Q E h => ?_) (fun cdv A outer s H vs Q E hr h => ?_)
  · obtain ⟨v, n, ts, rfl, _⟩ := h; rfl
  · obtain ⟨v, n, ts, rfl, hW, hn, tl, tg, q⟩ := h
    refine ⟨_, (pss_cons (ps_if (pt_cmpR op_eq (pe_ix ix_tup (pv 0) pe_int (fun _ _ => rfl)) pe_int (nomark _)) (pss_one (ps_ret pe_non)) pss_nil)
    (pss_one (ps_ret (pe_c c_tree_of hr (by decide) (by rfl) (pa_cons (pv 0) (pa_cons (pe_c c_gaps_of hr (by decide) (by rfl) (pa_cons (pv 0) pa_nil)) (pa_cons (pe_listRg rfl (by rfl) B.list (prg_1 (by rfl) B.range (pe_ix ix_tup (pv 0) pe_int (fun _ _ => rfl)))) pa_nil))))))), ?_⟩
    obtain ⟨pw, qw, uw, rfl, ew, _⟩ := id hW
    refine ⟨_, rfl, pw, _, 0, .int (n : Int), rfl, rfl, SqT.of ew, atI_nat (j := 0) rfl, rfl, _, rfl, ite2 (fun e => ?_) (fun e => ?_)⟩
    · have n0 : n = 0 := by have := V.int.inj (of_decide_eq_true e); omega
      exact q _ H (FrM.refl _ _) tg (.inl ⟨n0, rfl⟩)
    · have n0 : 0 < n := by
        refine Nat.pos_of_ne_zero fun z => e ?_
        rw [z]; exact decide_eq_true rfl
      refine ⟨_, rfl, _, rfl, .ref pw, n, ts, rfl, hW, tl, by omega, fun g H1 s1 hG => ?_⟩
      refine ⟨_, rfl, pw, _, 0, .int (n : Int), rfl, rfl, SqT.of (s1 _ _ ew), atI_nat (j := 0) rfl, _, rfl, ⟨by omega, by omega, by omega, by omega⟩, fun e ne => ?_⟩
      have se := same_new (o := .lst (rgV 0 (n : Int))) ne
      have ee := upd_same (H := H1) (a := e) (o := .lst (rgV 0 (n : Int)))
      rw [rg_upT] at se ee ⊢
      have s2 := s1.trans se
      refine ⟨.ref pw, g, n, ts, _, e, up n, rfl, hW.mono (Same.tst s2), hG.mono (Same.tst se), fun x hx y hy xy => adj_gaps (mem_up.mp hx) (mem_up.mp hy) xy, ee, (ris_up n).1, (fun z => by have := up_len n; rw [z] at this; simp at this; omega), by rw [up_len]; omega, by decide, tabG_sameM tg s2, fun u H2 f2 t2 hu => ?_⟩
      exact q u H2 ((FrM.same s2).trans f2) t2 (.inr ⟨n0, hu⟩)
end
end My

set_option Elab.async false
set_option linter.all false
set_option maxRecDepth 100000
set_option pp.maxSteps 400
set_option maxHeartbeats 4000000
namespace My
open PySem PySem.Spec PyProof.Rows L2 GxR
section
variable {P : Program} {w : World} {K : PySem.W.Frag} {mg : Str → Option Value} {base : Heap}
end
end My

set_option Elab.async false
set_option linter.all false
set_option maxRecDepth 100000
set_option pp.maxSteps 400
set_option maxHeartbeats 4000000
namespace My
open PySem PySem.Spec PyProof.Rows L2 GxR
/-- the first place of each -/
def hds (Is : List (List Int)) : List Int := Is.map fun S => S.headD 0
theorem hd_mem {S : List Int} (h : S ≠ []) : S.headD 0 ∈ S := by
  cases S with
  | nil => exact absurd rfl h
  | cons a l => exact List.mem_cons_self
theorem hds_nodup {I : List Int} {Is : List (List Int)} (pt : PartI I Is) (nI : I.Nodup) : (hds Is).Nodup := by
  have := (nd_flat.mp (pt.perm.nodup_iff.mpr nI)).2
  unfold hds
  rw [List.nodup_iff_pairwise_ne, List.pairwise_map]
  exact this.imp_of_mem fun {S T} hS hT h => h _ (hd_mem (pt.ne S hS)) _ (hd_mem (pt.ne T hT))
section
variable {P : Program} {w : World} {K : PySem.W.Frag} {mg : Str → Option Value} {base : Heap}
end
end My

set_option Elab.async false
set_option linter.all false
set_option maxRecDepth 100000
namespace My
open PySem PySem.Spec PyProof.Rows L2 GxR
/-! trees whose parts stand in order, with what their words say of the ties between two parts -/
def BtB (ts : List (Int × Int)) (w : Str) (Is : List (List Int)) : Prop :=
  (w = "all" ∨ w = "apart" ∨ w = "close") ∧ (w = "all" → Is.Pairwise fun S T => ∀ x ∈ S, ∀ y ∈ T, adjB ts x y = true) ∧ (w = "apart" → Is.Pairwise fun S T => ∀ x ∈ S, ∀ y ∈ T, adjB ts x y = false)
def TrR (ts : List (Int × Int)) (H : Hp) : Nat → V → List Int → Prop
  | 0, _, _ => False
  | m + 1, v, I => (∃ p i, v = .ref p ∧ H p = some (.tup [.str "place", .int i]) ∧ I = [i]) ∨
      ∃ (p q : Addr) (w : Str) (vs : List V) (Is : List (List Int)), v = .ref p ∧ H p = some (.tup [.str w, .ref q]) ∧ (w ≠ "place" ∧ PyData.canLay0 (.str w) = true) ∧ H q = some (.tup vs) ∧ All2 (TrR ts H m) vs Is ∧ PartI I Is ∧ Is.Pairwise HdLt ∧ BtB ts w Is
theorem TrR.mono {ts : List (Int × Int)} {H H' : Hp} (t : Tst H H') : ∀ {m : Nat} {v : V} {I : List Int}, TrR ts H m v I → TrR ts H' m v I
  | 0, _, _, h => h.elim
  | m + 1, v, I, h => by
    rcases h with ⟨p, i, e, a, b⟩ | ⟨p, q, w, vs, Is, e, a, b, c, d, f, g, k⟩
    · exact .inl ⟨p, i, e, t _ _ a, b⟩
    · exact .inr ⟨p, q, w, vs, Is, e, t _ _ a, b, t _ _ c, d.imp fun _ _ h => TrR.mono t h, f, g, k⟩
theorem TrR.at {ts : List (Int × Int)} {H : Hp} : ∀ {m : Nat} {v : V} {I : List Int}, TrR ts H m v I → TrAt H m v I
  | 0, _, _, h => h.elim
  | m + 1, v, I, h => by
    rcases h with ⟨p, i, e, a, b⟩ | ⟨p, q, w, vs, Is, e, a, b, c, d, f, _, _⟩
    · exact .inl ⟨p, i, e, a, b⟩
    · exact .inr ⟨p, q, w, vs, Is, e, a, b, c, d.imp fun _ _ h => TrR.at h, f⟩
theorem KindX.ord {ts : List (Int × Int)} {I : List Int} {w : Str} {F : List (List Int)} (r : I.Pairwise (· < ·)) (l : 2 ≤ I.length) (f : KindX ts I w F) : F.Pairwise HdLt := by
  rcases f with ⟨rfl, f1, f2⟩ | ⟨rfl, _, f1, f2⟩ | ⟨rfl, ⟨F1, a1, a2⟩, ⟨F2, b1, b2⟩, f1⟩
  · exact f1.ord r
  · exact f1.ord r
  · exact f1.ord (whl_of a1 b1 a2 b2) r (two_of r l)
theorem SetsI.btw {ts : List (Int × Int)} {b : Bool} {I : List Int} {F : List (List Int)} (h : SetsI ts b I F) (nI : I.Nodup) : F.Pairwise fun S T => ∀ x ∈ S, ∀ y ∈ T, adjB ts x y = !b := by
  refine (nd_flat.mp (h.perm.nodup_iff.mpr nI)).2.imp_of_mem fun {S T} hS hT dj x hx y hy => ?_
  have yI := h.perm.mem_iff.mp (List.mem_flatten.mpr ⟨T, hT, hy⟩)
  have ne : adjB ts x y ≠ b := fun e => dj y (h.clo S hS x hx y yI e) y hy rfl
  cases b <;> cases hh : adjB ts x y
  · exact absurd hh ne
  · rfl
  · rfl
  · exact absurd hh ne
theorem KindX.btw {ts : List (Int × Int)} {I : List Int} {w : Str} {F : List (List Int)} (r : I.Pairwise (· < ·)) (f : KindX ts I w F) : BtB ts w F := by
  have nI : I.Nodup := r.imp fun h => Int.ne_of_lt h
  rcases f with ⟨rfl, f1, f2⟩ | ⟨rfl, _, f1, f2⟩ | ⟨rfl, _, _, f1⟩
  · exact ⟨.inr (.inl rfl), fun z => absurd z (by decide), fun _ => f1.btw nI⟩
  · exact ⟨.inl rfl, fun _ => f1.btw nI, fun z => absurd z (by decide)⟩
  · exact ⟨.inr (.inr rfl), fun z => absurd z (by decide), fun z => absurd z (by decide)⟩
theorem TrX.toR {ts : List (Int × Int)} {H : Hp} : ∀ {m : Nat} {v : V} {I : List Int}, TrX ts H m v I → TrR ts H m v I
  | 0, _, _, h => h.elim
  | m + 1, v, I, h => by
    rcases h with ⟨p, i, e, a, b⟩ | ⟨p, q, w, vs, Is, e, a, b, k, c, d⟩
    · exact .inl ⟨p, i, e, a, b⟩
    · exact .inr ⟨p, q, w, vs, Is, e, a, k.word, c, d.imp fun _ _ h => TrX.toR h, k.part b.1 b.2, k.ord b.1 b.2, k.btw b.1⟩
/-- the least places of the parts rise -/
theorem hds_rise {I : List Int} {Is : List (List Int)} (pt : PartI I Is) (o : Is.Pairwise HdLt) : (hds Is).Pairwise (· < ·) := by
  unfold hds
  rw [List.pairwise_map]
  refine o.imp_of_mem fun {S T} hS hT ⟨s, s1, s2, s3⟩ => ?_
  have h1 := hd_mem (pt.ne S hS)
  have h2 := s3 _ (hd_mem (pt.ne T hT))
  have : S.headD 0 ≤ s := by
    have r := pt.rise S hS
    cases S with
    | nil => cases s1
    | cons a l =>
      rcases List.mem_cons.mp s1 with e | e
      · rw [e]; exact Int.le_refl _
      · exact Int.le_of_lt ((List.pairwise_cons.mp r).1 s e)
  omega
end My

set_option Elab.async false
set_option linter.all false
set_option maxRecDepth 100000
set_option maxHeartbeats 1000000
namespace My
open PySem PySem.Spec PyProof.Rows L2
/-! l.extend(a tuple) -/
def rExtendT (K : PySem.W.Frag) : V → List V → Hp → VK → Prop := fun x vs H Q => ∃ l b xs zs, x = .ref l ∧ vs = [.ref b] ∧ H l = some (.lst xs) ∧ SqT K H b zs ∧ xs.length + zs.length ≤ sizeLine ∧ Q .non (upd H l (.lst (xs ++ zs)))
section
variable {X : Cx}
theorem mt_extendT : MtM X "list.extend" (rExtendT X.K) := by
  intro pins s σ H x vs v us Q I rx rv h
  obtain ⟨l, b, xs, zs, rfl, rfl, hH, hB, hz, q⟩ := h
  cases rx
  obtain ⟨u, rfl, ru⟩ := rv.one
  cases ru
  obtain ⟨z, its, n, r, hl, e⟩ := I.lstM hH
  obtain ⟨its2, r2, p2, hl2⟩ := I.tuple hB
  have k1 := r.length
  have k2 := r2.length
  have hsz : its.toArray.size + its2.toArray.size ≤ sizeLine := by rw [List.size_toArray, List.size_toArray]; omega
  have hlong : ¬ (!its.toArray.isEmpty && Builtin.List.listTooLong (its.toArray.size + its2.toArray.size)) = true := by
    rw [notLongL hsz, Bool.and_false]
    exact Bool.false_ne_true
  obtain ⟨o, ho, hc, n2, hd⟩ := id p2
  refine wpAny_call_entry F.slot_list_extend ⟨_, e, rfl⟩ F.entry_list_extend ?_ (F.args_list_extend_2 _ _)
  show wpAny _ _ (Builtin.List.listExtendWith (.ref l) (.ref b) .none) _ _ s
  unfold Builtin.List.listExtendWith
  refine wpAny_bind (wpAny_typeOf ⟨o, ho, hc⟩ ?_)
  have h1 : (Builtin.List.listSameRef (.ref l) (.ref b) || Value.type "tuple" == Value.type "list" || Value.type "tuple" == Value.type "tuple") = true := by simp
  simp only [h1, if_true]
  refine wpAny_bind ?_
  unfold Builtin.List.listItems
  refine wpAny_bind (wpAny_seqItems ho hd (wpAny_pure ?_))
  refine wpAny_bind ?_
  refine wpAny_bind (wpAny_seqItems e rfl (wpAny_pure ?_))
  rw [if_neg hlong]
  refine wpAny_bind (wpAny_updateSeq (hz := by rw [List.size_toArray]; omega) e rfl ?_)
  refine wpAny_pure ⟨_, rfl, ?_⟩
  refine ⟨.non, _, I.lset (its' := its ++ its2) hH e (by simp) (r.append r2) ?_, rfl, q⟩
  rw [List.length_append]
  omega
end
end My

set_option Elab.async false
set_option linter.all false
set_option maxRecDepth 100000
set_option pp.maxSteps 400
set_option maxHeartbeats 4000000
namespace My
open PySem PySem.Spec PyProof.Rows L2 GxR
def TrE (H : Hp) (v : V) (J : List Int) : Prop := ∃ m, m ≤ 14 ∧ TrAt H m v J
theorem TrE.mono {H H' : Hp} {v : V} {J : List Int} (h : TrE H v J) (t : Tst H H') : TrE H' v J := by
  obtain ⟨m, a, b⟩ := h
  exact ⟨m, a, b.mono t⟩
theorem trAt_dp {K : PySem.W.Frag} {H : Hp} : ∀ {m : Nat} {v : V} {I : List Int}, TrAt H m v I → ∃ d, Dp K H v d ∧ d.canLay0 = true ∧ d.depth ≤ 2 * m
  | 0, _, _, h => h.elim
  | m + 1, v, I, h => by
    rcases h with ⟨p, i, rfl, a, b⟩ | ⟨p, q, w, vs, Is, rfl, a, b, c, d, f⟩
    · have hp : PyData.canLay0 (.str "place") = true := by decide +kernel
      refine ⟨.tuple [.str "place", .int i], .tup (SqT.of a) (.cons (.str _) (.cons (.int _) .nil)), ?_, by show 1 ≤ _; omega⟩
      show PyData.canLayAll0 [.str "place", .int i] = true
      rw [PyData.canLayAll0, PyData.canLayAll0, PyData.canLayAll0, hp]; rfl
    · have key : ∀ (vs : List V) (Is : List (List Int)), All2 (TrAt H m) vs Is → ∃ ds, DpAll K H vs ds ∧ PyData.canLayAll0 ds = true ∧ PyData.depthAll ds ≤ 2 * m := fun vs => by
        induction vs with
        | nil => intro Is h; exact ⟨[], .nil, rfl, Nat.zero_le _⟩
        | cons v vs ih =>
          intro Is h
          cases Is with
          | nil => exact h.elim
          | cons J Is =>
            obtain ⟨d, d1, d2, d3⟩ := trAt_dp (K := K) h.1
            obtain ⟨ds, e1, e2, e3⟩ := ih Is h.2
            exact ⟨d :: ds, .cons d1 e1, by rw [PyData.canLayAll0, d2, e2]; rfl, by rw [PyData.depthAll]; omega⟩
      obtain ⟨ds, e1, e2, e3⟩ := key vs Is d
      refine ⟨.tuple [.str w, .tuple ds], .tup (SqT.of a) (.cons (.str _) (.cons (.tup (SqT.of c) e1) .nil)), ?_, ?_⟩
      · show PyData.canLayAll0 [.str w, .tuple ds] = true
        rw [PyData.canLayAll0, PyData.canLayAll0, PyData.canLayAll0, b.2]
        show (true && (PyData.canLayAll0 ds && true)) = true
        rw [e2]; rfl
      · rw [PyData.depth, PyData.depthAll, PyData.depthAll, PyData.depthAll, PyData.depth, PyData.depth]
        omega
theorem tre_dp {K : PySem.W.Frag} {H : Hp} : ∀ {vs : List V} {Js : List (List Int)}, All2 (TrE H) vs Js → ∃ ds, DpAll K H vs ds ∧ PyData.canLayAll0 ds = true ∧ PyData.depthAll ds ≤ 28 ∧ ds.length = vs.length
  | [], [], _ => ⟨[], .nil, rfl, Nat.zero_le _, rfl⟩
  | v :: vs, J :: Js, h => by
    obtain ⟨m, hm, ht⟩ := h.1
    obtain ⟨d, d1, d2, d3⟩ := trAt_dp (K := K) ht
    obtain ⟨ds, e1, e2, e3, e4⟩ := tre_dp (K := K) h.2
    exact ⟨d :: ds, .cons d1 e1, by rw [PyData.canLayAll0, d2, e2]; rfl, by rw [PyData.depthAll]; omega, by rw [List.length_cons, List.length_cons, e4]⟩
  | [], _ :: _, h => h.elim
  | _ :: _, [], h => h.elim
theorem tre_ne {K : PySem.W.Frag} {H : Hp} {vs : List V} {Js : List (List Int)} (h : All2 (TrE H) vs Js) : ∃ ds, DpAll K H vs ds ∧ SeqAt.shaped (.list ds) = true ∧ PyData.eqv (.list ds) (.list []) = decide (vs = []) := by
  obtain ⟨ds, e1, e2, e3, e4⟩ := tre_dp (K := K) h
  refine ⟨ds, e1, ?_, ?_⟩
  · unfold SeqAt.shaped
    rw [Bool.and_eq_true, decide_eq_true_eq]
    refine ⟨e2, ?_⟩
    show PyData.depthAll ds + 1 ≤ 64
    omega
  · cases vs with
    | nil => rw [List.eq_nil_of_length_eq_zero (show ds.length = 0 from e4)]; rfl
    | cons v vs =>
      cases ds with
      | nil => cases e4
      | cons d ds => rfl
/-- how much is left to walk -/
def wlkS (Js : List (List Int)) : Nat := (Js.map fun J => 2 * J.length - 1).sum
theorem wlkS_app (A B : List (List Int)) : wlkS (A ++ B) = wlkS A + wlkS B := by unfold wlkS; rw [List.map_append, List.sum_append]
theorem wlkS_one (J : List Int) : wlkS [J] = 2 * J.length - 1 := by unfold wlkS; simp
theorem wlkS_flat : ∀ {Js : List (List Int)}, (∀ J ∈ Js, J ≠ []) → wlkS Js + Js.length = 2 * Js.flatten.length
  | [], _ => rfl
  | J :: Js, h => by
    have i := wlkS_flat (Js := Js) fun K hK => h K (List.mem_cons_of_mem _ hK)
    have := List.length_pos_iff.mpr (h J List.mem_cons_self)
    have e : wlkS (J :: Js) = (2 * J.length - 1) + wlkS Js := by unfold wlkS; rw [List.map_cons, List.sum_cons]
    rw [e, List.length_cons, List.flatten_cons, List.length_append]
    omega
theorem all2_last {α : Type} {R : V → α → Prop} : ∀ {vs : List V} {Js : List α}, All2 R vs Js → vs ≠ [] → ∃ vs' v Js' J, vs = vs' ++ [v] ∧ Js = Js' ++ [J] ∧ All2 R vs' Js' ∧ R v J
  | [], _, _, n => absurd rfl n
  | [v], [J], h, _ => ⟨[], v, [], J, rfl, rfl, trivial, h.1⟩
  | v :: u :: vs, J :: L :: Js, h, _ => by
    obtain ⟨vs', v', Js', J', e1, e2, e3, e4⟩ := all2_last (vs := u :: vs) (Js := L :: Js) h.2 (fun z => by cases z)
    exact ⟨v :: vs', v', J :: Js', J', by rw [e1]; rfl, by rw [e2]; rfl, ⟨h.1, e3⟩, e4⟩
  | [_], [], h, _ => h.elim
  | [_], _ :: _ :: _, h, _ => h.2.elim
  | _ :: _ :: _, [], h, _ => h.elim
  | _ :: _ :: _, [_], h, _ => h.2.elim
theorem PartI.nd {I : List Int} {G : List (List Int)} (h : PartI I G) {S : List Int} (hS : S ∈ G) : S.Nodup := (h.rise S hS).imp fun h => Int.ne_of_lt h
theorem pop_last {xs : List V} {v : V} : (xs ++ [v])[(xs ++ [v]).length - 1]? = some v := by
  rw [List.length_append, List.getElem?_append_right (by simp)]
  simp
section
variable {P : Program} {w : World} {K : PySem.W.Frag} {mg : Str → Option Value} {base : Heap}
end
end My

set_option Elab.async false
set_option linter.all false
set_option maxRecDepth 100000
set_option pp.maxSteps 400
set_option maxHeartbeats 4000000
namespace My
open PySem PySem.Spec PyProof.Rows L2 GxR
theorem valV_keysM {o : Ar} : ∀ {ms : List (List Key × V)} {cs : List Ar}, ms.map (·.1) = cs.map pk → (valV ms (pk o)).isSome = decide (o ∈ cs)
  | [], [], _ => rfl
  | [], _ :: _, h => by cases h
  | _ :: _, [], h => by cases h
  | m :: ms, c :: cs, h => by
    rw [List.map_cons, List.map_cons] at h
    have h1 : m.1 = pk c := (List.cons.inj h).1
    have ih := valV_keysM (o := o) (List.cons.inj h).2
    by_cases e : c = o
    · subst e
      rw [valV_pos h1]
      exact (decide_eq_true List.mem_cons_self).symm
    · rw [valV_neg (fun z => e (pk_inj (h1.symm.trans z))), ih]
      refine decide_eq_decide.mpr ?_
      rw [List.mem_cons]
      exact ⟨.inr, fun z => z.elim (fun z => absurd z.symm e) id⟩
def kTrueM (ps : List Ar) : List (List Key × V) := ps.map fun t => (pk t, V.bl true)
theorem kTrue_keysM (ps : List Ar) : (kTrueM ps).map (·.1) = ps.map pk := by unfold kTrueM; rw [List.map_map]; rfl
theorem joinA_trueM (ps : List Ar) : JoinA (mergeT [] (kTrueM ps)) ps := fun o => by
  rw [valV_mergeT, valV_keysM (kTrue_keysM ps)]; exact Bool.false_or _
theorem paired_appM {α β : Type} {R : α → β → Prop} : ∀ {l : List α} {m : List β} {a : α} {b : β}, Paired R l m → R a b → Paired R (l ++ [a]) (m ++ [b])
  | _, _, _, _, .nil, h => .cons h .nil
  | _, _, _, _, .cons h t, k => .cons h (paired_appM t k)
theorem paired_monoM {α β : Type} {R S : α → β → Prop} (f : ∀ a b, R a b → S a b) : ∀ {l : List α} {m : List β}, Paired R l m → Paired S l m
  | _, _, .nil => .nil
  | _, _, .cons h t => .cons (f _ _ h) (paired_monoM f t)
/-- pairs of numbers whose places are tied -/
def fP (ts : List Ar) (pl : List Int) (t : Ar) : Bool := decide ((pl.getD t.1.toNat 0, pl.getD t.2.toNat 0) ∈ ts)
theorem part_pairs {n : Nat} {ts : List Ar} {pl : List Int} (hp : Ris n pl) (hw : WOk n ts) : (pup pl.length pl.length).filter (fP ts pl) = partL ts pl := by
  refine pw_eq ((pup_pw _ _ (Nat.le_refl _)).sublist List.filter_sublist) (part_wok hp hw).1 fun t => ?_
  rw [List.mem_filter, mem_pup (Nat.le_refl _), mem_part hp.nodup]
  unfold fP
  rw [decide_eq_true_iff]
  constructor
  · rintro ⟨⟨h0, h1, h2, h3⟩, h⟩
    obtain ⟨a, b⟩ := t
    dsimp only at *
    obtain ⟨i, rfl⟩ := natOf h0
    obtain ⟨j, rfl⟩ := natOf (show 0 ≤ b by omega)
    have hi : i < pl.length := by omega
    have hj : j < pl.length := by omega
    refine ⟨i, j, pl[i], pl[j], rfl, List.getElem?_eq_getElem hi, List.getElem?_eq_getElem hj, ?_⟩
    rw [Int.toNat_natCast, Int.toNat_natCast, List.getD_eq_getElem?_getD, List.getD_eq_getElem?_getD, List.getElem?_eq_getElem hi, List.getElem?_eq_getElem hj] at h
    exact h
  · rintro ⟨i, j, a, b, rfl, ei, ej, h⟩
    obtain ⟨hi, ea⟩ := List.getElem?_eq_some_iff.mp ei
    obtain ⟨hj, eb⟩ := List.getElem?_eq_some_iff.mp ej
    have ab := (hw.2 _ h).2.1
    dsimp only at ab ⊢
    have ij : i < j := by
      refine Classical.byContradiction fun no => ?_
      rcases Nat.eq_or_lt_of_le (Nat.le_of_not_lt no) with z | z
      · subst z; rw [ea] at eb; omega
      · have := List.pairwise_iff_getElem.mp hp.1 j i hj hi z
        rw [ea, eb] at this; omega
    refine ⟨by omega, ?_⟩
    rw [Int.toNat_natCast, Int.toNat_natCast, List.getD_eq_getElem?_getD, List.getD_eq_getElem?_getD, ei, ej]
    exact h
section
variable {P : Program} {w : World} {K : PySem.W.Frag} {mg : Str → Option Value} {base : Heap}
end
end My

set_option Elab.async false
set_option linter.all false
set_option maxRecDepth 100000
namespace My
open PySem PySem.Spec PyProof.Rows L2 GxR
theorem trAt_up {H : Hp} : ∀ {m : Nat} {v : V} {I : List Int}, TrAt H m v I → TrAt H (m + 1) v I
  | 0, _, _, h => h.elim
  | m + 1, v, I, h => by
    rcases h with ⟨p, i, e, a, b⟩ | ⟨p, q, w, vs, Is, e, a, b, c, d, f⟩
    · exact .inl ⟨p, i, e, a, b⟩
    · exact .inr ⟨p, q, w, vs, Is, e, a, b, c, d.imp fun _ _ h => trAt_up h, f⟩
/-- between the first places of two parts it is as between the parts -/
theorem fP_bt {ts : List Ar} {I : List Int} {Is : List (List Int)} {b : Bool} (pt : PartI I Is) (r : (hds Is).Pairwise (· < ·)) (bt : Is.Pairwise fun S T => ∀ x ∈ S, ∀ y ∈ T, adjB ts x y = b) {t : Ar} (ht : t ∈ pup Is.length Is.length) : fP ts (hds Is) t = b := by
  obtain ⟨h0, h1, h2, h3⟩ := (mem_pup (Nat.le_refl _)).mp ht
  obtain ⟨i, e1⟩ := natOf h0
  obtain ⟨j, e2⟩ := natOf (show 0 ≤ t.2 by omega)
  have hl : (hds Is).length = Is.length := List.length_map _
  have hi : i < Is.length := by omega
  have hj : j < Is.length := by omega
  have gi : (hds Is)[i]? = some (Is[i].headD 0) := by unfold hds; rw [List.getElem?_map, List.getElem?_eq_getElem hi]; rfl
  have gj : (hds Is)[j]? = some (Is[j].headD 0) := by unfold hds; rw [List.getElem?_map, List.getElem?_eq_getElem hj]; rfl
  have lt : Is[i].headD 0 < Is[j].headD 0 := by
    have := List.pairwise_iff_getElem.mp r i j (by omega) (by omega) (by omega)
    have a := (List.getElem?_eq_some_iff.mp gi).2
    have c := (List.getElem?_eq_some_iff.mp gj).2
    rw [a, c] at this; exact this
  have ab := List.pairwise_iff_getElem.mp bt i j hi hj (by omega) _ (hd_mem (pt.ne _ (List.getElem_mem hi))) _ (hd_mem (pt.ne _ (List.getElem_mem hj)))
  unfold fP
  rw [e1, e2, Int.toNat_natCast, Int.toNat_natCast, List.getD_eq_getElem?_getD, List.getD_eq_getElem?_getD, gi, gj]
  rw [← ab]
  unfold adjB tieO
  rw [if_pos lt]; rfl
theorem part_apart {n : Nat} {ts : List Ar} {I : List Int} {Is : List (List Int)} (hW : WOk n ts) (pt : PartI I Is) (r : Ris n (hds Is)) (bt : Is.Pairwise fun S T => ∀ x ∈ S, ∀ y ∈ T, adjB ts x y = false) : partL ts (hds Is) = [] := by
  have hl : (hds Is).length = Is.length := List.length_map _
  rw [← part_pairs r hW, hl, List.filter_eq_nil_iff]
  intro t ht
  rw [fP_bt pt r.1 bt ht]; decide
theorem part_all {n : Nat} {ts : List Ar} {I : List Int} {Is : List (List Int)} (hW : WOk n ts) (pt : PartI I Is) (r : Ris n (hds Is)) (bt : Is.Pairwise fun S T => ∀ x ∈ S, ∀ y ∈ T, adjB ts x y = true) : partL ts (hds Is) = pup Is.length Is.length := by
  have hl : (hds Is).length = Is.length := List.length_map _
  rw [← part_pairs r hW, hl, List.filter_eq_self]
  intro t ht
  exact fP_bt pt r.1 bt ht
theorem pup_countT : ∀ n : Nat, n < 13 → ((pup n n).length : Int) = (n : Int) * ((n : Int) - 1) / 2 := by decide +kernel
end My

set_option Elab.async false
set_option linter.all false
set_option maxRecDepth 100000
namespace My
open PySem PySem.Spec PyProof.Rows L2
/-! sorted(a list of pairs whose first numbers are unlike): by these, whatever stands behind them -/
theorem all2_perm {α : Type} {R : V → α → Prop} {ys xs : List V} (p : ys.Perm xs) : ∀ {bs : List α}, All2 R xs bs → ∃ cs, cs.Perm bs ∧ All2 R ys cs := by
  induction p with
  | nil => intro bs h; exact ⟨bs, List.Perm.refl _, h⟩
  | cons x _ ih =>
    intro bs h
    cases bs with
    | nil => exact h.elim
    | cons b bs =>
      obtain ⟨cs, c1, c2⟩ := ih h.2
      exact ⟨b :: cs, c1.cons b, h.1, c2⟩
  | swap x y l =>
    intro bs h
    match bs, h with
    | [], h => exact h.elim
    | [_], h => exact h.2.elim
    | b :: c :: bs, h => exact ⟨c :: b :: bs, List.Perm.swap b c bs, h.2.1, h.1, h.2.2⟩
  | trans _ _ ih1 ih2 =>
    intro bs h
    obtain ⟨cs, c1, c2⟩ := ih2 h
    obtain ⟨ds, d1, d2⟩ := ih1 c2
    exact ⟨ds, d1.trans c1, d2⟩
theorem perm_map_lift {α β : Type} {f : α → β} {cs ds : List β} (p : cs.Perm ds) : ∀ {zs : List α}, ds = zs.map f → ∃ ws : List α, ws.Perm zs ∧ cs = ws.map f := by
  induction p with
  | nil => intro zs e; exact ⟨zs, List.Perm.refl _, e⟩
  | cons x _ ih =>
    intro zs e
    cases zs with
    | nil => cases e
    | cons z zs =>
      rw [List.map_cons] at e
      obtain ⟨e1, e2⟩ := List.cons.inj e
      obtain ⟨ws, w1, w2⟩ := ih e2
      exact ⟨z :: ws, w1.cons z, by rw [List.map_cons, w2, e1]⟩
  | swap x y l =>
    intro zs e
    match zs, e with
    | a :: b :: zs, e =>
      rw [List.map_cons, List.map_cons] at e
      obtain ⟨e1, e2⟩ := List.cons.inj e
      obtain ⟨e2, e3⟩ := List.cons.inj e2
      exact ⟨b :: a :: zs, List.Perm.swap a b zs, by rw [List.map_cons, List.map_cons, e1, e2, e3]⟩
  | trans _ _ ih1 ih2 =>
    intro zs e
    obtain ⟨ws, w1, w2⟩ := ih2 e
    obtain ⟨us, u1, u2⟩ := ih1 w2
    exact ⟨us, u1.trans w1, u2⟩
def FstP (h : Heap) (v : Value) (x : Int) : Prop := ∃ a o t u n, v = .ref a ∧ h.get? a = some o ∧ o.cls = .type "tuple" ∧ o.data = .seq #[.int x t, u] n
theorem FstP.keeps {h h' : Heap} {v : Value} {x : Int} (p : FstP h v x) (k : ∀ b o, h.get? b = some o → o.cls = .type "tuple" → h'.get? b = some o) : FstP h' v x := by
  obtain ⟨a, o, t, u, n, e, ho, hc, hd⟩ := p
  exact ⟨a, o, t, u, n, e, k _ _ ho hc, hc, hd⟩
theorem swo_fst (k : Value → Int) : SrtO.Swo fun v u => decide (k v < k u) := by
  refine ⟨fun x y h => ?_, fun x y z h1 h2 => ?_⟩
  · have a := of_decide_eq_true h
    exact decide_eq_false (by omega)
  · have a := of_decide_eq_false h1
    have b := of_decide_eq_false h2
    exact decide_eq_false (by omega)
theorem firstsF {h : Heap} : ∀ {vs : List Value}, (∀ v ∈ vs, ∃ x, FstP h v x) → ∃ fs : List Value, PySem.W.KatTups h vs fs ∧ fs.length = vs.length ∧ ∀ f ∈ fs, ∃ x t, f = Value.int x t
  | [], _ => ⟨[], PySem.W.KatTups.nil, rfl, fun _ hm => by simp at hm⟩
  | v :: vs, hp => by
    obtain ⟨fs, h1, h2, h3⟩ := firstsF (vs := vs) fun v' hm => hp v' (List.mem_cons_of_mem _ hm)
    obtain ⟨x, a, o, t, u, n, e, ho, hc, hd⟩ := hp v List.mem_cons_self
    subst e
    refine ⟨.int x t :: fs, PySem.W.KatTups.cons ho hc hd rfl h1, by rw [List.length_cons, List.length_cons, h2], fun f hm => ?_⟩
    rcases List.mem_cons.mp hm with rfl | hm
    · exact ⟨x, t, rfl⟩
    · exact h3 f hm
section
variable {prog : Program} {w : World} {A : Around} {E : Value → Shared → Prop} {s : Shared}
theorem fst_lt {k : Value → Int} {v u : Value} (h1 : FstP s.heap v (k v)) (h2 : FstP s.heap u (k u)) (hi : k v = k u → v = u) : wpAny (model prog w) A (keyLt' (tuples' true) v u) (fun r s' => s' = s ∧ r = decide (k v < k u)) (fun _ _ => False) s := by
  by_cases e : k v = k u
  · have vu := hi e
    rw [← vu]
    obtain ⟨a, o, t, y, n, ev, ho, hc, hd⟩ := h1
    have q : decide (k v < k v) = false := decide_eq_false (Int.lt_irrefl _)
    rw [q]
    generalize k v = x at hd
    rw [ev]
    refine PySem.W.kat_lt ho hd ho hd ?_
    show PySem.W.KatLex prog w A true (decide (2 < 2)) _ [(.int x t, .int x t), (y, y)] 0 s
    refine PySem.W.kat_cons (SeqAt.EqAt.same _ prog w _ _ ?_)
    refine PySem.W.kat_yes (PySem.W.kat_cons (SeqAt.EqAt.same _ prog w _ _ ?_))
    exact PySem.W.kat_yes (PySem.W.kat_nil ⟨rfl, rfl⟩)
  · generalize k v = x at h1 e ⊢
    generalize k u = x' at h2 e ⊢
    obtain ⟨a, o, t, y, n, rfl, ho, hc, hd⟩ := h1
    obtain ⟨a', o', t', y', n', rfl, ho', hc', hd'⟩ := h2
    refine PySem.W.kat_lt ho hd ho' hd' ?_
    show PySem.W.KatLex prog w A true (decide (2 < 2)) _ [(.int x t, .int x' t'), (y, y')] 0 s
    refine PySem.W.kat_cons (SeqAt.EqAt.int_int x t x' t' prog w _ _ ?_)
    have e1 : (x == x') = false := by simpa using e
    rw [e1]
    exact PySem.W.kat_no (TS.oneLt_ints _ ⟨rfl, rfl⟩)
theorem fst_sortableO {a : Addr} {vs : List Value} {k : Value → Int} (h0 : 0 < vs.length) (hp : ∀ v ∈ vs, FstP s.heap v (k v)) (inj : ∀ v ∈ vs, ∀ u ∈ vs, k v = k u → v = u) (ha : ∀ o, s.heap.get? a = some o → o.cls ≠ .type "tuple") : SrtO.SortableO prog w A s a vs fun v u => decide (k v < k u) := by
  intro h' keep
  have hp' : ∀ v ∈ vs, FstP h' v (k v) := fun v hm => (hp v hm).keeps fun b o e c => keep b o (fun z => by subst z; exact ha o e c) e
  obtain ⟨fs, h1, h2, h3⟩ := firstsF fun v hm => ⟨_, hp' v hm⟩
  refine ⟨tuples' true, fun Q E hq => ?_, fun p q hm hm' => fst_lt (s := { s with heap := h' }) (hp' _ hm) (hp' _ hm') (inj _ hm _ hm')⟩
  refine PySem.W.kat_kind (T := .type "int") h1 (by omega) (fun f hm => ?_) (by rfl) ?_
  · obtain ⟨x, t, rfl⟩ := h3 f hm
    exact PySem.W.Looks.now
  · have e : (Value.type "int" != Value.type "tuple") = true := by first | decide +kernel | rfl | decide
    rw [e]
    exact hq
theorem sorted_fstO {l : Addr} {vs : List Value} {k : Value → Int} {Q : Value → Shared → Prop} (hl : s.heap.IsList l vs.toArray) (hz : vs.length ≤ sizeLine) (hp : ∀ v ∈ vs, FstP s.heap v (k v)) (inj : ∀ v ∈ vs, ∀ u ∈ vs, k v = k u → v = u)
    (h : ∀ (h' : Heap) (d : Addr) (out : List Value), SrtO.Srtd (fun v u => decide (k v < k u)) out → out.Perm vs → (∀ b o, s.heap.get? b = some o → h'.get? b = some o) → s.heap.objs.size ≤ d → (∃ n, h'.get? d = some (seqObj "list" out.toArray n)) → Q (.ref d) { s with heap := h' }) :
    wpAny (model prog w) A (call (.builtin "sorted") [.ref l]) Q E s := by
  refine SrtO.sorted_ord (swo_fst k) hl hz (fun h2 h₁ a ha kk => ?_) fun out hs hb => ?_
  · refine fst_sortableO (s := { s with heap := h₁ }) (by omega) (fun v hm => (hp v hm).keeps fun b o e _ => (kk b o e).2) inj fun o e => ?_
    have e' : some o = some (seqObj "list" vs.toArray 0) := e.symm.trans ha
    cases e'
    intro c
    exact absurd (Value.type.inj c) (by decide)
  · exact h _ _ out hs hb.perm (fun b o e => sortedAll_old e) (Nat.le_succ _) (sortedAll_at s.heap vs out.toArray)
end
def FstV (H : Hp) (x : V) (b : Int × V) : Prop := ∃ t, x = .ref t ∧ H t = some (.tup [.int b.1, b.2])
def rSortedF (K : PySem.W.Frag) : List V → Hp → VK → Prop := fun vs H Q => ∃ (a : Addr) (xs : List V) (bs : List (Int × V)), vs = [.ref a] ∧ SqL K H a xs ∧ All2 (FstV H) xs bs ∧ (bs.map (·.1)).Nodup ∧
  ∀ ys p cs, cs.Perm bs → cs.Pairwise (fun x y => x.1 < y.1) → All2 (FstV H) ys cs → H p = none → Q (.ref p) (upd H p (.lst ys))
open Classical in
noncomputable def keyF (H : Hp) (x : V) : Int := if h : ∃ b, FstV H x b then h.choose.1 else 0
theorem keyF_of {H : Hp} {x : V} {b : Int × V} (h : FstV H x b) : keyF H x = b.1 := by
  unfold keyF
  rw [dif_pos ⟨b, h⟩]
  obtain ⟨t, e, ht⟩ := Exists.choose_spec (⟨b, h⟩ : ∃ b, FstV H x b)
  obtain ⟨t', e', ht'⟩ := h
  rw [e] at e'
  cases e'
  rw [ht] at ht'
  have := HO.tup.inj (Option.some.inj ht')
  exact V.int.inj (List.cons.inj this).1
theorem keyF_map {H : Hp} : ∀ {xs : List V} {bs : List (Int × V)}, All2 (FstV H) xs bs → xs.map (keyF H) = bs.map (·.1)
  | [], [], _ => rfl
  | _ :: _, _ :: _, h => by rw [List.map_cons, List.map_cons, keyF_of h.1, keyF_map h.2]
  | [], _ :: _, h => h.elim
  | _ :: _, [], h => h.elim
theorem nd_inj {α : Type} {f : α → Int} : ∀ {l : List α}, (l.map f).Nodup → ∀ x ∈ l, ∀ y ∈ l, f x = f y → x = y
  | [], _, _, hx, _, _, _ => by cases hx
  | a :: l, h, x, hx, y, hy, e => by
    rw [List.map_cons, List.nodup_cons] at h
    rcases List.mem_cons.mp hx with rfl | hx' <;> rcases List.mem_cons.mp hy with e1 | hy'
    · exact e1.symm
    · exact absurd (e ▸ List.mem_map_of_mem (f := f) hy') h.1
    · subst e1; exact absurd (e ▸ List.mem_map_of_mem (f := f) hx') h.1
    · exact nd_inj h.2 x hx' y hy' e
section
variable {X : Cx}
theorem cr_sortedF : CallR X (.builtin "sorted") (rSortedF X.K) := by
  intro pins s σ H vs us Q I r h
  obtain ⟨a, xs, bs, rfl, hs, hx, nd, q⟩ := h
  obtain ⟨its, rv, hl, hz⟩ := I.list hs
  obtain ⟨u, rfl, ru⟩ := vals1 r
  obtain rfl : u = Value.ref a := ru
  have km := keyF_map hx
  have each : ∀ x ∈ xs, ∃ b, FstV H x b := fun x m => by
    obtain ⟨i, e⟩ := List.getElem?_of_mem m
    obtain ⟨b, _, hb⟩ := hx.at e
    exact ⟨b, hb⟩
  obtain ⟨e1, e2⟩ := refs_back rv fun x m => by
    obtain ⟨b, t, e, _⟩ := each x m
    exact ⟨t, e⟩
  have inj := nd_inj (f := keyF H) (l := xs) (by rw [km]; exact nd)
  refine sorted_fstO (k := fun u => keyF H (backV u)) hl.isList (by rw [← rv.length]; exact hz) (fun v hv => ?_) (fun v hv u hu e => ?_) fun h' d out h1 h2 kp hd hn => ?_
  · obtain ⟨t, rfl⟩ := e2 v hv
    have hm : V.ref t ∈ xs := by rw [e1]; exact List.mem_map.mpr ⟨_, hv, rfl⟩
    obtain ⟨b, hb⟩ := each _ hm
    have kb := keyF_of hb
    obtain ⟨t', e, ht⟩ := hb
    cases e
    obtain ⟨_, its2, r2, o, ho, hc, n, hd⟩ := I.hok _ _ ht
    obtain ⟨u1, u2, rfl, ri, rj⟩ := vals2 r2
    obtain ⟨t1, rfl⟩ := ri
    refine ⟨t, o, t1, u2, n, rfl, ho, hc, ?_⟩
    show o.data = _
    rw [show keyF H (backV (Value.ref t)) = b.1 from kb]
    exact hd
  · obtain ⟨t, rfl⟩ := e2 v hv
    obtain ⟨t', rfl⟩ := e2 u hu
    have hm : V.ref t ∈ xs := by rw [e1]; exact List.mem_map.mpr ⟨_, hv, rfl⟩
    have hm' : V.ref t' ∈ xs := by rw [e1]; exact List.mem_map.mpr ⟨_, hu, rfl⟩
    have := inj _ hm _ hm' e
    cases this; rfl
  · have h3 : ∀ u ∈ out, ∃ a, u = Value.ref a := fun u hu => e2 u (h2.mem_iff.mp hu)
    obtain ⟨n, hn⟩ := hn
    have hb : (out.map backV).Perm xs := by
      rw [e1]; exact h2.map backV
    obtain ⟨cs, c1, c2⟩ := all2_perm hb hx
    refine ⟨.ref d, upd H d (.lst (out.map backV)), I.laid (t' := s.toks) kp hd ⟨?_, out, n, vals_back h3, hn⟩, rfl, q _ d cs c1 ?_ c2 (I.hok.fresh hd)⟩
    · rw [hb.length_eq]
      have := rv.length
      omega
    · have km2 := keyF_map c2
      have srt : (out.map backV).Pairwise fun x y => ¬ keyF H y < keyF H x := by
        rw [List.pairwise_map]
        exact h1.imp fun h => of_decide_eq_false h
      have srt2 : (cs.map (·.1)).Pairwise fun x y => ¬ y < x := by
        rw [← km2, List.pairwise_map]; exact srt
      have nd2 : (cs.map (·.1)).Nodup := (c1.map _).nodup_iff.mpr nd
      have both := srt2.and (List.nodup_iff_pairwise_ne.mp nd2)
      rw [List.pairwise_map] at both
      exact both.imp fun ⟨a, b⟩ => by omega
end
end My

set_option Elab.async false
set_option linter.all false
set_option maxRecDepth 100000
namespace My
open PySem PySem.Spec PyProof.Rows L2 GxR
/-! trees as they are drawn, and that they are the exact trees of their web -/
def ConI (ts : List (Int × Int)) (b : Bool) (I : List Int) : Prop := ∀ A : Int → Prop, ClR ts b I A → ∀ x ∈ I, A x → ∀ y ∈ I, A y
theorem setsI_one {ts : List (Int × Int)} {b : Bool} {I : List Int} (c : ConI ts b I) (r : I.Pairwise (· < ·)) (ne : I ≠ []) : SetsI ts b I [I] := by
  refine ⟨by rw [List.flatten_cons, List.flatten_nil, List.append_nil], fun S h => ?_, fun S h => ?_, fun S h => ?_, fun S h => ?_, fun _ => List.pairwise_singleton _ _⟩
  · rw [List.mem_singleton.mp h]; exact ne
  · rw [List.mem_singleton.mp h]; exact r.imp fun h => Int.le_of_lt h
  · rw [List.mem_singleton.mp h]; exact fun x _ y hy _ => hy
  · rw [List.mem_singleton.mp h]; exact c
theorem pw_all {α : Type} {R : α → α → Prop} (sy : ∀ a b, R a b → R b a) : ∀ {l : List α}, l.Pairwise R → ∀ a ∈ l, ∀ b ∈ l, a ≠ b → R a b
  | [], _, _, h, _, _, _ => by cases h
  | c :: l, p, a, ha, b, hb, n => by
    obtain ⟨p1, p2⟩ := List.pairwise_cons.mp p
    rcases List.mem_cons.mp ha with e1 | ha' <;> rcases List.mem_cons.mp hb with e2 | hb'
    · exact absurd (e1.trans e2.symm) n
    · rw [e1]; exact p1 b hb'
    · rw [e2]; exact sy _ _ (p1 a ha')
    · exact pw_all sy p2 a ha' b hb' n
def BtwP (ts : List (Int × Int)) (b : Bool) (Is : List (List Int)) : Prop := Is.Pairwise fun S T => ∀ x ∈ S, ∀ y ∈ T, adjB ts x y = b
theorem BtwP.all {ts : List (Int × Int)} {b : Bool} {Is : List (List Int)} (h : BtwP ts b Is) : ∀ S ∈ Is, ∀ T ∈ Is, S ≠ T → ∀ x ∈ S, ∀ y ∈ T, adjB ts x y = b :=
  pw_all (fun S T k x hx y hy => by rw [adj_comm]; exact k y hy x hx) h
theorem PartI.sub {I : List Int} {Is : List (List Int)} (pt : PartI I Is) {S : List Int} (hS : S ∈ Is) : ∀ x ∈ S, x ∈ I := pt.mem hS
theorem PartI.own {I : List Int} {Is : List (List Int)} (pt : PartI I Is) {x : Int} (hx : x ∈ I) : ∃ S ∈ Is, x ∈ S := by
  obtain ⟨S, a, b⟩ := List.mem_flatten.mp (pt.perm.mem_iff.mpr hx)
  exact ⟨S, a, b⟩
theorem PartI.nods {I : List Int} {Is : List (List Int)} (pt : PartI I Is) (nI : I.Nodup) : Is.Nodup := by
  have := (nd_flat.mp (pt.perm.nodup_iff.mpr nI)).2
  rw [List.nodup_iff_pairwise_ne]
  refine this.imp_of_mem fun {S T} hS hT h e => ?_
  obtain ⟨x, hx⟩ := List.exists_mem_of_ne_nil _ (pt.ne S hS)
  exact h x hx x (e ▸ hx) rfl
/-- of a place there is another part -/
theorem PartI.other {I : List Int} {Is : List (List Int)} (pt : PartI I Is) (nI : I.Nodup) (S : List Int) : ∃ T ∈ Is, T ≠ S := by
  have nd := pt.nods nI
  have two := pt.two
  match Is, two, nd with
  | A :: B :: l, _, nd =>
    by_cases e : A = S
    · refine ⟨B, by simp, fun z => ?_⟩
      rw [List.nodup_cons] at nd
      exact nd.1 (by rw [e, ← z]; exact List.mem_cons_self)
    · exact ⟨A, by simp, e⟩
theorem PartI.dis {I : List Int} {Is : List (List Int)} (pt : PartI I Is) (nI : I.Nodup) : ∀ S ∈ Is, ∀ T ∈ Is, ∀ x, x ∈ S → x ∈ T → S = T := fun S hS T hT x xS xT => by
  refine Classical.byContradiction fun n => ?_
  have := pw_all (R := fun S T : List Int => ∀ x ∈ S, ∀ y ∈ T, x ≠ y) (fun a b k x hx y hy e => k y hy x hx e.symm) (nd_flat.mp (pt.perm.nodup_iff.mpr nI)).2 S hS T hT n
  exact this x xS x xT rfl
theorem con_btw {ts : List (Int × Int)} {b : Bool} {I : List Int} {Is : List (List Int)} (pt : PartI I Is) (nI : I.Nodup) (h : BtwP ts b Is) : ConI ts b I := fun A cA x hx ax y hy => by
  have ha := h.all
  obtain ⟨S, hS, xS⟩ := pt.own hx
  obtain ⟨T, hT, yT⟩ := pt.own hy
  by_cases e : T = S
  · obtain ⟨U, hU, nU⟩ := pt.other nI S
    obtain ⟨u, uU⟩ := List.exists_mem_of_ne_nil _ (pt.ne U hU)
    have uI := pt.sub hU u uU
    have au := cA x hx u uI ax (ha S hS U hU (Ne.symm nU) x xS u uU)
    exact cA u uI y hy au (ha U hU T hT (by rw [e]; exact nU) u uU y yT)
  · exact cA x hx y hy ax (ha S hS T hT (Ne.symm e) x xS y yT)
theorem setsI_parts {ts : List (Int × Int)} {b : Bool} {I : List Int} {Is : List (List Int)} (pt : PartI I Is) (ord : Is.Pairwise HdLt) (h : BtwP ts (!b) Is) (c : ∀ S ∈ Is, ConI ts b S) : SetsI ts b I Is := by
  have ha := h.all
  refine ⟨pt.perm, pt.ne, fun S hS => (pt.rise S hS).imp fun h => Int.le_of_lt h, fun S hS x hx y hy e => ?_, fun S hS A cA x hx ax y hy => ?_, fun _ => ord⟩
  · obtain ⟨T, hT, yT⟩ := pt.own hy
    by_cases k : S = T
    · rw [k]; exact yT
    · have := ha S hS T hT k x hx y yT
      rw [e] at this
      cases b <;> cases this
  · exact c S hS A (fun u hu v hv => cA u (pt.sub hS u hu) v (pt.sub hS v hv)) x hx ax y hy

/-! ### the seven shapes -/
abbrev Shp := Nat × List (Nat × Nat) × Int
def shapes : List Shp := [(4, [(0,1),(1,2),(2,3)], 2), (5, [(0,1),(1,2),(2,3),(3,4)], 2), (5, [(0,1),(1,2),(2,3),(3,4),(0,4)], 0), (5, [(0,1),(1,2),(2,3),(1,4),(2,4)], 2),
  (5, [(0,2),(0,3),(0,4),(1,3),(1,4),(2,4)], 2), (6, [(0,1),(1,2),(2,3),(3,4),(4,5),(0,5)], 2), (6, [(0,1),(1,2),(2,3),(3,4),(4,5)], 2)]
def shA (sh : Shp) (i j : Nat) : Bool := decide ((i, j) ∈ sh.2.1) || decide ((j, i) ∈ sh.2.1)
theorem shA_comm (sh : Shp) (i j : Nat) : shA sh i j = shA sh j i := Bool.or_comm _ _
def blists : Nat → List (List Bool)
  | 0 => [[]]
  | n + 1 => (blists n).flatMap fun l => [true :: l, false :: l]
theorem mem_blists : ∀ l : List Bool, l ∈ blists l.length
  | [] => List.mem_singleton.mpr rfl
  | b :: l => by
    rw [List.length_cons, blists, List.mem_flatMap]
    refine ⟨l, mem_blists l, ?_⟩
    cases b <;> simp
def cloB (sh : Shp) (bs : List Bool) : Bool := (List.range sh.1).all fun c => bs.getD c false || (List.range sh.1).all fun a => (List.range sh.1).all fun b => !(bs.getD a false) || !(bs.getD b false) || shA sh c a == shA sh c b
def twoB (sh : Shp) (bs : List Bool) : Bool := (List.range sh.1).any fun a => (List.range sh.1).any fun b => decide (a ≠ b) && bs.getD a false && bs.getD b false
def allB (sh : Shp) (bs : List Bool) : Bool := (List.range sh.1).all fun a => bs.getD a false
def conB (sh : Shp) (b : Bool) (bs : List Bool) : Bool := (List.range sh.1).all fun x => (List.range sh.1).all fun y => !(bs.getD x false) || decide (x = y) || !(shA sh x y == b) || bs.getD y false
theorem shape_k : ∀ sh ∈ shapes, 4 ≤ sh.1 ∧ sh.1 ≤ 6 ∧ (∀ t ∈ sh.2.1, t.1 < t.2 ∧ t.2 < sh.1) := by decide +kernel
theorem shape_prime : ∀ sh ∈ shapes, ∀ bs ∈ blists sh.1, (!(cloB sh bs) || !(twoB sh bs) || allB sh bs) = true := by decide +kernel
theorem shape_con : ∀ sh ∈ shapes, ∀ b : Bool, ∀ bs ∈ blists sh.1, (!(conB sh b bs) || !((List.range sh.1).any fun a => bs.getD a false) || allB sh bs) = true := by decide +kernel
open Classical in
noncomputable def bsOf (k : Nat) (J : Nat → Prop) : List Bool := (List.range k).map fun i => decide (J i)
theorem bsOf_mem (k : Nat) (J : Nat → Prop) : bsOf k J ∈ blists k := by
  have := mem_blists (bsOf k J)
  have e : (bsOf k J).length = k := by unfold bsOf; rw [List.length_map, List.length_range]
  rwa [e] at this
open Classical in
theorem bsOf_at {k : Nat} {J : Nat → Prop} {i : Nat} (h : i < k) : (bsOf k J).getD i false = true ↔ J i := by
  unfold bsOf
  rw [List.getD_eq_getElem?_getD, List.getElem?_map, List.getElem?_range h]
  exact decide_eq_true_iff
theorem shape_primeP {sh : Shp} (hs : sh ∈ shapes) {J : Nat → Prop} (clo : ∀ c, c < sh.1 → ¬ J c → ∀ a, a < sh.1 → ∀ b, b < sh.1 → J a → J b → shA sh c a = shA sh c b) {i j : Nat} (hi : i < sh.1) (hj : j < sh.1) (ij : i ≠ j) (Ji : J i) (Jj : J j) : ∀ a, a < sh.1 → J a := fun a ha => by
  have h := shape_prime sh hs _ (bsOf_mem sh.1 J)
  have c1 : cloB sh (bsOf sh.1 J) = true := by
    unfold cloB
    rw [List.all_eq_true]
    intro c hc
    have hc := List.mem_range.mp hc
    rw [Bool.or_eq_true]
    by_cases k : J c
    · exact .inl ((bsOf_at hc).mpr k)
    · refine .inr ?_
      rw [List.all_eq_true]
      intro a ha
      have ha := List.mem_range.mp ha
      rw [List.all_eq_true]
      intro b hb
      have hb := List.mem_range.mp hb
      rw [Bool.or_eq_true, Bool.or_eq_true, Bool.not_eq_true', Bool.not_eq_true', beq_iff_eq]
      by_cases Ja : J a
      · by_cases Jb : J b
        · exact .inr (clo c hc k a ha b hb Ja Jb)
        · exact .inl (.inr (Bool.eq_false_iff.mpr fun z => Jb ((bsOf_at hb).mp z)))
      · exact .inl (.inl (Bool.eq_false_iff.mpr fun z => Ja ((bsOf_at ha).mp z)))
  have c2 : twoB sh (bsOf sh.1 J) = true := by
    unfold twoB
    rw [List.any_eq_true]
    refine ⟨i, List.mem_range.mpr hi, ?_⟩
    rw [List.any_eq_true]
    refine ⟨j, List.mem_range.mpr hj, ?_⟩
    rw [(bsOf_at hi).mpr Ji, (bsOf_at hj).mpr Jj, decide_eq_true ij]; rfl
  rw [c1, c2] at h
  have h3 : allB sh (bsOf sh.1 J) = true := h
  unfold allB at h3
  rw [List.all_eq_true] at h3
  exact (bsOf_at ha).mp (h3 a (List.mem_range.mpr ha))
theorem shape_conP {sh : Shp} (hs : sh ∈ shapes) (b : Bool) {J : Nat → Prop} (clo : ∀ x, x < sh.1 → ∀ y, y < sh.1 → x ≠ y → J x → shA sh x y = b → J y) {i : Nat} (hi : i < sh.1) (Ji : J i) : ∀ a, a < sh.1 → J a := fun a ha => by
  have h := shape_con sh hs b _ (bsOf_mem sh.1 J)
  have c1 : conB sh b (bsOf sh.1 J) = true := by
    unfold conB
    rw [List.all_eq_true]
    intro x hx
    have hx := List.mem_range.mp hx
    rw [List.all_eq_true]
    intro y hy
    have hy := List.mem_range.mp hy
    rw [Bool.or_eq_true, Bool.or_eq_true, Bool.or_eq_true, Bool.not_eq_true', Bool.not_eq_true']
    by_cases Jx : J x
    · by_cases e : x = y
      · exact .inl (.inl (.inr (decide_eq_true e)))
      · by_cases g : shA sh x y = b
        · exact .inr ((bsOf_at hy).mpr (clo x hx y hy e Jx g))
        · exact .inl (.inr (by rw [← Bool.not_eq_true, beq_iff_eq]; exact g))
    · exact .inl (.inl (.inl (Bool.eq_false_iff.mpr fun z => Jx ((bsOf_at hx).mp z))))
  have c2 : ((List.range sh.1).any fun a => (bsOf sh.1 J).getD a false) = true := by
    rw [List.any_eq_true]
    exact ⟨i, List.mem_range.mpr hi, (bsOf_at hi).mpr Ji⟩
  rw [c1, c2] at h
  have h3 : allB sh (bsOf sh.1 J) = true := h
  unfold allB at h3
  rw [List.all_eq_true] at h3
  exact (bsOf_at ha).mp (h3 a (List.mem_range.mpr ha))
/-- between two sets it is as the shape says -/
def BtwG (ts : List (Int × Int)) (sh : Shp) (Js : List (List Int)) : Prop := ∀ (i j : Nat) (S T : List Int), i ≠ j → Js[i]? = some S → Js[j]? = some T → ∀ x ∈ S, ∀ y ∈ T, adjB ts x y = shA sh i j
section close
variable {ts : List (Int × Int)} {sh : Shp} {I : List Int} {Is Js : List (List Int)}
theorem close_at (pm : Js.Perm Is) (pt : PartI I Is) {x : Int} (hx : x ∈ I) : ∃ (i : Nat) (S : List Int), Js[i]? = some S ∧ x ∈ S := by
  obtain ⟨S, hS, xS⟩ := pt.own hx
  obtain ⟨i, e⟩ := List.getElem?_of_mem (pm.mem_iff.mpr hS)
  exact ⟨i, S, e, xS⟩
theorem close_con (hs : sh ∈ shapes) (pm : Js.Perm Is) (jl : Js.length = sh.1) (pt : PartI I Is) (bt : BtwG ts sh Js) (b : Bool) : ConI ts b I := fun A cA x hx ax y hy => by
  have k4 := (shape_k sh hs).1
  have inI : ∀ {i : Nat} {S : List Int}, Js[i]? = some S → ∀ z ∈ S, z ∈ I := fun {i S} e z hz => pt.sub (pm.mem_iff.mp (List.mem_of_getElem? e)) z hz
  have lt : ∀ {i : Nat} {S : List Int}, Js[i]? = some S → i < sh.1 := fun {i S} e => by
    have := (List.getElem?_eq_some_iff.mp e).1
    omega
  obtain ⟨i, S, eS, xS⟩ := close_at pm pt hx
  obtain ⟨j, T, eT, yT⟩ := close_at pm pt hy
  have all := shape_conP hs b (J := fun a => ∃ (U : List Int) (z : Int), Js[a]? = some U ∧ z ∈ U ∧ A z) (fun u hu v hv uv ⟨U, z, eU, zU, az⟩ g => by
    have hv' : v < Js.length := by omega
    obtain ⟨q, qV⟩ := List.exists_mem_of_ne_nil _ (pt.ne Js[v] (pm.mem_iff.mp (List.getElem_mem hv')))
    have eV : Js[v]? = some Js[v] := List.getElem?_eq_getElem hv'
    exact ⟨Js[v], q, eV, qV, cA z (inI eU z zU) q (inI eV q qV) az (by rw [bt u v U _ uv eU eV z zU q qV]; exact g)⟩) (lt eS) ⟨S, x, eS, xS, ax⟩
  -- a set that is joined to y's
  have hj := lt eT
  obtain ⟨u, hu, uj, g⟩ : ∃ u, u < sh.1 ∧ u ≠ j ∧ shA sh u j = b := by
    refine Classical.byContradiction fun no => ?_
    obtain ⟨o, ho, oj⟩ : ∃ o, o < sh.1 ∧ o ≠ j := ⟨if j = 0 then 1 else 0, by split <;> omega, by split <;> omega⟩
    have := shape_conP hs b (J := fun a => a = j) (fun x hx y hy n ex g => by
      subst ex
      exact absurd ⟨y, hy, Ne.symm n, by rw [shA_comm]; exact g⟩ no) hj rfl o ho
    exact oj this
  obtain ⟨U, z, eU, zU, az⟩ := all u hu
  exact cA z (inI eU z zU) y hy az (by rw [bt u j U T uj eU eT z zU y yT]; exact g)
theorem close_cls (hs : sh ∈ shapes) (pm : Js.Perm Is) (jl : Js.length = sh.1) (pt : PartI I Is) (bt : BtwG ts sh Js) (r : I.Pairwise (· < ·)) {S : List Int} (hS : S ∈ Is) {p : Int} (pS : p ∈ S) : clsI ts I p = S := by
  have nI : I.Nodup := r.imp fun h => Int.ne_of_lt h
  have k4 := (shape_k sh hs).1
  have inI : ∀ {i : Nat} {S : List Int}, Js[i]? = some S → ∀ z ∈ S, z ∈ I := fun {i S} e z hz => pt.sub (pm.mem_iff.mp (List.mem_of_getElem? e)) z hz
  have lt : ∀ {i : Nat} {S : List Int}, Js[i]? = some S → i < sh.1 := fun {i S} e => by
    have := (List.getElem?_eq_some_iff.mp e).1
    omega
  have get : ∀ {i : Nat}, i < sh.1 → ∃ (U : List Int) (z : Int), Js[i]? = some U ∧ z ∈ U := fun {i} hi => by
    have hi' : i < Js.length := by omega
    obtain ⟨q, qV⟩ := List.exists_mem_of_ne_nil _ (pt.ne Js[i] (pm.mem_iff.mp (List.getElem_mem hi')))
    exact ⟨_, q, List.getElem?_eq_getElem hi', qV⟩
  have jIs : ∀ {i : Nat} {S : List Int}, Js[i]? = some S → S ∈ Is := fun {i S} e => pm.mem_iff.mp (List.mem_of_getElem? e)
  have nJ : Js.Nodup := pm.nodup_iff.mpr (pt.nods nI)
  have uniq : ∀ {i j : Nat} {S : List Int}, Js[i]? = some S → Js[j]? = some S → i = j := fun {i j S} e f => by
    obtain ⟨hi, ei⟩ := List.getElem?_eq_some_iff.mp e
    obtain ⟨hj, ej⟩ := List.getElem?_eq_some_iff.mp f
    exact (List.getElem_inj nJ).mp (ei.trans ej.symm)
  refine rise_ext (r.sublist (by unfold clsI; exact List.filter_sublist)) (pt.rise S hS) fun q => ?_
  rw [mem_clsI]
  obtain ⟨i, eS⟩ := List.getElem?_of_mem (pm.mem_iff.mpr hS)
  constructor
  · rintro ⟨qI, M, cM, Mp, Mq, z, zI, nz⟩
    obtain ⟨j, T, eT, qT⟩ := close_at pm pt qI
    by_cases ij : i = j
    · subst ij
      rw [eS] at eT
      cases eT; exact qT
    exfalso
    let J : Nat → Prop := fun a => ∃ (U : List Int) (x : Int), Js[a]? = some U ∧ x ∈ U ∧ M x
    have Jall : ∀ a, a < sh.1 → J a := shape_primeP hs (J := J) (fun c hc nc a ha b hb ⟨U, x, eU, xU, Mx⟩ ⟨V', y, eV, yV, My⟩ => by
      obtain ⟨Z, d, eZ, dZ⟩ := get hc
      have nd : ¬ M d := fun k => nc ⟨Z, d, eZ, dZ, k⟩
      have ca : c ≠ a := fun k => nc (by subst k; exact ⟨U, x, eU, xU, Mx⟩)
      have cb : c ≠ b := fun k => nc (by subst k; exact ⟨V', y, eV, yV, My⟩)
      have := cM d (inI eZ d dZ) nd x (inI eU x xU) y (inI eV y yV) Mx My
      rw [bt c a Z U ca eZ eU d dZ x xU, bt c b Z V' cb eZ eV d dZ y yV] at this
      exact this) (lt eS) (lt eT) ij ⟨S, p, eS, pS, Mp⟩ ⟨T, q, eT, qT, Mq⟩
    obtain ⟨c, Z, eZ, zZ⟩ := close_at pm pt zI
    have hc := lt eZ
    obtain ⟨u, v, hu, hv, uv, uc, vc⟩ : ∃ u v, u < sh.1 ∧ v < sh.1 ∧ u ≠ v ∧ u ≠ c ∧ v ≠ c := by
      rcases c with _ | _ | c
      · exact ⟨1, 2, by omega, by omega, by omega, by omega, by omega⟩
      · exact ⟨0, 2, by omega, by omega, by omega, by omega, by omega⟩
      · exact ⟨0, 1, by omega, by omega, by omega, by omega, by omega⟩
    have := shape_primeP hs (J := fun a => a ≠ c) (fun c' hc' nc a ha b hb na nb => by
      have : c' = c := Classical.byContradiction fun k => nc k
      subst this
      obtain ⟨U, x, eU, xU, Mx⟩ := Jall a ha
      obtain ⟨V', y, eV, yV, My⟩ := Jall b hb
      have := cM z zI nz x (inI eU x xU) y (inI eV y yV) Mx My
      rw [bt c' a Z U (Ne.symm na) eZ eU z zZ x xU, bt c' b Z V' (Ne.symm nb) eZ eV z zZ y yV] at this
      exact this) hu hv uv uc vc c hc
    exact this rfl
  · intro qS
    refine ⟨pt.sub hS q qS, (· ∈ S), fun d hd nd a ha b hb aS bS => ?_, pS, qS, ?_⟩
    · obtain ⟨j, T, eT, dT⟩ := close_at pm pt hd
      have ji : j ≠ i := fun k => by
        subst k
        rw [eS] at eT
        cases eT; exact nd dT
      rw [bt j i T S ji eT eS d dT a aS, bt j i T S ji eT eS d dT b bS]
    · obtain ⟨T, hT, nT⟩ := pt.other nI S
      obtain ⟨z, zT⟩ := List.exists_mem_of_ne_nil _ (pt.ne T hT)
      exact ⟨z, pt.sub hT z zT, fun zS => nT (pt.dis nI T hT S hS z zT zS)⟩
theorem close_clsG (hs : sh ∈ shapes) (pm : Js.Perm Is) (jl : Js.length = sh.1) (pt : PartI I Is) (bt : BtwG ts sh Js) (r : I.Pairwise (· < ·)) (ord : Is.Pairwise HdLt) : ClsG ts I I.length Is := by
  have nI : I.Nodup := r.imp fun h => Int.ne_of_lt h
  refine ⟨fun S hS => ?_, fun p hp => ?_, pt.nods nI, fun _ _ _ => ord⟩
  · obtain ⟨p, hp⟩ := List.exists_mem_of_ne_nil _ (pt.ne S hS)
    exact ⟨p, by rw [List.take_length]; exact pt.sub hS p hp, (close_cls hs pm jl pt bt r hS hp).symm⟩
  · rw [List.take_length] at hp
    obtain ⟨S, hS, pS⟩ := pt.own hp
    rw [close_cls hs pm jl pt bt r hS pS]
    exact hS
end close
def factN : Nat → Int
  | 0 => 1
  | n + 1 => factN n * ((n + 1 : Nat) : Int)
def NodeB (ts : List (Int × Int)) (ab w : Str) (Is : List (List Int)) (own : Int) : Prop :=
  (w = "all" ∧ ab ≠ "all" ∧ own = factN Is.length ∧ BtwP ts true Is) ∨ (w = "apart" ∧ ab ≠ "apart" ∧ own = 1 ∧ BtwP ts false Is) ∨
  (w = "close" ∧ ∃ sh ∈ shapes, ∃ Js : List (List Int), Js.Perm Is ∧ Js.length = sh.1 ∧ own = sh.2.2 ∧ BtwG ts sh Js)
def prodI (l : List Int) : Int := l.foldr (· * ·) 1
/-- a drawn tree of the places I: where it stands, under which word, in how many ways -/
def DrX (ts : List (Int × Int)) (H : Hp) : Nat → V → List Int → Int → Str → Prop
  | 0, _, _, _, _ => False
  | m + 1, v, I, wy, ab => (∃ p i, v = .ref p ∧ H p = some (.tup [.str "place", .int i]) ∧ I = [i] ∧ wy = 1) ∨
      ∃ (p q : Addr) (w : Str) (vs : List V) (bs : List (List Int × Int)) (own : Int), v = .ref p ∧ H p = some (.tup [.str w, .ref q]) ∧ H q = some (.tup vs) ∧ All2 (fun v b => DrX ts H m v b.1 b.2 w) vs bs ∧
        (I.Pairwise (· < ·) ∧ PartI I (bs.map (·.1)) ∧ (bs.map (·.1)).Pairwise HdLt) ∧ NodeB ts ab w (bs.map (·.1)) own ∧ wy = own * prodI (bs.map (·.2))
theorem DrX.mono {ts : List (Int × Int)} {H H' : Hp} (t : Tst H H') : ∀ {m : Nat} {v : V} {I : List Int} {wy : Int} {ab : Str}, DrX ts H m v I wy ab → DrX ts H' m v I wy ab
  | 0, _, _, _, _, h => h.elim
  | m + 1, v, I, wy, ab, h => by
    rcases h with ⟨p, i, e, a, b⟩ | ⟨p, q, w, vs, bs, own, e, a, b, c, d⟩
    · exact .inl ⟨p, i, e, t _ _ a, b⟩
    · exact .inr ⟨p, q, w, vs, bs, own, e, t _ _ a, t _ _ b, c.imp fun _ _ h => DrX.mono t h, d⟩
theorem DrX.up {ts : List (Int × Int)} {H : Hp} : ∀ {m : Nat} {v : V} {I : List Int} {wy : Int} {ab : Str}, DrX ts H m v I wy ab → DrX ts H (m + 1) v I wy ab
  | 0, _, _, _, _, h => h.elim
  | m + 1, v, I, wy, ab, h => by
    rcases h with ⟨p, i, e, a, b⟩ | ⟨p, q, w, vs, bs, own, e, a, b, c, d⟩
    · exact .inl ⟨p, i, e, a, b⟩
    · exact .inr ⟨p, q, w, vs, bs, own, e, a, b, c.imp fun _ _ h => DrX.up h, d⟩
theorem DrX.ups {ts : List (Int × Int)} {H : Hp} {m : Nat} {v : V} {I : List Int} {wy : Int} {ab : Str} (h : DrX ts H m v I wy ab) : ∀ {k : Nat}, m ≤ k → DrX ts H k v I wy ab := fun {k} hk => by
  obtain ⟨d, rfl⟩ : ∃ d, k = m + d := ⟨k - m, by omega⟩
  clear hk
  induction d with
  | zero => exact h
  | succ d ih => exact ih.up
theorem DrX.rise {ts : List (Int × Int)} {H : Hp} : ∀ {m : Nat} {v : V} {I : List Int} {wy : Int} {ab : Str}, DrX ts H m v I wy ab → I.Pairwise (· < ·) ∧ I ≠ []
  | 0, _, _, _, _, h => h.elim
  | m + 1, v, I, wy, ab, h => by
    rcases h with ⟨p, i, e, a, rfl, _⟩ | ⟨p, q, w, vs, bs, own, e, a, b, c, ⟨d1, d2, d3⟩, _⟩
    · exact ⟨List.pairwise_singleton _ _, fun z => by cases z⟩
    · refine ⟨d1, fun z => ?_⟩
      have := d2.len
      have t := d2.two
      rw [z] at this
      exact absurd (Nat.le_trans t this) (by decide)
theorem BtwP.cong {ts us : List (Int × Int)} {b : Bool} {Is : List (List Int)} {I : List Int} (sub : ∀ S ∈ Is, ∀ x ∈ S, x ∈ I) (c : ∀ x ∈ I, ∀ y ∈ I, adjB ts x y = adjB us x y) (h : BtwP ts b Is) : BtwP us b Is :=
  List.Pairwise.imp_of_mem (fun {S T} hS hT k x hx y hy => by rw [← c x (sub S hS x hx) y (sub T hT y hy)]; exact k x hx y hy) h
theorem NodeB.cong {ts us : List (Int × Int)} {ab w : Str} {Is : List (List Int)} {own : Int} {I : List Int} (sub : ∀ S ∈ Is, ∀ x ∈ S, x ∈ I) (c : ∀ x ∈ I, ∀ y ∈ I, adjB ts x y = adjB us x y) (h : NodeB ts ab w Is own) : NodeB us ab w Is own := by
  rcases h with ⟨a, b, d, e⟩ | ⟨a, b, d, e⟩ | ⟨a, sh, hs, Js, pm, jl, ow, bt⟩
  · exact .inl ⟨a, b, d, e.cong sub c⟩
  · exact .inr (.inl ⟨a, b, d, e.cong sub c⟩)
  · refine .inr (.inr ⟨a, sh, hs, Js, pm, jl, ow, fun i j S T ij eS eT x hx y hy => ?_⟩)
    rw [← c x (sub S (pm.mem_iff.mp (List.mem_of_getElem? eS)) x hx) y (sub T (pm.mem_iff.mp (List.mem_of_getElem? eT)) y hy)]
    exact bt i j S T ij eS eT x hx y hy
theorem all2_impMem {α : Type} {R S : V → α → Prop} : ∀ {vs : List V} {ts : List α}, (∀ v t, t ∈ ts → R v t → S v t) → All2 R vs ts → All2 S vs ts
  | [], [], _, _ => trivial
  | _ :: _, _ :: _, f, h => ⟨f _ _ List.mem_cons_self h.1, all2_impMem (fun v t ht => f v t (List.mem_cons_of_mem _ ht)) h.2⟩
  | [], _ :: _, _, h => h.elim
  | _ :: _, [], _, h => h.elim
theorem DrX.cong {ts us : List (Int × Int)} {H : Hp} : ∀ {m : Nat} {v : V} {I : List Int} {wy : Int} {ab : Str}, (∀ x ∈ I, ∀ y ∈ I, adjB ts x y = adjB us x y) → DrX ts H m v I wy ab → DrX us H m v I wy ab
  | 0, _, _, _, _, _, h => h.elim
  | m + 1, v, I, wy, ab, k, h => by
    rcases h with ⟨p, i, e, a, b⟩ | ⟨p, q, w, vs, bs, own, e, a, b, c, ⟨d1, d2, d3⟩, nb, ew⟩
    · exact .inl ⟨p, i, e, a, b⟩
    · have sub : ∀ S ∈ bs.map (·.1), ∀ x ∈ S, x ∈ I := fun S hS => d2.sub hS
      refine .inr ⟨p, q, w, vs, bs, own, e, a, b, all2_impMem (fun v t ht h => ?_) c, ⟨d1, d2, d3⟩, nb.cong sub k, ew⟩
      have st := sub t.1 (List.mem_map.mpr ⟨t, ht, rfl⟩)
      exact DrX.cong (fun x hx y hy => k x (st x hx) y (st y hy)) h
theorem NodeB.con {ts : List (Int × Int)} {ab w : Str} {I : List Int} {Is : List (List Int)} {own : Int} (pt : PartI I Is) (r : I.Pairwise (· < ·)) (h : NodeB ts ab w Is own) : (w ≠ "apart" → ConI ts true I) ∧ (w ≠ "all" → ConI ts false I) := by
  have nI : I.Nodup := r.imp fun h => Int.ne_of_lt h
  rcases h with ⟨rfl, b, d, e⟩ | ⟨rfl, b, d, e⟩ | ⟨rfl, sh, hs, Js, pm, jl, ow, bt⟩
  · exact ⟨fun _ => con_btw pt nI e, fun z => absurd rfl z⟩
  · exact ⟨fun z => absurd rfl z, fun _ => con_btw pt nI e⟩
  · exact ⟨fun _ => close_con hs pm jl pt bt true, fun _ => close_con hs pm jl pt bt false⟩
theorem NodeB.ne {ts : List (Int × Int)} {ab w : Str} {Is : List (List Int)} {own : Int} (h : NodeB ts ab w Is own) : (ab = "apart" → w ≠ "apart") ∧ (ab = "all" → w ≠ "all") := by
  rcases h with ⟨rfl, b, d, e⟩ | ⟨rfl, b, d, e⟩ | ⟨rfl, _⟩
  · exact ⟨fun _ z => absurd z (by decide), fun z => absurd z b⟩
  · exact ⟨fun z => absurd z b, fun _ z => absurd z (by decide)⟩
  · exact ⟨fun _ z => absurd z (by decide), fun _ z => absurd z (by decide)⟩
theorem con_one (ts : List (Int × Int)) (b : Bool) (i : Int) : ConI ts b [i] := fun A _ x hx ax y hy => by
  rw [List.mem_singleton.mp hx] at ax
  rw [List.mem_singleton.mp hy]; exact ax
theorem DrX.con {ts : List (Int × Int)} {H : Hp} {m : Nat} {v : V} {I : List Int} {wy : Int} {ab : Str} (h : DrX ts H m v I wy ab) : (ab = "apart" → ConI ts true I) ∧ (ab = "all" → ConI ts false I) := by
  cases m with
  | zero => exact h.elim
  | succ m =>
    rcases h with ⟨p, i, e, a, rfl, _⟩ | ⟨p, q, w, vs, bs, own, e, a, b, c, ⟨d1, d2, d3⟩, nb, ew⟩
    · exact ⟨fun _ => con_one ts true i, fun _ => con_one ts false i⟩
    · obtain ⟨k1, k2⟩ := nb.con d2 d1
      obtain ⟨n1, n2⟩ := nb.ne
      exact ⟨fun z => k1 (n1 z), fun z => k2 (n2 z)⟩
theorem all2_map1 {α β : Type} {R : V → β → Prop} {f : α → β} : ∀ {vs : List V} {bs : List α}, All2 (fun v b => R v (f b)) vs bs → All2 R vs (bs.map f)
  | [], [], _ => trivial
  | _ :: _, _ :: _, h => ⟨h.1, all2_map1 h.2⟩
  | [], _ :: _, h => h.elim
  | _ :: _, [], h => h.elim
theorem all2_get {α : Type} {R : V → α → Prop} : ∀ {vs : List V} {bs : List α}, All2 R vs bs → ∀ b ∈ bs, ∃ v, R v b
  | [], [], _, _, h => by cases h
  | v :: _, b :: _, h, c, hc => by
    rcases List.mem_cons.mp hc with rfl | hc
    · exact ⟨v, h.1⟩
    · exact all2_get h.2 c hc
  | [], _ :: _, h, _, _ => h.elim
  | _ :: _, [], h, _, _ => h.elim
/-- a drawn tree is the exact tree of its web -/
theorem DrX.exact {ts : List (Int × Int)} {H : Hp} : ∀ {m : Nat} {v : V} {I : List Int} {wy : Int} {ab : Str}, DrX ts H m v I wy ab → TrX ts H m v I
  | 0, _, _, _, _, h => h.elim
  | m + 1, v, I, wy, ab, h => by
    rcases h with ⟨p, i, e, a, b, _⟩ | ⟨p, q, w, vs, bs, own, e, a, b, c, ⟨d1, d2, d3⟩, nb, ew⟩
    · exact .inl ⟨p, i, e, a, b⟩
    · have nI : I.Nodup := d1.imp fun h => Int.ne_of_lt h
      have l2 : 2 ≤ I.length := Nat.le_trans d2.two d2.len
      have Ine : I ≠ [] := fun z => by rw [z] at l2; exact absurd l2 (by decide)
      have kids : ∀ S ∈ bs.map (·.1), (w = "apart" → ConI ts true S) ∧ (w = "all" → ConI ts false S) := fun S hS => by
        obtain ⟨t, ht, rfl⟩ := List.mem_map.mp hS
        obtain ⟨u, hu⟩ := all2_get c t ht
        exact hu.con
      have len2 : 1 < (bs.map (·.1)).length := d2.two
      refine .inr ⟨p, q, w, vs, bs.map (·.1), e, a, ⟨d1, l2⟩, ?_, b, all2_map1 (c.imp fun _ _ h => DrX.exact h)⟩
      rcases nb with ⟨rfl, b, d, e⟩ | ⟨rfl, b, d, e⟩ | ⟨rfl, sh, hs, Js, pm, jl, ow, bt⟩
      · exact .inr (.inl ⟨rfl, ⟨[I], setsI_one (con_btw d2 nI e) d1 Ine, by simp⟩, setsI_parts d2 d3 e fun S hS => (kids S hS).2 rfl, len2⟩)
      · exact .inl ⟨rfl, setsI_parts d2 d3 e fun S hS => (kids S hS).1 rfl, len2⟩
      · exact .inr (.inr ⟨rfl, ⟨[I], setsI_one (close_con hs pm jl d2 bt true) d1 Ine, by simp⟩, ⟨[I], setsI_one (close_con hs pm jl d2 bt false) d1 Ine, by simp⟩, close_clsG hs pm jl d2 bt d1 d3⟩)
end My

set_option Elab.async false
set_option linter.all false
set_option maxRecDepth 100000
namespace My
open PySem PySem.Spec PyProof.Rows L2 GxR
open PySem.W (dataLt keyToks lex_atom lex_one minD alike min_list_data)

/-! ### min of a list of pairs -/
theorem dlt_dT (s t : Int × Int) : dataLt (dT s) (dT t) = true ↔ ltT s t := by
  obtain ⟨a, b⟩ := s
  obtain ⟨c, d⟩ := t
  have e1 : keyToks (dT (a, b)) = [.inl 1, .inl a, .inl 1, .inl b, .inl 0] := rfl
  have e2 : keyToks (dT (c, d)) = [.inl 1, .inl c, .inl 1, .inl d, .inl 0] := rfl
  have one : ∀ x y : Int, PyProof.Rows.lexLt itemOrd [.inl x] [.inl y] = decide (x < y) := fun x y => lex_one _ _
  unfold dataLt ltT
  rw [e1, e2, lex_self]
  by_cases h1 : a = c
  · subst h1
    rw [lex_self, lex_self]
    by_cases h2 : b = d
    · subst h2
      rw [lex_self, lex_self]
      simp [PyProof.Rows.lexLt]
    · rw [lex_atom (fun z => h2 (Sum.inl.inj z)), one]
      simp
  · rw [lex_atom (fun z => h1 (Sum.inl.inj z)), one]
    simp [h1]
theorem minD_dT : ∀ (cs : List (Int × Int)) (c : Int × Int), ∃ m, minD (dT c) (cs.map dT) = dT m ∧ m ∈ c :: cs ∧ ∀ y ∈ c :: cs, ¬ ltT y m
  | [], c => ⟨c, rfl, List.mem_cons_self, fun y hy => by rw [List.mem_singleton.mp hy]; exact ltT_irr⟩
  | d :: cs, c => by
    by_cases h : ltT d c
    · obtain ⟨m, e, h1, h2⟩ := minD_dT cs d
      refine ⟨m, ?_, List.mem_cons_of_mem _ h1, fun y hy => ?_⟩
      · rw [← e]
        show List.foldl _ (if dataLt (dT d) (dT c) then dT d else dT c) _ = _
        rw [if_pos ((dlt_dT d c).mpr h)]; rfl
      · rcases List.mem_cons.mp hy with rfl | hy
        · intro k
          exact h2 d List.mem_cons_self (by unfold ltT at *; omega)
        · exact h2 y hy
    · obtain ⟨m, e, h1, h2⟩ := minD_dT cs c
      refine ⟨m, ?_, ?_, fun y hy => ?_⟩
      · rw [← e]
        show List.foldl _ (if dataLt (dT d) (dT c) then dT d else dT c) _ = _
        rw [if_neg (fun z => h ((dlt_dT d c).mp z))]; rfl
      · rcases List.mem_cons.mp h1 with rfl | h1
        · exact List.mem_cons_self
        · exact List.mem_cons_of_mem _ (List.mem_cons_of_mem _ h1)
      · rcases List.mem_cons.mp hy with rfl | hy
        · exact h2 _ List.mem_cons_self
        · rcases List.mem_cons.mp hy with rfl | hy
          · intro k
            have := h2 c List.mem_cons_self
            unfold ltT at *; omega
          · exact h2 y (List.mem_cons_of_mem _ hy)
def rMinT (K : PySem.W.Frag) : List V → Hp → VK → Prop := fun vs H Q => ∃ (a : Addr) (us : List V) (cs : List (Int × Int)), vs = [.ref a] ∧ SqL K H a us ∧ Ties H us cs ∧ cs ≠ [] ∧
  ∀ x m, m ∈ cs → (∀ y ∈ cs, ¬ ltT y m) → Tie H x m → Q x H
theorem vals_at : ∀ {xs : List V} {us : List Value} {i : Nat} {u : Value}, Vals xs us → us[i]? = some u → ∃ x, xs[i]? = some x ∧ RelV x u
  | _, _, _, _, .nil, h => by cases h
  | _, _, 0, _, .cons r _, h => by cases h; exact ⟨_, rfl, r⟩
  | _, _, i + 1, _, .cons _ t, h => vals_at (i := i) t h
theorem alike_dT (s t : Int × Int) : alike (dT s) (dT t) = true := rfl
section
variable {X : Cx}
theorem cr_minT (hc : X.calm = true) (hu : X.A.units + 65 < cLine) : CallR X (.builtin "min") (rMinT X.K) := by
  rintro pins s σ H vs us Q I r ⟨a, ws, cs, rfl, ha, hT, hne, q⟩
  obtain ⟨u, rfl, ru⟩ := vals1 r
  obtain rfl : u = Value.ref a := ru
  obtain ⟨its, rv, hl, hz⟩ := I.list ha
  obtain ⟨as, hr⟩ := Dp.readsAll I (cs.map dT) ws its hT.dp rv
  cases cs with
  | nil => exact absurd rfl hne
  | cons c cs =>
    obtain ⟨m, em, h1, h2⟩ := minD_dT cs c
    have hd := dep_ties (c :: cs)
    refine min_list_data (x := dT c) (xs := cs.map dT) (I.ok.hd hc) hl.isList (by simpa using hr) ⟨fun x hx y hy => ?_, fun x hx => ?_⟩ (by rw [← List.map_cons]; omega) fun i v h' tk bs hv hrd kp => ?_
    · rw [← List.map_cons] at hx hy
      obtain ⟨s, _, rfl⟩ := List.mem_map.mp hx
      obtain ⟨t, _, rfl⟩ := List.mem_map.mp hy
      exact alike_dT s t
    · rw [← List.map_cons] at hx
      obtain ⟨s, _, rfl⟩ := List.mem_map.mp hx
      exact fun z => by cases z
    · rw [em] at hrd
      have hi : i < its.length := by
        have := (Array.getElem?_eq_some_iff.mp hv).1
        simpa using this
      have hv' : its[i]? = some v := by simpa using hv
      obtain ⟨x, hx, rx⟩ := vals_at rv hv'
      obtain ⟨t, tm, ht⟩ := hT.at hx
      have I1 : Inv X pins σ H { s with heap := h', toks := tk } := I.kept kp
      obtain ⟨b, rfl, eb⟩ := id ht
      obtain rfl : v = Value.ref b := rx
      obtain ⟨_, its2, r2, o2, ho2, hc2, n2, hd2⟩ := I1.hok _ _ eb
      obtain ⟨u1, u2, rfl, ⟨t1, rfl⟩, ⟨t2, rfl⟩⟩ := vals2 r2
      obtain ⟨ta, tb⟩ := t
      obtain ⟨ma, mb⟩ := m
      have e : (ta, tb) = (ma, mb) := by
        cases hrd with
        | tuple g1 g2 g3 g4 =>
          have g1' := g1.symm.trans ho2
          cases g1'
          rw [hd2] at g3
          cases g3
          cases g4 with
          | cons a1 b1 =>
            cases b1 with
            | cons a2 b2 =>
              cases a1; cases a2
              rfl
      exact ⟨.ref b, H, I1, rfl, q _ _ h1 h2 (e ▸ ht)⟩
end
end My

set_option Elab.async false
set_option linter.all false
set_option maxRecDepth 100000
namespace My
open PySem PySem.Spec PyProof.Rows L2 GxR
/-- the lists of places that each place is tied to -/
def NearsAt (H : Hp) (p : Addr) (n : Nat) (ts : List Ar) : Prop := ∃ qs : List Addr, H p = some (.lst (qs.map V.ref)) ∧ qs.length = n ∧ qs.Nodup ∧ p ∉ qs ∧ ∀ (i : Nat) (q : Addr), qs[i]? = some q → H q = some (.lst ((nearL ts (i : Int)).map V.int))
theorem NearsAt.mono {H H' : Hp} {p : Addr} {n : Nat} {ts : List Ar} (h : NearsAt H p n ts) (s : Same H H') : NearsAt H' p n ts := by
  obtain ⟨qs, h1, h2, h3, h4, h5⟩ := h
  exact ⟨qs, s _ _ h1, h2, h3, h4, fun i q e => s _ _ (h5 i q e)⟩
section
variable {P : Program} {w : World} {K : PySem.W.Frag} {mg : Str → Option Value} {base : Heap}
/-! ### tied_places -/
abbrev N_tied_places : List Str := ["web", "near", "place", "a", "b"]
theorem sc_tied_places : FnScope N_tied_places ["web"] (defScope s_tied_places) := ⟨rfl, rfl, rfl, by decide +kernel, rfl, by decide +kernel, by decide +kernel⟩
def sp_tplaces : Sp := fun vs H Q _ => ∃ (v : V) (n : Nat) (ts : List Ar), vs = [v] ∧ Web H v n ts ∧ WOk n ts ∧ n ≤ 100 ∧ ts.length ≤ 10000 ∧
  ∀ p H', H p = none → Same H H' → NearsAt H' p n ts → Q (.ref p) H'
theorem ok_tplaces {f : Addr} {fd : FuncData} (B : Bts mg) (F : Fun K "tied_places" "tied_places" s_tied_places f fd) : FnOk P w K mg base CX0 1 f fd ["web"] sp_tplaces := by
  refine F.ok sc_tied_places (fun vs H Q E h => ?_) (fun cdv A outer s H vs Q E hr h => ?_)
  · obtain ⟨v, n, ts, rfl, _⟩ := h; rfl
  · obtain ⟨v, n, ts, rfl, ⟨p, q', us, rfl, ep, eq, hT⟩, hW, hn, hl, q⟩ := h
    refine ⟨_, (pss_cons (ps_setLc (i := 1) (own := [("place", 2)]) (g := (gName 2)) (tt := tYes) rfl sc_tied_places.nd rfl rfl (sw_true rfl rfl rfl (by decide +kernel)) (pi_range1 (by rfl) B.range (pa_cons (pe_ix ix_tup (pv 0) pe_int (fun _ _ => rfl)) pa_nil)) (blkOk_by (own := [("place", 2)]) (N := N_tied_places) (sc := defScope s_tied_places) (by decide +kernel)) (fun _ _ _ _ _ => (pg_name (i := 2) sc_tied_places.nd rfl (by first | exact Or.inl rfl | exact Or.inr rfl))) (fun _ _ _ _ _ => pts_nil) (fun _ _ _ _ _ => (pe_lst pa_nil)))
    (pss_cons (ps_for PassesOwn.never rfl (pi_tup (pe_ix ix_tup (pv 0) pe_int (fun _ _ => rfl))) (pg_tup rfl (pgs_cons (pg_name (i := 3) sc_tied_places.nd rfl (by first | exact Or.inl rfl | exact Or.inr rfl)) (pgs_cons (pg_name (i := 4) sc_tied_places.nd rfl (by first | exact Or.inl rfl | exact Or.inr rfl)) pgs_nil)))
      (pss_cons (ps_expr (pe_bm PySem.F.plainAttrs_list PySem.F.slot_list_append PySem.F.type_list_append mt_append (pe_ix ix_list (pv 1) (pv 3) (fun _ _ => rfl)) (pa_cons (pv 4) pa_nil)))
      (pss_one (ps_expr (pe_bm PySem.F.plainAttrs_list PySem.F.slot_list_append PySem.F.type_list_append mt_append (pe_ix ix_list (pv 1) (pv 4) (fun _ _ => rfl)) (pa_cons (pv 3) pa_nil))))))
    (pss_one (ps_ret (pv 1))))), ?_⟩
    have en : ((n : Int)).toNat = n := Int.toNat_natCast n
    refine ⟨_, rfl, p, _, _, _, rfl, rfl, SqT.of ep, rfl, _, rfl, by omega, by omega, fun E1 nE1 => ?_⟩
    refine wk (walk_range (lo := 0)) (fun i H1 => ∃ qs : List Addr, Same H H1 ∧ H1 E1 = some (.lst (qs.map V.ref)) ∧ qs.length = i ∧ qs.Nodup ∧ E1 ∉ qs ∧ ∀ z ∈ qs, H z = none ∧ H1 z = some (.lst []))
      ⟨[], same_new nE1, upd_same, rfl, List.nodup_nil, List.not_mem_nil, fun _ z => absurd z List.not_mem_nil⟩ (fun _ _ _ _ => trivial) ?_ ?_
    · rintro i x H1 H2 hi ⟨qs, sm, eE, ql, qn, qE, qz⟩ ⟨rfl, hx⟩
      rw [en] at hi
      refine ⟨rfl, yes ?_⟩
      refine ⟨Nat.zero_le _, fun g ng => ?_⟩
      have sg := same_new (o := .lst []) ng
      have gE : g ≠ E1 := fun z => by rw [z, eE] at ng; cases ng
      have gq : g ∉ qs := fun z => by rw [(qz g z).2] at ng; cases ng
      refine ⟨_, sg _ _ eE, sz' (by rw [List.length_map]; omega), qs ++ [g], Same.put (sm.trans sg) nE1, by rw [upd_same, List.map_append]; rfl, by rw [List.length_append, ql]; rfl, ?_, ?_, fun z hz => ?_⟩
      · rw [List.nodup_append]
        refine ⟨qn, List.nodup_cons.mpr ⟨List.not_mem_nil, List.nodup_nil⟩, fun a ha b hb e => ?_⟩
        rw [List.mem_singleton.mp hb] at e
        subst e; exact gq ha
      · intro z
        rcases List.mem_append.mp z with z | z
        · exact qE z
        · exact gE (List.mem_singleton.mp z).symm
      · rcases List.mem_append.mp hz with z' | z'
        · refine ⟨(qz z z').1, ?_⟩
          rw [upd_ne (fun e => qE (by rw [← e]; exact z'))]; exact sg _ _ (qz z z').2
        · rw [List.mem_singleton.mp z']
          refine ⟨same_free sm ng, ?_⟩
          rw [upd_ne gE]; exact upd_same
    · rintro H1 ⟨qs, sm, eE, ql, qn, qE, qz⟩
      rw [en] at ql
      refine ⟨_, rfl, p, _, _, _, rfl, rfl, SqT.of (sm _ _ ep), rfl, q', rfl, ⟨_, SqT.of (sm _ _ eq)⟩, ?_⟩
      refine for_tup (K := K) (a := q') (xs := us) (fun i σ H2 => ∃ y2 y3 y4, σ = [some (.ref p), some (.ref E1), y2, y3, y4] ∧ Same H H2 ∧ H2 E1 = some (.lst (qs.map V.ref)) ∧ ∀ (j : Nat) (z : Addr), qs[j]? = some z → H2 z = some (.lst ((nearL (ts.take i) (j : Int)).map V.int)))
        ⟨_, _, _, rfl, sm, eE, fun j z e => (qz z (List.mem_of_getElem? e)).2⟩ ?_ ?_ ?_
      · rintro i σ H2 _ ⟨_, _, _, _, s2, _⟩
        exact SqT.of (s2 _ _ eq)
      · rintro i x σ H2 hx ⟨y2, y3, y4, rfl, s2, eE2, hq⟩
        obtain ⟨t, et, ht⟩ := hT.at hx
        have hb := hW.2 t (List.mem_of_getElem? et)
        obtain ⟨pt, rfl, ept⟩ := ht.mono (Same.tst s2)
        obtain ⟨a, ea⟩ := natOf hb.1
        obtain ⟨b, eb⟩ := natOf (a := t.2) (by omega)
        have la : a < qs.length := by omega
        have lb : b < qs.length := by omega
        have ga : qs[a]? = some qs[a] := List.getElem?_eq_getElem la
        have gb : qs[b]? = some qs[b] := List.getElem?_eq_getElem lb
        generalize qs[a] = qa at ga
        generalize qs[b] = qb at gb
        have nab : qa ≠ qb := fun z => by
          have := nd_get qn (z ▸ ga) gb
          omega
        have naE : qa ≠ E1 := fun z => qE (z ▸ List.mem_of_getElem? ga)
        have nbE : qb ≠ E1 := fun z => qE (z ▸ List.mem_of_getElem? gb)
        have na0 := (qz qa (List.mem_of_getElem? ga)).1
        have nb0 := (qz qb (List.mem_of_getElem? gb)).1
        refine ⟨pt, _, rfl, SqT.of ept, rfl, _, _, rfl, _, _, rfl, rfl, ?_⟩
        have e1 := hq a qa ga
        have e2 := hq b qb gb
        have tk : ts.take (i + 1) = ts.take i ++ [t] := by rw [List.take_add_one, et]; rfl
        have l1 : (ts.take i).length ≤ 10000 := by rw [List.length_take]; omega
        have l2 := nearL_len (ts.take i) (a : Int)
        have l3 := nearL_len (ts.take i) (b : Int)
        refine ⟨_, rfl, _, rfl, E1, _, _, .ref qa, rfl, rfl, SqL.of eE2, by rw [ea]; exact atI_nat (by rw [List.getElem?_map, ga]; rfl), .inl ⟨rfl, _, SqL.of e1⟩, _, rfl, qa, _, _, rfl, rfl, e1, sz' (by rw [List.length_map]; omega), ?_⟩
        have e2' : (upd H2 qa (.lst ((nearL (ts.take i) (a : Int)).map V.int ++ [.int t.2]))) qb = some (.lst ((nearL (ts.take i) (b : Int)).map V.int)) := by rw [upd_ne (Ne.symm nab)]; exact e2
        have eE3 : (upd H2 qa (.lst ((nearL (ts.take i) (a : Int)).map V.int ++ [.int t.2]))) E1 = some (.lst (qs.map V.ref)) := by rw [upd_ne (Ne.symm naE)]; exact eE2
        refine ⟨_, rfl, _, rfl, E1, _, _, .ref qb, rfl, rfl, SqL.of eE3, by rw [eb]; exact atI_nat (by rw [List.getElem?_map, gb]; rfl), .inl ⟨rfl, _, SqL.of e2'⟩, _, rfl, qb, _, _, rfl, rfl, e2', sz' (by rw [List.length_map]; omega), ?_⟩
        refine ⟨_, _, _, rfl, Same.put (Same.put s2 na0) nb0, ?_, fun j z ez => ?_⟩
        · rw [upd_ne (Ne.symm nbE)]; exact eE3
        · rw [tk, nearL_step]
          by_cases hjb : j = b
          · subst hjb
            rw [gb] at ez; cases ez
            rw [upd_same, if_neg (by omega), if_pos eb, List.map_append]; rfl
          · have nz : z ≠ qb := fun k => hjb (nd_get qn ez (k ▸ gb))
            rw [upd_ne nz]
            by_cases hja : j = a
            · subst hja
              rw [ga] at ez; cases ez
              rw [upd_same, if_pos ea, List.map_append]; rfl
            · have nz2 : z ≠ qa := fun k => hja (nd_get qn ez (k ▸ ga))
              rw [upd_ne nz2, if_neg (by omega), if_neg (by omega), List.append_nil]
              exact hq j z ez
      · rintro σ H2 ⟨y2, y3, y4, rfl, s2, eE2, hq⟩
        rw [hT.len, List.take_length] at hq
        exact ⟨_, rfl, q E1 H2 nE1 s2 ⟨qs, eE2, ql, qn, qE, hq⟩⟩
/-! ### forced_by -/
abbrev N_forced_by : List Str := ["near", "arrow", "a", "b", "ends", "c", "begins"]
theorem sc_forced_by : FnScope N_forced_by ["near", "arrow"] (defScope s_forced_by) := ⟨rfl, rfl, rfl, by decide +kernel, rfl, by decide +kernel, by decide +kernel⟩
def sp_fby : Sp := fun vs H Q _ => ∃ (x : V) (D : Addr) (n : Nat) (ts : List Ar) (t : Ar), vs = [.ref D, x] ∧ NearsAt H D n ts ∧ WOk n ts ∧ n ≤ 100 ∧ ts.length ≤ 10000 ∧ Tie H x t ∧ InR n t ∧
  ∀ p us H', H p = none → Same H H' → H' p = some (.lst us) → Ties H' us (frcS n ts t) → Q (.ref p) H'
theorem ok_fby {f : Addr} {fd : FuncData} (B : Bts mg) (F : Fun K "forced_by" "forced_by" s_forced_by f fd) : FnOk P w K mg base CX0 1 f fd ["near", "arrow"] sp_fby := by
  refine F.ok sc_forced_by (fun vs H Q E h => ?_) (fun cdv A outer s H vs Q E hr h => ?_)
  · obtain ⟨x, D, n, ts, t, rfl, _⟩ := h; rfl
  · obtain ⟨x, D, n, ts, t, rfl, ⟨qs, eD, ql, qn, qD, hq⟩, hW, hn, hl, ⟨px, rfl, epx⟩, hR, q⟩ := h
    refine ⟨_, (pss_cons (ps_asg (pv 1) (pg_tup rfl (pgs_cons (pg_name (i := 2) sc_forced_by.nd rfl (by first | exact Or.inl rfl | exact Or.inr rfl)) (pgs_cons (pg_name (i := 3) sc_forced_by.nd rfl (by first | exact Or.inl rfl | exact Or.inr rfl)) pgs_nil))))
    (pss_cons (ps_setLc (i := 4) (own := [("c", 5)]) (g := (gName 5)) (tt := (tAnd _ (tTest (tOp (rIn K true) _ (tOp (rIxL K) _ _))))) rfl sc_forced_by.nd rfl rfl (sw_true rfl rfl rfl (by decide +kernel)) (pi_list (pe_ix ix_list (pv 0) (pv 2) (fun _ _ => rfl))) (blkOk_by (own := [("c", 5)]) (N := N_forced_by) (sc := defScope s_forced_by) (by decide +kernel)) (fun _ _ _ _ _ => (pg_name (i := 5) sc_forced_by.nd rfl (by first | exact Or.inl rfl | exact Or.inr rfl))) (fun _ _ _ _ _ => (pts_one (PW.pt (pw_and (pt_cmpR op_ne (pv 5) (pv 3) (nomark _)) (pw_and1 (pt_cmpR op_notIn_seq (pv 5) (pe_ix ix_list (pv 0) (pv 3) (fun _ _ => rfl)) (by rfl))))))) (fun _ _ _ _ _ => (pe_tup (pa_cons (pv 2) (pa_cons (pv 5) pa_nil)))))
    (pss_cons (ps_setLc (i := 6) (own := [("c", 5)]) (g := (gName 5)) (tt := (tAnd _ (tTest (tOp (rIn K true) _ (tOp (rIxL K) _ _))))) rfl sc_forced_by.nd rfl rfl (sw_true rfl rfl rfl (by decide +kernel)) (pi_list (pe_ix ix_list (pv 0) (pv 3) (fun _ _ => rfl))) (blkOk_by (own := [("c", 5)]) (N := N_forced_by) (sc := defScope s_forced_by) (by decide +kernel)) (fun _ _ _ _ _ => (pg_name (i := 5) sc_forced_by.nd rfl (by first | exact Or.inl rfl | exact Or.inr rfl))) (fun _ _ _ _ _ => (pts_one (PW.pt (pw_and (pt_cmpR op_ne (pv 5) (pv 2) (nomark _)) (pw_and1 (pt_cmpR op_notIn_seq (pv 5) (pe_ix ix_list (pv 0) (pv 2) (fun _ _ => rfl)) (by rfl))))))) (fun _ _ _ _ _ => (pe_tup (pa_cons (pv 5) (pa_cons (pv 3) pa_nil)))))
    (pss_one (ps_ret (pe_callB cr_sortedPO (by rfl) B.sorted (by decide +kernel) (pa_cons (pe_op op_cat (pv 4) (pv 6)) pa_nil))))))), ?_⟩
    refine ⟨_, rfl, px, _, rfl, SqT.of epx, rfl, _, _, rfl, _, _, rfl, rfl, ?_⟩
    obtain ⟨a, ea⟩ := natOf hR.1
    obtain ⟨b, eb⟩ := natOf hR.2.2.1
    have la : a < qs.length := by have := hR.2.1; omega
    have lb : b < qs.length := by have := hR.2.2.2; omega
    have ga : qs[a]? = some qs[a] := List.getElem?_eq_getElem la
    have gb : qs[b]? = some qs[b] := List.getElem?_eq_getElem lb
    generalize qs[a] = qa at ga
    generalize qs[b] = qb at gb
    have ia : atI (qs.map V.ref) t.1 = some (.ref qa) := by rw [ea]; exact atI_nat (by rw [List.getElem?_map, ga]; rfl)
    have ib : atI (qs.map V.ref) t.2 = some (.ref qb) := by rw [eb]; exact atI_nat (by rw [List.getElem?_map, gb]; rfl)
    have e1 : H qa = some (.lst ((nearL ts t.1).map V.int)) := by rw [ea]; exact hq a qa ga
    have e2 : H qb = some (.lst ((nearL ts t.2).map V.int)) := by rw [eb]; exact hq b qb gb
    have l1 := nearL_len ts t.1
    have l2 := nearL_len ts t.2
    refine ⟨_, rfl, _, rfl, D, _, _, _, rfl, rfl, SqL.of eD, ia, qa, rfl, ⟨_, SqL.of e1⟩, fun E1 nE1 => ?_⟩
    refine wk (walk_list (K := K) (a := qa) (xs := (nearL ts t.1).map V.int)) (fun i H1 => ∃ ws, Same H H1 ∧ H1 E1 = some (.lst ws) ∧ Ties H1 ws (endsL ts t.1 t.2 ((nearL ts t.1).take i))) ⟨[], same_new nE1, upd_same, by exact trivial⟩ ?_ ?_ ?_
    · rintro i H1 _ ⟨_, sm, _⟩
      exact SqL.of (sm _ _ e1)
    · rintro i x H1 H2 hi ⟨ws, sm, eE, hV⟩ ⟨rfl, hx⟩
      rw [List.getElem?_map] at hx
      obtain ⟨c, hc, rfl⟩ := Option.map_eq_some_iff.mp hx
      have st := endsL_step ts t.1 t.2 ((nearL ts t.1).take i) c
      rw [show (nearL ts t.1).take i ++ [c] = (nearL ts t.1).take (i + 1) from by rw [List.take_add_one, hc]; rfl] at st
      have wl := hV.len
      have wl2 := endsL_len ts t.1 t.2 ((nearL ts t.1).take i)
      rw [List.length_take] at wl2
      refine ⟨rfl, ?_⟩
      refine ⟨_, rfl, _, rfl, rfl, _, rfl, ?_⟩
      rw [neI]
      by_cases h1 : c = t.2
      · rw [decide_eq_true h1]
        refine iteF (iteF ⟨ws, sm, eE, ?_⟩)
        rw [st, if_neg (by unfold tE; rw [decide_eq_true h1]; exact Bool.false_ne_true), List.append_nil]; exact hV
      · rw [decide_eq_false h1]
        refine iteT ⟨_, rfl, _, rfl, _, rfl, D, _, _, _, rfl, rfl, SqL.of (sm _ _ eD), ib, qb, _, rfl, .inl (SqL.of (sm _ _ e2)), rfl, all_flat _, _, rfl, ?_⟩
        rw [inV_int]
        by_cases h2 : c ∈ nearL ts t.2
        · rw [decide_eq_true h2]
          refine iteF ⟨ws, sm, eE, ?_⟩
          rw [st, if_neg (by unfold tE; rw [decide_eq_true h2, Bool.not_true, Bool.and_false]; exact Bool.false_ne_true), List.append_nil]; exact hV
        · rw [decide_eq_false h2]
          refine iteT ⟨_, rfl, _, rfl, by show 2 ≤ sizeLine; decide, fun k nk => ?_⟩
          have sk := same_new (o := .tup [.int t.1, .int c]) nk
          have e3 := sk _ _ eE
          refine ⟨ws, e3, sz' (by omega), ws ++ [.ref k], Same.put (sm.trans sk) nE1, upd_same, ?_⟩
          rw [st, if_pos (by unfold tE; rw [decide_eq_false h1, decide_eq_false h2]; rfl)]
          exact Ties.mono (tst_put e3) ((hV.mono (Same.tst sk)).app (Ties.one Tie.new))
    · rintro H1 ⟨ws, sm, eE, hV⟩
      rw [List.length_map, List.take_length] at hV
      have wl := hV.len
      have wl2 := endsL_len ts t.1 t.2 (nearL ts t.1)
      refine ⟨_, rfl, _, rfl, D, _, _, _, rfl, rfl, SqL.of (sm _ _ eD), ib, qb, rfl, ⟨_, SqL.of (sm _ _ e2)⟩, fun E2 nE2 => ?_⟩
      refine wk (walk_list (K := K) (a := qb) (xs := (nearL ts t.2).map V.int)) (fun i H2 => ∃ us, Same H1 H2 ∧ H2 E2 = some (.lst us) ∧ Ties H2 us (begL ts t.1 t.2 ((nearL ts t.2).take i))) ⟨[], same_new nE2, upd_same, by exact trivial⟩ ?_ ?_ ?_
      · rintro i H2 _ ⟨_, s2, _⟩
        exact SqL.of (s2 _ _ (sm _ _ e2))
      · rintro i x H2 H3 hi ⟨us, s2, eE2, hU⟩ ⟨rfl, hx⟩
        rw [List.getElem?_map] at hx
        obtain ⟨c, hc, rfl⟩ := Option.map_eq_some_iff.mp hx
        have st := begL_step ts t.1 t.2 ((nearL ts t.2).take i) c
        rw [show (nearL ts t.2).take i ++ [c] = (nearL ts t.2).take (i + 1) from by rw [List.take_add_one, hc]; rfl] at st
        have ul := hU.len
        have ul2 := begL_len ts t.1 t.2 ((nearL ts t.2).take i)
        rw [List.length_take] at ul2
        have sA := sm.trans s2
        refine ⟨rfl, ?_⟩
        refine ⟨_, rfl, _, rfl, rfl, _, rfl, ?_⟩
        rw [neI]
        by_cases h1 : c = t.1
        · rw [decide_eq_true h1]
          refine iteF (iteF ⟨us, s2, eE2, ?_⟩)
          rw [st, if_neg (by unfold tE; rw [decide_eq_true h1]; exact Bool.false_ne_true), List.append_nil]; exact hU
        · rw [decide_eq_false h1]
          refine iteT ⟨_, rfl, _, rfl, _, rfl, D, _, _, _, rfl, rfl, SqL.of (sA _ _ eD), ia, qa, _, rfl, .inl (SqL.of (sA _ _ e1)), rfl, all_flat _, _, rfl, ?_⟩
          rw [inV_int]
          by_cases h2 : c ∈ nearL ts t.1
          · rw [decide_eq_true h2]
            refine iteF ⟨us, s2, eE2, ?_⟩
            rw [st, if_neg (by unfold tE; rw [decide_eq_true h2, Bool.not_true, Bool.and_false]; exact Bool.false_ne_true), List.append_nil]; exact hU
          · rw [decide_eq_false h2]
            refine iteT ⟨_, rfl, _, rfl, by show 2 ≤ sizeLine; decide, fun k nk => ?_⟩
            have sk := same_new (o := .tup [.int c, .int t.2]) nk
            have e3 := sk _ _ eE2
            refine ⟨us, e3, sz' (by omega), us ++ [.ref k], Same.put (s2.trans sk) nE2, upd_same, ?_⟩
            rw [st, if_pos (by unfold tE; rw [decide_eq_false h1, decide_eq_false h2]; rfl)]
            exact Ties.mono (tst_put e3) ((hU.mono (Same.tst sk)).app (Ties.one Tie.new))
      · rintro H2 ⟨us, s2, eE2, hU⟩
        rw [List.length_map, List.take_length] at hU
        have ul := hU.len
        have ul2 := begL_len ts t.1 t.2 (nearL ts t.2)
        refine ⟨_, rfl, _, rfl, E1, E2, ws, us, rfl, rfl, s2 _ _ eE, eE2, sz (by omega), fun O nO => ?_⟩
        have sO := same_new (o := .lst (ws ++ us)) nO
        have hC : Ties (upd H2 O (.lst (ws ++ us))) (ws ++ us) (fbL ts t) := ((hV.mono (Same.tst s2)).mono (Same.tst sO)).app (hU.mono (Same.tst sO))
        refine ⟨O, ws ++ us, My.key (upd H2 O (.lst (ws ++ us))), rfl, SqL.of upd_same, hC.all, fun ys y hs hst ny => ?_⟩
        obtain ⟨fs, hT', pm', pw⟩ := srt_ties hs hst.perm hC
        have ef := fb_eq hW hR pm' pw
        subst ef
        have sy := same_new (H := upd H2 O (.lst (ws ++ us))) (o := .lst ys) ny
        have sA := ((sm.trans s2).trans sO)
        exact q y ys _ (same_free sA ny) (sA.trans sy) upd_same (hT'.mono (Same.tst sy))
end
end My

set_option Elab.async false
set_option linter.all false
set_option maxRecDepth 100000
namespace My
open PySem PySem.Spec PyProof.Rows L2 GxR
section
variable {P : Program} {w : World} {K : PySem.W.Frag} {mg : Str → Option Value} {base : Heap}
end
end My

set_option Elab.async false
set_option linter.all false
set_option maxRecDepth 100000
namespace My
open PySem PySem.Spec PyProof.Rows L2 GxR
theorem valV_keys {o : Ar} : ∀ {ms : List (List Key × V)} {cs : List Ar}, ms.map (·.1) = cs.map pk → (valV ms (pk o)).isSome = decide (o ∈ cs)
  | [], [], _ => rfl
  | [], _ :: _, h => by cases h
  | _ :: _, [], h => by cases h
  | m :: ms, c :: cs, h => by
    rw [List.map_cons, List.map_cons] at h
    have h1 : m.1 = pk c := (List.cons.inj h).1
    have ih := valV_keys (o := o) (List.cons.inj h).2
    by_cases e : c = o
    · subst e
      rw [valV_pos h1]
      exact (decide_eq_true List.mem_cons_self).symm
    · rw [valV_neg (fun z => e (pk_inj (h1.symm.trans z))), ih]
      refine decide_eq_decide.mpr ?_
      rw [List.mem_cons]
      exact ⟨.inr, fun z => z.elim (fun z => absurd z.symm e) id⟩
theorem keys_put {ms : List (List Key × V)} {cs : List Ar} {o : Ar} {v : V} (h : ms.map (·.1) = cs.map pk) (hn : ¬ o ∈ cs) : (putK ms (pk o) v).map (·.1) = (cs ++ [o]).map pk := by
  have e : (ms.any fun kv => decide (kv.1 = pk o)) = false := by
    rw [valV_any, valV_keys h]; exact decide_eq_false hn
  unfold putK
  rw [e]
  show (ms ++ [(pk o, v)]).map (·.1) = _
  rw [List.map_append, List.map_append, h]; rfl
theorem Ties.dropLast {H : Hp} : ∀ {vs : List V} {ts : List Ar}, Ties H vs ts → Ties H vs.dropLast ts.dropLast
  | [], [], _ => trivial
  | [_], [_], _ => trivial
  | _ :: _ :: _, _ :: _ :: _, h => ⟨h.1, Ties.dropLast h.2⟩
  | [], _ :: _, h => h.elim
  | _ :: _, [], h => h.elim
  | [_], _ :: _ :: _, h => h.2.elim
  | _ :: _ :: _, [_], h => h.2.elim
theorem comeR_ok {n : Nat} {ts : List Ar} : ∀ (k : Nat) {fw : List Ar × List Ar}, GrowI n fw → (comeR n ts k fw).Nodup ∧ ∀ t ∈ comeR n ts k fw, InR n t
  | 0, fw, h => ⟨h.nd, h.rng⟩
  | k + 1, fw, h => by
    unfold comeR
    cases e : fw.2.getLast? with
    | none => exact ⟨h.nd, h.rng⟩
    | some x =>
      have hx : InR n x := h.sub x (List.mem_of_getLast? e)
      exact comeR_ok k (grow_all (fs := frcS n ts x) (fw := (fw.1, fw.2.dropLast)) ⟨h.nd, h.rng, fun t ht => h.sub t ((List.dropLast_sublist _).subset ht)⟩ fun t ht => frc_rng hx ((mem_frcS hx).mp ht)).1
theorem growI_one {n : Nat} {t : Ar} (h : InR n t) : GrowI n ([t], [t]) :=
  ⟨List.nodup_cons.mpr ⟨List.not_mem_nil, List.nodup_nil⟩, fun s hs => by rw [List.mem_singleton.mp hs]; exact h, fun s hs => by rw [List.mem_singleton.mp hs]; exact h⟩
theorem come_ok {n : Nat} {ts : List Ar} {t : Ar} (h : InR n t) : (comeF n ts t).Nodup ∧ ∀ x ∈ comeF n ts t, InR n x := comeR_ok _ (growI_one h)
theorem eqv_nil (wl : List Ar) : PyData.eqv (.list (wl.map dT)) (.list []) = decide (wl = []) := by
  cases wl with
  | nil => rfl
  | cons a l => rfl
section
variable {P : Program} {w : World} {K : PySem.W.Frag} {mg : Str → Option Value} {base : Heap}
end
end My

set_option Elab.async false
set_option linter.all false
set_option maxRecDepth 100000
namespace My
open PySem PySem.Spec PyProof.Rows L2 GxR
theorem joinA_merge {kvs ms : List (List Key × V)} {C D : List Ar} (h : JoinA kvs C) (k : ms.map (·.1) = D.map pk) : JoinA (mergeT kvs ms) (C ++ D) := fun o => by
  rw [valV_mergeT, h o, valV_keys k, Bool.or_comm]
  by_cases a : o ∈ C <;> by_cases b : o ∈ D <;> simp [a, b]
theorem inR_of {n : Nat} {ts : List Ar} (hw : WOk n ts) {t : Ar} (h : t ∈ ts) : InR n t := by
  have := hw.2 t h
  exact ⟨this.1, by omega, by omega, this.2.2⟩
section
variable {P : Program} {w : World} {K : PySem.W.Frag} {mg : Str → Option Value} {base : Heap}
end
end My

set_option Elab.async false
set_option linter.all false
set_option maxRecDepth 100000
namespace My
open PySem PySem.Spec PyProof.Rows L2 GxR

/-! ### where forcings lead -/
inductive Rch (n : Nat) (ts : List Ar) (t : Ar) : Ar → Prop
  | refl : Rch n ts t t
  | step {x y : Ar} : Rch n ts t x → y ∈ frcS n ts x → Rch n ts t y
theorem Rch.trans {n : Nat} {ts : List Ar} {a b c : Ar} (h : Rch n ts a b) (k : Rch n ts b c) : Rch n ts a c := by
  induction k with
  | refl => exact h
  | step _ m ih => exact .step ih m
theorem Rch.inR {n : Nat} {ts : List Ar} {a b : Ar} (ha : InR n a) (h : Rch n ts a b) : InR n b := by
  induction h with
  | refl => exact ha
  | step _ m ih => exact frc_rng ih ((mem_frcS ih).mp m)
theorem Rch.ar {n : Nat} {ts : List Ar} {a b : Ar} (ha : a ∈ arS n ts) (h : Rch n ts a b) : b ∈ arS n ts := by
  induction h with
  | refl => exact ha
  | step _ m ih => exact frcS_ar (arS_inR ih) m
theorem arS_nr {n : Nat} {ts : List Ar} {x : Ar} (h : x ∈ arS n ts) : nrB ts x.1 x.2 = true := (List.mem_filter.mp h).2
theorem frcS_symm {n : Nat} {ts : List Ar} {x y : Ar} (hx : x ∈ arS n ts) (h : y ∈ frcS n ts x) : x ∈ frcS n ts y := by
  have hR := arS_inR hx
  have hL := (mem_frcS hR).mp h
  exact (mem_frcS (frc_rng hR hL)).mpr (frc_symm hR (arS_nr hx) hL)
theorem Rch.symm {n : Nat} {ts : List Ar} {a b : Ar} (ha : a ∈ arS n ts) (h : Rch n ts a b) : Rch n ts b a := by
  induction h with
  | refl => exact .refl
  | step k m ih => exact Rch.trans (.step .refl (frcS_symm (k.ar ha) m)) ih
theorem inR_sw {n : Nat} {t : Ar} (h : InR n t) : InR n (sw t) := ⟨h.2.2.1, h.2.2.2, h.1, h.2.1⟩
theorem Rch.sw {n : Nat} {ts : List Ar} {a b : Ar} (ha : InR n a) (h : Rch n ts a b) : Rch n ts (sw a) (sw b) := by
  induction h with
  | refl => exact .refl
  | step k m ih =>
    have hx := k.inR ha
    refine .step ih ((mem_frcS (inR_sw hx)).mpr (frc_sw.mpr ?_))
    exact (mem_frcS hx).mp m
theorem Rch.closed {n : Nat} {ts : List Ar} {a b : Ar} {P : Ar → Prop} (h0 : P a) (hc : ∀ x, P x → ∀ y ∈ frcS n ts x, P y) (h : Rch n ts a b) : P b := by
  induction h with
  | refl => exact h0
  | step _ m ih => exact hc _ ih _ m
/-! ### what the law's own going on finds -/
theorem grow_mem {fs : List Ar} : ∀ {fw : List Ar × List Ar}, (∀ x ∈ fw.1, x ∈ (grow fs fw).1) ∧ (∀ x ∈ fs, x ∈ (grow fs fw).1) ∧ (∀ x ∈ fw.2, x ∈ (grow fs fw).2) ∧ (∀ x ∈ (grow fs fw).1, x ∈ fw.1 ∨ (x ∈ fs ∧ x ∈ (grow fs fw).2)) ∧ (∀ x ∈ (grow fs fw).2, x ∈ fw.2 ∨ x ∈ (grow fs fw).1) := by
  induction fs with
  | nil => exact fun {fw} => ⟨fun _ h => h, fun _ h => absurd h List.not_mem_nil, fun _ h => h, fun _ h => .inl h, fun _ h => .inl h⟩
  | cons o fs ih =>
    intro fw
    by_cases hm : o ∈ fw.1
    · have e : grow (o :: fs) fw = grow fs fw := by
        show grow fs (if o ∈ fw.1 then fw else _) = _
        rw [if_pos hm]
      obtain ⟨i1, i2, i3, i4, i5⟩ := ih (fw := fw)
      rw [e]
      refine ⟨i1, fun x hx => ?_, i3, fun x hx => (i4 x hx).imp id fun z => ⟨List.mem_cons_of_mem _ z.1, z.2⟩, i5⟩
      rcases List.mem_cons.mp hx with rfl | hx
      · exact i1 _ hm
      · exact i2 x hx
    · have e : grow (o :: fs) fw = grow fs (fw.1 ++ [o], fw.2 ++ [o]) := by
        show grow fs (if o ∈ fw.1 then fw else _) = _
        rw [if_neg hm]
      obtain ⟨i1, i2, i3, i4, i5⟩ := ih (fw := (fw.1 ++ [o], fw.2 ++ [o]))
      rw [e]
      refine ⟨fun x hx => i1 x (List.mem_append_left _ hx), fun x hx => ?_, fun x hx => i3 x (List.mem_append_left _ hx), fun x hx => ?_, fun x hx => ?_⟩
      · rcases List.mem_cons.mp hx with rfl | hx
        · exact i1 _ (List.mem_append_right _ (List.mem_singleton.mpr rfl))
        · exact i2 x hx
      · rcases i4 x hx with z | z
        · rcases List.mem_append.mp z with z | z
          · exact .inl z
          · rw [List.mem_singleton.mp z]
            exact .inr ⟨List.mem_cons_self, i3 _ (List.mem_append_right _ (List.mem_singleton.mpr rfl))⟩
        · exact .inr ⟨List.mem_cons_of_mem _ z.1, z.2⟩
      · rcases i5 x hx with z | z
        · rcases List.mem_append.mp z with z | z
          · exact .inl z
          · rw [List.mem_singleton.mp z]
            exact .inr (i1 _ (List.mem_append_right _ (List.mem_singleton.mpr rfl)))
        · exact .inr z
theorem come_run {n : Nat} {ts : List Ar} {t : Ar} : ∀ (m : Nat) (cs wl : List Ar), GrowI n (cs, wl) → (∀ x ∈ cs, Rch n ts t x) → (∀ x ∈ wl, x ∈ cs) → (∀ x ∈ cs, x ∉ wl → ∀ y ∈ frcS n ts x, y ∈ cs) → 2 * (n * n - cs.length) + wl.length ≤ m →
    (∀ x ∈ cs, x ∈ comeR n ts m (cs, wl)) ∧ (∀ x ∈ comeR n ts m (cs, wl), Rch n ts t x) ∧ ∀ x ∈ comeR n ts m (cs, wl), ∀ y ∈ frcS n ts x, y ∈ comeR n ts m (cs, wl)
  | 0, cs, wl, gi, hr, hs, hc, hm => by
    have e : wl = [] := List.length_eq_zero_iff.mp (by omega)
    subst e
    exact ⟨fun x h => h, hr, fun x h => hc x h List.not_mem_nil⟩
  | m + 1, cs, wl, gi, hr, hs, hc, hm => by
    unfold comeR
    dsimp only
    cases e : wl.getLast? with
    | none =>
      have e' := List.getLast?_eq_none_iff.mp e
      subst e'
      exact ⟨fun x h => h, hr, fun x h => hc x h List.not_mem_nil⟩
    | some o =>
      dsimp only
      have om := List.mem_of_getLast? e
      have oR : InR n o := gi.sub o om
      have fr : ∀ z ∈ frcS n ts o, InR n z := fun z hz => frc_rng oR ((mem_frcS oR).mp hz)
      have gi0 : GrowI n (cs, wl.dropLast) := ⟨gi.nd, gi.rng, fun t ht => gi.sub t ((List.dropLast_sublist _).subset ht)⟩
      obtain ⟨gi1, k, l1, l2⟩ := grow_all (fs := frcS n ts o) gi0 fr
      obtain ⟨m1, m2, m3, m4, m5⟩ := grow_mem (fs := frcS n ts o) (fw := (cs, wl.dropLast))
      have wpos : 0 < wl.length := List.length_pos_iff.mpr (fun z => by rw [z] at om; exact List.not_mem_nil om)
      have wd : wl.dropLast.length = wl.length - 1 := List.length_dropLast
      have cl := cs_len gi1.nd gi1.rng
      have ew : wl = wl.dropLast ++ [o] := by
        have ne : wl ≠ [] := fun z => by rw [z] at om; exact List.not_mem_nil om
        rw [List.getLast?_eq_some_getLast ne] at e
        have := List.dropLast_concat_getLast ne
        rw [Option.some.inj e] at this
        exact this.symm
      have r := come_run (n := n) (ts := ts) (t := t) m (grow (frcS n ts o) (cs, wl.dropLast)).1 (grow (frcS n ts o) (cs, wl.dropLast)).2 gi1 (fun x hx => ?_) (fun x hx => ?_) (fun x hx nx y hy => ?_) (by dsimp only at l1 l2; omega)
      · exact ⟨fun x h => r.1 x (m1 x h), r.2.1, r.2.2⟩
      · rcases m4 x hx with z | z
        · exact hr x z
        · exact .step (hr o (hs o om)) z.1
      · rcases m5 x hx with z | z
        · exact m1 x (hs x ((List.dropLast_sublist _).subset z))
        · exact z
      · by_cases hxo : x = o
        · subst hxo
          exact m2 y hy
        · rcases m4 x hx with z | z
          · refine m1 y (hc x z (fun w => ?_) y hy)
            rw [ew] at w
            rcases List.mem_append.mp w with w | w
            · exact nx (m3 x w)
            · exact hxo (List.mem_singleton.mp w)
          · exact absurd z.2 nx
theorem mem_come {n : Nat} {ts : List Ar} {t x : Ar} (ht : InR n t) : x ∈ comeF n ts t ↔ Rch n ts t x := by
  have r := come_run (n := n) (ts := ts) (t := t) (2 * (n * n) + 1) [t] [t] (growI_one ht) (fun y hy => by rw [List.mem_singleton.mp hy]; exact .refl) (fun y hy => hy) (fun y hy ny => absurd hy ny) (by show 2 * (n * n - 1) + 1 ≤ _; omega)
  exact ⟨r.2.1 x, fun h => h.closed (P := fun x => x ∈ comeF n ts t) (r.1 t (List.mem_singleton.mpr rfl)) r.2.2⟩
/-- a class, rising -/
def clsS (n : Nat) (ts : List Ar) (t : Ar) : List Ar := (allP n).filter fun x => decide (x ∈ comeF n ts t)
theorem clsS_pw (n : Nat) (ts : List Ar) (t : Ar) : (clsS n ts t).Pairwise ltT := (allP_pw n).sublist List.filter_sublist
theorem mem_cls {n : Nat} {ts : List Ar} {t x : Ar} (ht : InR n t) : x ∈ clsS n ts t ↔ Rch n ts t x := by
  unfold clsS
  rw [List.mem_filter, decide_eq_true_eq, mem_allP, mem_come ht]
  exact ⟨fun h => h.2, fun h => ⟨h.inR ht, h⟩⟩
theorem clsS_len {n : Nat} {ts : List Ar} {t : Ar} : (clsS n ts t).length ≤ n * n := by
  rw [← allP_len n]; exact List.length_filter_le _ _
theorem cls_eq {n : Nat} {ts l fs : List Ar} {t : Ar} (ht : InR n t) (hp : fs.Perm l) (nd : l.Nodup) (hs : fs.Pairwise (fun s t => ¬ ltT t s)) (hm : ∀ x, x ∈ l ↔ Rch n ts t x) : fs = clsS n ts t :=
  srt_eq hp nd hs (clsS_pw n ts t) fun x => (hm x).trans (mem_cls ht).symm
theorem cls_ext {n : Nat} {ts : List Ar} {s t : Ar} (hs : s ∈ arS n ts) (h : Rch n ts s t) : clsS n ts t = clsS n ts s := by
  refine pw_eq (clsS_pw n ts t) (clsS_pw n ts s) fun x => ?_
  rw [mem_cls (h.inR (arS_inR hs)), mem_cls (arS_inR hs)]
  exact ⟨fun k => h.trans k, fun k => (h.symm hs).trans k⟩
theorem cls_sw {n : Nat} {ts fs : List Ar} {t : Ar} (ht : InR n t) (hp : fs.Perm ((clsS n ts t).map sw)) (hs : fs.Pairwise (fun s t => ¬ ltT t s)) : fs = clsS n ts (sw t) := by
  refine cls_eq (inR_sw ht) hp ?_ hs fun x => ?_
  · rw [List.nodup_iff_pairwise_ne, List.pairwise_map]
    refine (List.nodup_iff_pairwise_ne.mp (nd_pw (clsS_pw n ts t))).imp fun {s t} h e => h ?_
    rw [← sw_sw s, e, sw_sw]
  · rw [List.mem_map]
    constructor
    · rintro ⟨y, hy, rfl⟩
      exact ((mem_cls ht).mp hy).sw ht
    · intro h
      exact ⟨sw x, (mem_cls ht).mpr (by have := h.sw (inR_sw ht); exact this), rfl⟩
/-! ### steps, level by level -/
abbrev SN := List (Ar × Nat)
def lay (c : Nat) (fs : List Ar) (SF : SN × List Ar) : SN × List Ar := fs.foldl (fun SF o => if o ∈ SF.1.map (·.1) then SF else (SF.1 ++ [(o, c + 1)], SF.2 ++ [o])) SF
theorem lay_step (c : Nat) (fs : List Ar) (o : Ar) (SF : SN × List Ar) : lay c (fs ++ [o]) SF = if o ∈ (lay c fs SF).1.map (·.1) then lay c fs SF else ((lay c fs SF).1 ++ [(o, c + 1)], (lay c fs SF).2 ++ [o]) := by
  unfold lay; rw [List.foldl_append]; rfl
def lvl (n : Nat) (ts : List Ar) (c : Nat) (news : List Ar) (SF : SN × List Ar) : SN × List Ar := news.foldl (fun SF one => lay c (frcS n ts one) SF) SF
theorem lvl_step (n : Nat) (ts : List Ar) (c : Nat) (news : List Ar) (one : Ar) (SF : SN × List Ar) : lvl n ts c (news ++ [one]) SF = lay c (frcS n ts one) (lvl n ts c news SF) := by
  unfold lvl; rw [List.foldl_append]; rfl
def bfsR (n : Nat) (ts : List Ar) : Nat → Nat → SN × List Ar → SN
  | 0, _, SW => SW.1
  | k + 1, c, SW => match SW.2 with
    | [] => SW.1
    | _ :: _ => bfsR n ts k (c + 1) (lvl n ts c SW.2 (SW.1, []))
def stepsF (n : Nat) (ts : List Ar) (t : Ar) : SN := bfsR n ts (2 * (n * n) + 1) 0 ([(t, 0)], [t])
theorem bfsR_nil (n : Nat) (ts : List Ar) (c : Nat) (S : SN) : ∀ k, bfsR n ts k c (S, []) = S
  | 0 => rfl
  | _ + 1 => rfl
/-- what a layer adds -/
structure Adds (c : Nat) (S : SN) (F : List Ar) (R : SN × List Ar) (Q : Ar → Prop) (xs : List Ar) : Prop where
  eq : R = (S ++ xs.map fun x => (x, c + 1), F ++ xs)
  new : ∀ x ∈ xs, Q x ∧ x ∉ S.map (·.1)
  nd : (S.map (·.1)).Nodup → (S.map (·.1) ++ xs).Nodup
theorem keysA (c : Nat) (S : SN) (xs : List Ar) : (S ++ xs.map fun x => (x, c + 1)).map (·.1) = S.map (·.1) ++ xs := by
  rw [List.map_append, List.map_map]
  congr 1
  exact (List.map_congr_left fun _ _ => rfl).trans (List.map_id xs)
theorem nd_add {l : List Ar} {o : Ar} (h : l.Nodup) (n : o ∉ l) : (l ++ [o]).Nodup := by
  rw [List.nodup_append]
  refine ⟨h, List.nodup_cons.mpr ⟨List.not_mem_nil, List.nodup_nil⟩, fun a ha b hb e => ?_⟩
  rw [List.mem_singleton.mp hb] at e
  subst e; exact n ha
theorem lay_adds (c : Nat) : ∀ (fs : List Ar) (S : SN) (F : List Ar), ∃ xs, Adds c S F (lay c fs (S, F)) (fun x => x ∈ fs) xs ∧ ∀ o ∈ fs, o ∈ S.map (·.1) ∨ o ∈ xs
  | [], S, F => ⟨[], ⟨by show (S, F) = _; rw [List.map_nil, List.append_nil, List.append_nil], fun _ h => absurd h List.not_mem_nil, fun h => by rw [List.append_nil]; exact h⟩, fun _ h => absurd h List.not_mem_nil⟩
  | o :: fs, S, F => by
    by_cases hm : o ∈ S.map (·.1)
    · obtain ⟨xs, ⟨e, nw, nd⟩, al⟩ := lay_adds c fs S F
      refine ⟨xs, ⟨?_, fun x hx => ⟨List.mem_cons_of_mem _ (nw x hx).1, (nw x hx).2⟩, nd⟩, fun z hz => ?_⟩
      · rw [← e]
        show lay c fs (if o ∈ S.map (·.1) then (S, F) else _) = _
        rw [if_pos hm]
      · rcases List.mem_cons.mp hz with rfl | hz
        · exact .inl hm
        · exact al z hz
    · obtain ⟨xs, ⟨e, nw, nd⟩, al⟩ := lay_adds c fs (S ++ [(o, c + 1)]) (F ++ [o])
      have ek : (S ++ [(o, c + 1)]).map (·.1) = S.map (·.1) ++ [o] := by rw [List.map_append]; rfl
      rw [ek] at nw nd al
      refine ⟨o :: xs, ⟨?_, fun x hx => ?_, fun h => ?_⟩, fun z hz => ?_⟩
      · have e2 : lay c (o :: fs) (S, F) = lay c fs (S ++ [(o, c + 1)], F ++ [o]) := by
          show lay c fs (if o ∈ S.map (·.1) then (S, F) else _) = _
          rw [if_neg hm]
        rw [e2, e, List.map_cons, List.append_assoc, List.append_assoc]; rfl
      · rcases List.mem_cons.mp hx with rfl | hx
        · exact ⟨List.mem_cons_self, hm⟩
        · exact ⟨List.mem_cons_of_mem _ (nw x hx).1, fun z => (nw x hx).2 (List.mem_append_left _ z)⟩
      · have := nd (nd_add h hm)
        rwa [List.append_assoc] at this
      · rcases List.mem_cons.mp hz with rfl | hz
        · exact .inr List.mem_cons_self
        · rcases al z hz with w | w
          · rcases List.mem_append.mp w with w | w
            · exact .inl w
            · rw [List.mem_singleton.mp w]; exact .inr List.mem_cons_self
          · exact .inr (List.mem_cons_of_mem _ w)
theorem lvl_adds (n : Nat) (ts : List Ar) (c : Nat) : ∀ (news : List Ar) (S : SN) (F : List Ar), ∃ xs, Adds c S F (lvl n ts c news (S, F)) (fun x => ∃ one ∈ news, x ∈ frcS n ts one) xs ∧ ∀ one ∈ news, ∀ o ∈ frcS n ts one, o ∈ S.map (·.1) ∨ o ∈ xs
  | [], S, F => ⟨[], ⟨by show (S, F) = _; rw [List.map_nil, List.append_nil, List.append_nil], fun _ h => absurd h List.not_mem_nil, fun h => by rw [List.append_nil]; exact h⟩, fun _ h => absurd h List.not_mem_nil⟩
  | one :: news, S, F => by
    obtain ⟨xs, ⟨e, nw, nd⟩, al⟩ := lay_adds c (frcS n ts one) S F
    obtain ⟨ys, ⟨e2, nw2, nd2⟩, al2⟩ := lvl_adds n ts c news (S ++ xs.map fun x => (x, c + 1)) (F ++ xs)
    rw [keysA] at nw2 nd2 al2
    refine ⟨xs ++ ys, ⟨?_, fun x hx => ?_, fun h => ?_⟩, fun a ha o ho => ?_⟩
    · show lvl n ts c news (lay c (frcS n ts one) (S, F)) = _
      rw [e, e2, List.map_append, List.append_assoc, List.append_assoc]
    · rcases List.mem_append.mp hx with hx | hx
      · exact ⟨⟨one, List.mem_cons_self, (nw x hx).1⟩, (nw x hx).2⟩
      · obtain ⟨⟨a, ha, h1⟩, h2⟩ := nw2 x hx
        exact ⟨⟨a, List.mem_cons_of_mem _ ha, h1⟩, fun z => h2 (List.mem_append_left _ z)⟩
    · have := nd2 (nd h)
      rwa [List.append_assoc] at this
    · rcases List.mem_cons.mp ha with rfl | ha
      · rcases al o ho with z | z
        · exact .inl z
        · exact .inr (List.mem_append_left _ z)
      · rcases al2 a ha o ho with z | z
        · rcases List.mem_append.mp z with z | z
          · exact .inl z
          · exact .inr (List.mem_append_left _ z)
        · exact .inr (List.mem_append_right _ z)
structure BInv (n : Nat) (ts : List Ar) (t : Ar) (c : Nat) (S : SN) (W : List Ar) : Prop where
  nd : (S.map (·.1)).Nodup
  rch : ∀ p ∈ S, Rch n ts t p.1
  low : ∀ p ∈ S, p.2 ≤ c
  cur : ∀ x ∈ W, (x, c) ∈ S
  top : ∀ p ∈ S, p.2 = c → p.1 ∈ W
  cls : ∀ p ∈ S, p.2 < c → ∀ y ∈ frcS n ts p.1, y ∈ S.map (·.1)
  ori : (t, 0) ∈ S
  zer : ∀ p ∈ S, p.2 = 0 → p.1 = t
  pre : ∀ p ∈ S, 0 < p.2 → ∃ q ∈ S, q.2 + 1 = p.2 ∧ p.1 ∈ frcS n ts q.1
theorem binv_one (n : Nat) (ts : List Ar) (t : Ar) : BInv n ts t 0 [(t, 0)] [t] := by
  refine ⟨List.nodup_cons.mpr ⟨List.not_mem_nil, List.nodup_nil⟩, fun p hp => ?_, fun p hp => ?_, fun x hx => ?_, fun p hp _ => ?_, fun p hp h => ?_, List.mem_singleton.mpr rfl, fun p hp _ => ?_, fun p hp h => ?_⟩
  · rw [List.mem_singleton.mp hp]; exact .refl
  · rw [List.mem_singleton.mp hp]; exact Nat.le_refl _
  · rw [List.mem_singleton.mp hx]; exact List.mem_singleton.mpr rfl
  · rw [List.mem_singleton.mp hp]; exact List.mem_singleton.mpr rfl
  · exact absurd h (Nat.not_lt_zero _)
  · rw [List.mem_singleton.mp hp]
  · rw [List.mem_singleton.mp hp] at h; exact absurd h (Nat.lt_irrefl _)
theorem binv_step {n : Nat} {ts : List Ar} {t : Ar} {c : Nat} {S : SN} {W : List Ar} (b : BInv n ts t c S W) : ∃ xs, lvl n ts c W (S, []) = (S ++ xs.map fun x => (x, c + 1), xs) ∧ BInv n ts t (c + 1) (S ++ xs.map fun x => (x, c + 1)) xs := by
  obtain ⟨xs, ⟨e, nw, nd⟩, al⟩ := lvl_adds n ts c W S []
  rw [List.nil_append] at e
  have inn : ∀ {p : Ar × Nat}, p ∈ S ++ xs.map (fun x => (x, c + 1)) → p ∈ S ∨ (p.1 ∈ xs ∧ p.2 = c + 1) := fun {p} hp => by
    rcases List.mem_append.mp hp with z | z
    · exact .inl z
    · obtain ⟨x, hx, rfl⟩ := List.mem_map.mp z
      exact .inr ⟨hx, rfl⟩
  have put : ∀ {x : Ar}, x ∈ xs → (x, c + 1) ∈ S ++ xs.map (fun x => (x, c + 1)) := fun hx => List.mem_append_right _ (List.mem_map.mpr ⟨_, hx, rfl⟩)
  refine ⟨xs, e, ?_, fun p hp => ?_, fun p hp => ?_, fun x hx => put hx, fun p hp h => ?_, fun p hp h y hy => ?_, List.mem_append_left _ b.ori, fun p hp h => ?_, fun p hp h => ?_⟩
  · rw [keysA]; exact nd b.nd
  · rcases inn hp with z | z
    · exact b.rch p z
    · obtain ⟨⟨one, ho, h1⟩, _⟩ := nw _ z.1
      exact .step (b.rch _ (b.cur one ho)) h1
  · rcases inn hp with z | z
    · exact Nat.le_succ_of_le (b.low p z)
    · exact Nat.le_of_eq z.2
  · rcases inn hp with z | z
    · have := b.low p z; omega
    · exact z.1
  · rw [keysA]
    rcases inn hp with z | z
    · by_cases hc : p.2 = c
      · rcases al p.1 (b.top p z hc) y hy with w | w
        · exact List.mem_append_left _ w
        · exact List.mem_append_right _ w
      · exact List.mem_append_left _ (b.cls p z (by have := b.low p z; omega) y hy)
    · omega
  · rcases inn hp with z | z
    · exact b.zer p z h
    · omega
  · rcases inn hp with z | z
    · obtain ⟨q, hq, h1, h2⟩ := b.pre p z h
      exact ⟨q, List.mem_append_left _ hq, h1, h2⟩
    · obtain ⟨⟨one, ho, h1⟩, _⟩ := nw _ z.1
      exact ⟨(one, c), List.mem_append_left _ (b.cur one ho), z.2.symm, h1⟩
theorem binv_len {n : Nat} {ts : List Ar} {t : Ar} {c : Nat} {S : SN} {W : List Ar} (ht : InR n t) (b : BInv n ts t c S W) : S.length ≤ n * n := by
  have := cs_len (n := n) b.nd fun x hx => by
    obtain ⟨p, hp, rfl⟩ := List.mem_map.mp hx
    exact (b.rch p hp).inR ht
  rwa [List.length_map] at this
theorem bfs_ok {n : Nat} {ts : List Ar} {t : Ar} (ht : InR n t) : ∀ (k c : Nat) (S : SN) (W : List Ar), BInv n ts t c S W → 2 * (n * n - S.length) + min W.length 1 ≤ k → ∃ c', BInv n ts t c' (bfsR n ts k c (S, W)) []
  | 0, c, S, W, b, h => by
    have e : W = [] := List.length_eq_zero_iff.mp (by omega)
    subst e; exact ⟨c, b⟩
  | k + 1, c, S, [], b, h => ⟨c, b⟩
  | k + 1, c, S, x :: W, b, h => by
    obtain ⟨xs, e, b2⟩ := binv_step b
    show ∃ c', BInv n ts t c' (bfsR n ts k (c + 1) (lvl n ts c (x :: W) (S, []))) []
    rw [e]
    refine bfs_ok ht k (c + 1) _ _ b2 ?_
    have l := binv_len ht b2
    rw [List.length_append, List.length_map] at l ⊢
    rw [List.length_cons] at h
    omega
theorem bfs_low {n : Nat} {ts : List Ar} {t : Ar} : ∀ (k c : Nat) (S : SN) (W : List Ar), BInv n ts t c S W → ∀ p ∈ bfsR n ts k c (S, W), p.2 ≤ c + k
  | 0, c, S, W, b, p, hp => b.low p hp
  | k + 1, c, S, [], b, p, hp => Nat.le_trans (b.low p hp) (Nat.le_add_right _ _)
  | k + 1, c, S, x :: W, b, p, hp => by
    obtain ⟨xs, e, b2⟩ := binv_step b
    have hp' : p ∈ bfsR n ts k (c + 1) (lvl n ts c (x :: W) (S, [])) := hp
    rw [e] at hp'
    have := bfs_low k (c + 1) _ _ b2 p hp'
    omega
theorem steps_ok {n : Nat} {ts : List Ar} {t : Ar} (ht : InR n t) : ∃ c, BInv n ts t c (stepsF n ts t) [] :=
  bfs_ok ht _ 0 _ _ (binv_one n ts t) (by show 2 * (n * n - 1) + 1 ≤ _; omega)
theorem mem_steps {n : Nat} {ts : List Ar} {t x : Ar} (ht : InR n t) : x ∈ (stepsF n ts t).map (·.1) ↔ Rch n ts t x := by
  obtain ⟨c, b⟩ := steps_ok (ts := ts) ht
  constructor
  · intro h
    obtain ⟨p, hp, rfl⟩ := List.mem_map.mp h
    exact b.rch p hp
  · intro h
    refine h.closed (P := fun x => x ∈ (stepsF n ts t).map (·.1)) (List.mem_map.mpr ⟨_, b.ori, rfl⟩) fun z hz y hy => ?_
    obtain ⟨p, hp, rfl⟩ := List.mem_map.mp hz
    refine b.cls p hp ?_ y hy
    rcases Nat.lt_or_ge p.2 c with z | z
    · exact z
    · exact absurd (b.top p hp (Nat.le_antisymm (b.low p hp) z)) List.not_mem_nil
theorem steps_nd {n : Nat} {ts : List Ar} {t : Ar} (ht : InR n t) : ((stepsF n ts t).map (·.1)).Nodup := (steps_ok (ts := ts) ht).elim fun _ b => b.nd
end My

set_option Elab.async false
set_option linter.all false
set_option maxRecDepth 100000
namespace My
open PySem PySem.Spec PyProof.Rows L2 GxR

/-! ### all classes, each by its least arrow -/
abbrev LL := List (List Ar)
def inAny (acc : LL) (x : Ar) : Bool := decide (x ∈ acc.flatten)
def clsL (n : Nat) (ts : List Ar) (l : List Ar) : LL := l.foldl (fun acc x => if inAny acc x = true then acc else acc ++ [clsS n ts x]) []
theorem clsL_step (n : Nat) (ts : List Ar) (l : List Ar) (x : Ar) : clsL n ts (l ++ [x]) = if inAny (clsL n ts l) x = true then clsL n ts l else clsL n ts l ++ [clsS n ts x] := by
  unfold clsL; rw [List.foldl_append]; rfl
def clsA (n : Nat) (ts : List Ar) : LL := clsL n ts (arS n ts)
theorem snoc_ind {α : Type} {P : List α → Prop} (h0 : P []) (hs : ∀ l x, P l → P (l ++ [x])) (l : List α) : P l := by
  have : ∀ m : List α, P m.reverse := fun m => by
    induction m with
    | nil => exact h0
    | cons a m ih => rw [List.reverse_cons]; exact hs _ _ ih
  have h := this l.reverse
  rwa [List.reverse_reverse] at h
theorem clsL_of {n : Nat} {ts l : List Ar} : ∀ c ∈ clsL n ts l, ∃ x ∈ l, c = clsS n ts x := by
  induction l using snoc_ind with
  | h0 => exact fun c h => absurd h List.not_mem_nil
  | hs l x ih =>
    intro c hc
    rw [clsL_step] at hc
    split at hc
    · obtain ⟨y, hy, e⟩ := ih c hc
      exact ⟨y, List.mem_append_left _ hy, e⟩
    · rcases List.mem_append.mp hc with z | z
      · obtain ⟨y, hy, e⟩ := ih c z
        exact ⟨y, List.mem_append_left _ hy, e⟩
      · exact ⟨x, List.mem_append_right _ (List.mem_singleton.mpr rfl), List.mem_singleton.mp z⟩
theorem clsL_len {n : Nat} {ts l : List Ar} : (clsL n ts l).length ≤ l.length := by
  induction l using snoc_ind with
  | h0 => exact Nat.le_refl _
  | hs l x ih =>
    rw [clsL_step, List.length_append]
    split
    · exact Nat.le_add_right_of_le ih
    · rw [List.length_append]
      exact Nat.add_le_add_right ih 1
theorem clsL_in {n : Nat} {ts l : List Ar} (hl : ∀ x ∈ l, x ∈ arS n ts) : ∀ x ∈ l, ∃ c ∈ clsL n ts l, x ∈ c := by
  induction l using snoc_ind with
  | h0 => exact fun c h => absurd h List.not_mem_nil
  | hs l x ih =>
    intro y hy
    have ih' := ih fun z hz => hl z (List.mem_append_left _ hz)
    have xA := hl x (List.mem_append_right _ (List.mem_singleton.mpr rfl))
    rw [clsL_step]
    split
    · rename_i hi
      rcases List.mem_append.mp hy with z | z
      · exact ih' y z
      · rw [List.mem_singleton.mp z]
        obtain ⟨c, hc, hx⟩ := List.mem_flatten.mp (of_decide_eq_true hi)
        exact ⟨c, hc, hx⟩
    · rcases List.mem_append.mp hy with z | z
      · obtain ⟨c, hc, h⟩ := ih' y z
        exact ⟨c, List.mem_append_left _ hc, h⟩
      · rw [List.mem_singleton.mp z]
        exact ⟨_, List.mem_append_right _ (List.mem_singleton.mpr rfl), (mem_cls (arS_inR xA)).mpr .refl⟩
theorem clsA_sw {n : Nat} {ts : List Ar} (hW : WOk n ts) {x : Ar} (hx : x ∈ arS n ts) : clsS n ts (sw x) ∈ clsA n ts := by
  have hs : sw x ∈ arS n ts := (mem_arS hW).mpr (((mem_arS hW).mp hx).symm)
  obtain ⟨c, hc, h⟩ := clsL_in (fun _ z => z) (sw x) hs
  obtain ⟨y, hy, rfl⟩ := clsL_of c hc
  have r := (mem_cls (arS_inR hy)).mp h
  rw [cls_ext hy r]; exact hc
theorem flat_add (acc : LL) (c : List Ar) : (acc ++ [c]).flatten = acc.flatten ++ c := by
  rw [List.flatten_append, List.flatten_cons, List.flatten_nil, List.append_nil]
theorem clsL_sum {n : Nat} {ts l : List Ar} : (clsL n ts l).flatten.length ≤ l.length * (n * n) := by
  induction l using snoc_ind with
  | h0 => exact Nat.zero_le _
  | hs l x ih =>
    rw [clsL_step, List.length_append]
    have e : [x].length = 1 := rfl
    rw [e, Nat.succ_mul]
    split
    · exact Nat.le_add_right_of_le ih
    · rw [flat_add, List.length_append]
      have := clsS_len (n := n) (ts := ts) (t := x)
      omega
end My

set_option Elab.async false
set_option linter.all false
set_option maxRecDepth 100000
namespace My
open PySem PySem.Spec PyProof.Rows L2 GxR

/-! ### ways, by the steps that are left -/
def dOf (S : SN) (x : Ar) : Nat := ((S.find? fun p => decide (p.1 = x)).map (·.2)).getD 0
theorem dOf_mem : ∀ {S : SN} {x : Ar} {c : Nat}, (S.map (·.1)).Nodup → (x, c) ∈ S → dOf S x = c
  | [], _, _, _, h => absurd h List.not_mem_nil
  | p :: S, x, c, nd, h => by
    rw [List.map_cons, List.nodup_cons] at nd
    unfold dOf
    rcases List.mem_cons.mp h with rfl | h
    · rw [List.find?_cons_of_pos (by simp)]; rfl
    · have ne : ¬ p.1 = x := fun e => nd.1 (by rw [e]; exact List.mem_map.mpr ⟨_, h, rfl⟩)
      rw [List.find?_cons_of_neg (by simpa using ne)]
      exact dOf_mem nd.2 h
theorem mem_dOf {S : SN} {x : Ar} (nd : (S.map (·.1)).Nodup) (h : x ∈ S.map (·.1)) : (x, dOf S x) ∈ S := by
  obtain ⟨p, hp, rfl⟩ := List.mem_map.mp h
  rw [dOf_mem nd (show (p.1, p.2) ∈ S from hp)]; exact hp
def lessL (S : SN) (x : Ar) (l : List Ar) : List Ar := l.filter fun y => decide (dOf S y < dOf S x)
theorem lessL_step (S : SN) (x : Ar) (l : List Ar) (y : Ar) : lessL S x (l ++ [y]) = lessL S x l ++ (if dOf S y < dOf S x then [y] else []) := by
  unfold lessL
  rw [List.filter_append]
  by_cases h : dOf S y < dOf S x
  · rw [if_pos h, List.filter_cons_of_pos (p := fun y => decide (dOf S y < dOf S x)) (decide_eq_true h)]; rfl
  · rw [if_neg h, List.filter_cons_of_neg (p := fun y => decide (dOf S y < dOf S x)) (by simpa using h)]; rfl
theorem lessL_len (S : SN) (x : Ar) (l : List Ar) : (lessL S x l).length ≤ l.length := List.length_filter_le _ _
def nxt (n : Nat) (ts : List Ar) (S : SN) (x : Ar) : Option Ar := (lessL S x (frcS n ts x)).head?
theorem nxt_min {n : Nat} {ts : List Ar} {S : SN} {x m : Ar} (h1 : m ∈ lessL S x (frcS n ts x)) (h2 : ∀ y ∈ lessL S x (frcS n ts x), ¬ ltT y m) : nxt n ts S x = some m := by
  unfold nxt
  have pw : (lessL S x (frcS n ts x)).Pairwise ltT := (frcS_pw n ts x).sublist List.filter_sublist
  generalize lessL S x (frcS n ts x) = l at *
  cases l with
  | nil => exact absurd h1 List.not_mem_nil
  | cons a l =>
    show some a = some m
    rcases List.mem_cons.mp h1 with rfl | h
    · rfl
    · exact absurd ((List.pairwise_cons.mp pw).1 m h) (h2 a List.mem_cons_self)
theorem nxt_some {n : Nat} {ts : List Ar} {S : SN} {x y : Ar} (h : nxt n ts S x = some y) : y ∈ frcS n ts x ∧ dOf S y < dOf S x := by
  have := List.mem_of_head? h
  obtain ⟨h1, h2⟩ := List.mem_filter.mp this
  exact ⟨h1, of_decide_eq_true h2⟩
def wayR (n : Nat) (ts : List Ar) (S : SN) : Nat → Ar → List Ar → List Ar
  | 0, _, acc => acc
  | k + 1, x, acc => if dOf S x = 0 then acc else match nxt n ts S x with
    | none => acc
    | some y => wayR n ts S k y (acc ++ [y])
def wayF (n : Nat) (ts : List Ar) (S : SN) (x : Ar) : List Ar := wayR n ts S (dOf S x + 1) x [x]
def wayO (n : Nat) (ts : List Ar) (one other : Ar) : Option (List Ar) := if one ∈ (stepsF n ts other).map (·.1) then some (wayF n ts (stepsF n ts other) one) else none
theorem wayR_end {n : Nat} {ts : List Ar} {S : SN} {k : Nat} {x : Ar} {acc : List Ar} (h : dOf S x = 0) : wayR n ts S k x acc = acc := by
  cases k with
  | zero => rfl
  | succ k => rw [wayR, if_pos h]
theorem wayR_next {n : Nat} {ts : List Ar} {S : SN} {k : Nat} {x y : Ar} {acc : List Ar} (h : ¬ dOf S x = 0) (hy : nxt n ts S x = some y) : wayR n ts S (k + 1) x acc = wayR n ts S k y (acc ++ [y]) := by
  rw [wayR, if_neg h, hy]
structure Stp (n : Nat) (ts : List Ar) (t : Ar) (S : SN) : Prop where
  nd : (S.map (·.1)).Nodup
  rch : ∀ x, x ∈ S.map (·.1) ↔ Rch n ts t x
  zer : ∀ x ∈ S.map (·.1), (dOf S x = 0 ↔ x = t)
  pre : ∀ x ∈ S.map (·.1), 0 < dOf S x → ∃ y ∈ S.map (·.1), dOf S y < dOf S x ∧ x ∈ frcS n ts y
  len : S.length ≤ n * n
  low : ∀ x ∈ S.map (·.1), dOf S x ≤ 2 * (n * n) + 1
theorem steps_stp {n : Nat} {ts : List Ar} {t : Ar} (ht : InR n t) : Stp n ts t (stepsF n ts t) := by
  obtain ⟨c, b⟩ := steps_ok (ts := ts) ht
  refine ⟨b.nd, fun x => mem_steps ht, fun x hx => ⟨fun h => ?_, fun h => ?_⟩, fun x hx h => ?_, binv_len ht b, fun x hx => ?_⟩
  · exact b.zer _ (mem_dOf b.nd hx) h
  · subst h; exact dOf_mem b.nd b.ori
  · obtain ⟨q, hq, h1, h2⟩ := b.pre _ (mem_dOf b.nd hx) h
    refine ⟨q.1, List.mem_map.mpr ⟨q, hq, rfl⟩, ?_, h2⟩
    rw [dOf_mem b.nd (show (q.1, q.2) ∈ _ from hq)]
    omega
  · have := bfs_low _ 0 _ _ (binv_one n ts t) _ (mem_dOf b.nd hx)
    rw [Nat.zero_add] at this
    exact this
theorem Stp.fwd {n : Nat} {ts : List Ar} {t : Ar} {S : SN} (s : Stp n ts t S) {x y : Ar} (hx : x ∈ S.map (·.1)) (hy : y ∈ frcS n ts x) : y ∈ S.map (·.1) := (s.rch y).mpr (.step ((s.rch x).mp hx) hy)
theorem Stp.less {n : Nat} {ts : List Ar} {t : Ar} {S : SN} (s : Stp n ts t S) (ht : t ∈ arS n ts) {x : Ar} (hx : x ∈ S.map (·.1)) (h : ¬ dOf S x = 0) : lessL S x (frcS n ts x) ≠ [] := by
  obtain ⟨y, hy, h1, h2⟩ := s.pre x hx (Nat.pos_of_ne_zero h)
  have yA := ((s.rch y).mp hy).ar ht
  have : y ∈ lessL S x (frcS n ts x) := List.mem_filter.mpr ⟨frcS_symm yA h2, decide_eq_true h1⟩
  exact fun z => by rw [z] at this; exact List.not_mem_nil this
theorem wayR_len {n : Nat} {ts : List Ar} {S : SN} : ∀ (k : Nat) (x : Ar) (acc : List Ar), (wayR n ts S k x acc).length ≤ acc.length + k
  | 0, _, acc => Nat.le_refl _
  | k + 1, x, acc => by
    rw [wayR]
    split
    · omega
    · split
      · omega
      · rename_i y _
        have := wayR_len (n := n) (ts := ts) (S := S) k y (acc ++ [y])
        rw [List.length_append] at this
        have e : [y].length = 1 := rfl
        omega
end My

set_option Elab.async false
set_option linter.all false
set_option maxRecDepth 100000
namespace My
open PySem PySem.Spec PyProof.Rows L2 GxR
/-- for each arrow the list of those that it forces -/
def ForcD (H : Hp) (D : Addr) (n : Nat) (ts : List Ar) : Prop := ∃ kvs : List (List Key × V), Rd H D (.dT kvs) ∧ kvs.map (·.1) = (arS n ts).map pk ∧ ∀ x ∈ arS n ts, ∃ q us, valV kvs (pk x) = some (.ref q) ∧ H q = some (.lst us) ∧ Ties H us (frcS n ts x)
theorem rd_same {H H' : Hp} {a : Addr} {o : HO} (h : Rd H a o) (s : Same H H') : Rd H' a o := h.imp (fun e => s _ _ e) fun ⟨ob, e⟩ => ⟨ob, s _ _ e⟩
theorem dget_rd {H : Hp} {a b : Addr} {kvs : List (List Key × V)} {k : List Key} (e : Rd H a (.dT kvs)) (eb : H b = some (.tup (k.map kV))) : DGet H a (.ref b) (valV kvs k) := .inr ⟨kvs, k, b, e, rfl, eb, rfl⟩
theorem ForcD.mono {H H' : Hp} {D : Addr} {n : Nat} {ts : List Ar} (h : ForcD H D n ts) (s : Same H H') : ForcD H' D n ts := by
  obtain ⟨kvs, h1, h2, h3⟩ := h
  refine ⟨kvs, rd_same h1 s, h2, fun x hx => ?_⟩
  obtain ⟨q, us, a, b, c⟩ := h3 x hx
  exact ⟨q, us, a, s _ _ b, c.mono (Same.tst s)⟩
def dS (S : SN) : List (List Key × V) := S.map fun p => (pk p.1, V.int (p.2 : Int))
theorem dS_keys (S : SN) : (dS S).map (·.1) = (S.map (·.1)).map pk := by
  unfold dS; rw [List.map_map, List.map_map]; rfl
theorem dS_put {S : SN} {o : Ar} {c : Nat} (h : o ∉ S.map (·.1)) : putK (dS S) (pk o) (.int (c : Int)) = dS (S ++ [(o, c)]) := by
  have e : ((dS S).any fun kv => decide (kv.1 = pk o)) = false := by
    rw [valV_any, valV_keys (dS_keys S)]; exact decide_eq_false h
  unfold putK
  rw [e]
  unfold dS
  rw [List.map_append]; rfl
theorem dS_get : ∀ {S : SN} {x : Ar} {c : Nat}, (S.map (·.1)).Nodup → (x, c) ∈ S → valV (dS S) (pk x) = some (.int (c : Int))
  | [], _, _, _, h => absurd h List.not_mem_nil
  | p :: S, x, c, nd, h => by
    rw [List.map_cons, List.nodup_cons] at nd
    rcases List.mem_cons.mp h with rfl | h
    · exact valV_pos rfl
    · have ne : ¬ p.1 = x := fun e => nd.1 (by rw [e]; exact List.mem_map.mpr ⟨_, h, rfl⟩)
      exact (valV_neg (fun z => ne (pk_inj z))).trans (dS_get nd.2 h)
theorem lvl_part {n : Nat} {ts : List Ar} {t : Ar} {c : Nat} {S : SN} {wl : List Ar} (ht : InR n t) (b : BInv n ts t c S wl) (i : Nat) (fs : List Ar) (hf : ∀ x ∈ fs, InR n x) :
    ∃ xs, lay c fs (lvl n ts c (wl.take i) (S, [])) = (S ++ xs.map fun x => (x, c + 1), xs) ∧ (S.map (·.1) ++ xs).Nodup ∧ S.length + xs.length ≤ n * n := by
  obtain ⟨xs, ⟨e, nw, nd⟩, _⟩ := lvl_adds n ts c (wl.take i) S []
  obtain ⟨ys, ⟨e2, nw2, nd2⟩, _⟩ := lay_adds c fs (S ++ xs.map fun x => (x, c + 1)) xs
  rw [keysA] at nd2
  have nn := nd2 (nd b.nd)
  rw [List.append_assoc] at nn
  refine ⟨xs ++ ys, ?_, nn, ?_⟩
  · rw [e, List.nil_append, e2, List.map_append, List.append_assoc]
  · have := cs_len (n := n) nn fun x hx => ?_
    · rw [List.length_append, List.length_map] at this
      exact this
    · rcases List.mem_append.mp hx with z | z
      · obtain ⟨p, hp, rfl⟩ := List.mem_map.mp z
        exact (b.rch p hp).inR ht
      · rcases List.mem_append.mp z with z | z
        · obtain ⟨⟨one, ho, h1⟩, _⟩ := nw x z
          have oR := (b.rch _ (b.cur one (List.mem_of_mem_take ho))).inR ht
          exact frc_rng oR ((mem_frcS oR).mp h1)
        · exact hf x (nw2 x z).1
section
variable {P : Program} {w : World} {K : PySem.W.Frag} {mg : Str → Option Value} {base : Heap}
/-! ### turned_about -/
abbrev N_turned_about : List Str := ["pointing", "a", "b"]
theorem sc_turned_about : FnScope N_turned_about ["pointing"] (defScope s_turned_about) := ⟨rfl, rfl, rfl, by decide +kernel, rfl, by decide +kernel, by decide +kernel⟩
def sp_turned : Sp := fun vs H Q _ => ∃ (q : Addr) (us : List V) (ps : List Ar), vs = [.ref q] ∧ H q = some (.tup us) ∧ Ties H us ps ∧ ps.length ≤ 10000 ∧ ∀ p ws H', H p = none → Same H H' → H' p = some (.tup ws) → Ties H' ws (ps.map sw) → Q (.ref p) H'
theorem ok_turned {f : Addr} {fd : FuncData} (B : Bts mg) (F : Fun K "turned_about" "turned_about" s_turned_about f fd) : FnOk P w K mg base CX0 1 f fd ["pointing"] sp_turned := by
  refine F.ok sc_turned_about (fun vs H Q E h => ?_) (fun cdv A outer s H vs Q E hr h => ?_)
  · obtain ⟨q, us, ps, rfl, _⟩ := h; rfl
  · obtain ⟨q', us, ps, rfl, eq, hT, hl, q⟩ := h
    refine ⟨_, (pss_one (ps_ret (pe_callTy call_tuple_of (by rfl) B.tuple (by decide +kernel) (pa_cons (pe_lc (own := [("a", 1), ("b", 2)]) (g := (gTup K 2 (gCons (gName 1) (gCons (gName 2) gNil)))) (tt := tYes) rfl sc_turned_about.nd (pi_tup (pv 0)) (blkOk_by (own := [("a", 1), ("b", 2)]) (N := N_turned_about) (sc := defScope s_turned_about) (by decide +kernel)) (fun _ _ _ _ _ => (pg_tup rfl (pgs_cons (pg_name (i := 1) sc_turned_about.nd rfl (by first | exact Or.inl rfl | exact Or.inr rfl)) (pgs_cons (pg_name (i := 2) sc_turned_about.nd rfl (by first | exact Or.inl rfl | exact Or.inr rfl)) pgs_nil)))) (fun _ _ _ _ _ => pts_nil) (fun _ _ _ _ _ => (pe_tup (pa_cons (pv 2) (pa_cons (pv 1) pa_nil))))) pa_nil)))), ?_⟩
    have ul := hT.len
    refine ⟨_, rfl, q', rfl, ⟨_, SqT.of eq⟩, fun E1 nE1 => ?_⟩
    refine wk (walk_tup (K := K) (a := q') (xs := us)) (fun i H1 => ∃ ws, Same H H1 ∧ H1 E1 = some (.lst ws) ∧ Ties H1 ws ((ps.take i).map sw)) ⟨[], same_new nE1, upd_same, by exact trivial⟩ ?_ ?_ ?_
    · rintro i H1 _ ⟨_, sm, _⟩
      exact SqT.of (sm _ _ eq)
    · rintro i x H1 H2 hi ⟨ws, sm, eE, hV⟩ ⟨rfl, hx⟩
      obtain ⟨t, et, ht⟩ := hT.at hx
      obtain ⟨pt, rfl, ept⟩ := ht.mono (Same.tst sm)
      have wl := hV.len
      rw [List.length_map, List.length_take] at wl
      refine ⟨pt, _, rfl, SqT.of ept, rfl, _, _, rfl, _, _, rfl, rfl, rfl, yes ?_⟩
      refine ⟨_, rfl, _, rfl, by show 2 ≤ sizeLine; decide, fun k nk => ?_⟩
      have sk := same_new (o := .tup [.int t.2, .int t.1]) nk
      have e3 := sk _ _ eE
      refine ⟨ws, e3, sz' (by omega), ws ++ [.ref k], Same.put (sm.trans sk) nE1, upd_same, ?_⟩
      rw [List.take_add_one, et, List.map_append]
      exact Ties.mono (tst_put e3) ((hV.mono (Same.tst sk)).app (Ties.one ⟨k, rfl, upd_same⟩))
    · rintro H1 ⟨ws, sm, eE, hV⟩
      rw [ul, List.take_length] at hV
      refine ⟨E1, ws, rfl, .inl ⟨SqL.of eE, fun p np => ?_⟩⟩
      have sp := same_new (o := .tup ws) np
      exact q p ws _ (same_free sm np) (sm.trans sp) upd_same (hV.mono (Same.tst sp))
/-! ### forcings_of -/
abbrev N_forcings_of : List Str := ["web", "near", "arrow"]
theorem sc_forcings_of : FnScope N_forcings_of ["web"] (defScope s_forcings_of) := ⟨rfl, rfl, rfl, by decide +kernel, rfl, by decide +kernel, by decide +kernel⟩
def sp_fof : Sp := fun vs H Q _ => ∃ (v : V) (n : Nat) (ts : List Ar), vs = [v] ∧ Web H v n ts ∧ WOk n ts ∧ n ≤ 12 ∧ ts.length ≤ 10000 ∧ ∀ D H', H D = none → Same H H' → ForcD H' D n ts → (∃ kvs, H' D = some (.dT kvs)) → Q (.ref D) H'
theorem ok_fof {f : Addr} {fd : FuncData} (B : Bts mg) (F : Fun K "forcings_of" "forcings_of" s_forcings_of f fd) (c_tied_places : Cl P w K mg base 1 "tied_places" sp_tplaces) (c_forced_by : Cl P w K mg base 1 "forced_by" sp_fby) (c_turned_about : Cl P w K mg base 1 "turned_about" sp_turned) : FnOk P w K mg base CX0 2 f fd ["web"] sp_fof := by
  refine F.ok sc_forcings_of (fun vs H Q E h => ?_) (fun cdv A outer s H vs Q E hr h => ?_)
  · obtain ⟨v, n, ts, rfl, _⟩ := h; rfl
  · obtain ⟨v, n, ts, rfl, hWeb, hW, hn, hl, q⟩ := h
    refine ⟨_, (pss_cons (ps_set (i := 1) sc_forcings_of.nd rfl (by first | exact Or.inl rfl | exact Or.inr rfl) (pe_c c_tied_places hr (by decide) (by rfl) (pa_cons (pv 0) pa_nil)))
    (pss_one (ps_ret (pe_dcP empt_dT (hu_of hr) (own := [("arrow", 2)]) (g := (gName 2)) (tt := tYes) rfl sc_forcings_of.nd (pi_list (pe_callB call_sortedTT (by rfl) B.sorted (by decide +kernel) (pa_cons (pe_cut (pe_op op_catA (pe_ix ix_tup (pv 0) pe_int (fun _ _ => rfl)) (pe_c c_turned_about hr (by decide) (by rfl) (pa_cons (pe_ix ix_tup (pv 0) pe_int (fun _ _ => rfl)) pa_nil)))) pa_nil))) (blkOk_by (own := [("arrow", 2)]) (N := N_forcings_of) (sc := defScope s_forcings_of) (by decide +kernel)) (fun _ _ _ _ _ => (pg_name (i := 2) sc_forcings_of.nd rfl (by first | exact Or.inl rfl | exact Or.inr rfl))) (fun _ _ _ _ _ => pts_nil) (fun _ _ _ _ _ => (pv 2)) (fun _ _ _ _ _ => (pe_c c_forced_by hr (by decide) (by rfl) (pa_cons (pv 1) (pa_cons (pv 2) pa_nil)))))))), ?_⟩
    have nn : n * n ≤ 144 := Nat.mul_le_mul hn hn
    have al := arS_len (n := n) (ts := ts)
    refine ⟨_, rfl, v, n, ts, rfl, hWeb, hW, by omega, hl, fun N H1 nN s1 hN => ?_⟩
    obtain ⟨p, q', us, rfl, ep, eq, hT⟩ := id hWeb
    have hT1 := hT.mono (Same.tst s1)
    refine ⟨fun v H3 => ∃ z zs, v = .ref z ∧ Same H1 H3 ∧ H3 z = some (.tup zs) ∧ Ties H3 zs (ts ++ ts.map sw), ?_, ?_⟩
    · refine ⟨_, rfl, p, _, _, _, rfl, rfl, SqT.of (s1 _ _ ep), rfl, ?_⟩
      refine ⟨_, rfl, p, _, _, _, rfl, rfl, SqT.of (s1 _ _ ep), rfl, q', us, ts, rfl, s1 _ _ eq, hT1, hl, fun g ws H2 ng s2 eg hV => ?_⟩
      have hT2 := hT1.mono (Same.tst s2)
      have ul := hT.len
      have wl := hV.len
      rw [List.length_map] at wl
      refine ⟨q', g, us, ws, rfl, rfl, SqT.of ((s1.trans s2) _ _ eq), SqT.of eg, sz (by omega), fun e => ?_, fun e1 e2 => ?_, fun e1 e2 z nz => ?_⟩
      · refine ⟨g, ws, rfl, s2, eg, ?_⟩
        have e' : ts = [] := List.length_eq_zero_iff.mp (by rw [← ul, e]; rfl)
        rw [e'] at hV ⊢; exact hV
      · exact absurd (List.length_eq_zero_iff.mp (by rw [ul, ← wl, e2]; rfl)) e1
      · have sz1 := same_new (o := .tup (us ++ ws)) nz
        exact ⟨z, us ++ ws, rfl, s2.trans sz1, upd_same, (hT2.mono (Same.tst sz1)).app (hV.mono (Same.tst sz1))⟩
    · rintro _ H3 ⟨z, zs, rfl, s3, ez, hZ⟩
      refine ⟨z, zs, _, rfl, SqT.of ez, hZ, fun ys y fs hY pm pw ny => ?_⟩
      have ef := ar_eq hW pm pw
      subst ef
      have sy := same_new (o := .lst ys) ny
      have s04 := (s1.trans s3).trans sy
      have hY4 := hY.mono (Same.tst sy)
      have hN4 := hN.mono (s3.trans sy)
      have ey := upd_same (H := H3) (a := y) (o := .lst ys)
      generalize upd H3 y (.lst ys) = H4 at s04 hY4 hN4 ey ⊢
      have yl := hY4.len
      refine ⟨y, rfl, ⟨_, SqL.of ey⟩, fun D nD => ?_⟩
      refine wk (walk_list (K := K) (a := y) (xs := ys)) (fun i H5 => ∃ kvs : List (List Key × V), Same H4 H5 ∧ H5 D = some (.dT kvs) ∧ kvs.map (·.1) = ((arS n ts).take i).map pk ∧ ∀ x ∈ (arS n ts).take i, ∃ q us, q ≠ D ∧ valV kvs (pk x) = some (.ref q) ∧ H5 q = some (.lst us) ∧ Ties H5 us (frcS n ts x)) ⟨[], same_new nD, upd_same, rfl, fun x hx => absurd hx List.not_mem_nil⟩ ?_ ?_ ?_
      · rintro i H5 _ ⟨_, s5, _⟩
        exact SqL.of (s5 _ _ ey)
      · rintro i x H5 H6 hi ⟨kvs, s5, eD, hk, hv⟩ ⟨rfl, hx⟩
        obtain ⟨t, et, ht⟩ := hY4.at hx
        have tm := List.mem_of_getElem? et
        have tR := arS_inR tm
        have ht5 := ht.mono (Same.tst s5)
        obtain ⟨pt, rfl, ept⟩ := id ht5
        refine ⟨rfl, yes ?_⟩
        refine ⟨_, rfl, _, rfl, _, rfl, .ref pt, N, n, ts, t, rfl, hN4.mono s5, hW, by omega, hl, ht5, tR, fun g us6 H7 ng s7 eg hU => ?_⟩
        have nt : t ∉ (arS n ts).take i := fun z => by
          have pw := nd_pw (arS_pw n ts)
          obtain ⟨j, hj⟩ := List.mem_iff_getElem?.mp z
          obtain ⟨hj1, hj2⟩ := List.getElem?_eq_some_iff.mp hj
          rw [List.length_take] at hj1
          rw [List.getElem?_take_of_lt (by omega)] at hj
          obtain ⟨k1, k2⟩ := List.getElem?_eq_some_iff.mp et
          obtain ⟨k3, k4⟩ := List.getElem?_eq_some_iff.mp hj
          exact absurd (k4.trans k2.symm) ((List.pairwise_iff_getElem.mp (List.nodup_iff_pairwise_ne.mp pw)) j i k3 k1 (by omega))
        have kl := congrArg List.length hk
        rw [List.length_map, List.length_map, List.length_take] at kl
        have eD7 := s7 _ _ eD
        have gD : g ≠ D := fun z => by rw [z, eD] at ng; cases ng
        refine ⟨_, DPut.t (k := pk t) eD7 (s7 _ _ ept) (sz' (by omega)), _, Same.put (s5.trans s7) nD, upd_same, ?_, fun x' hx' => ?_⟩
        · rw [List.take_add_one, et]
          exact keys_put hk nt
        · have td : Tst H7 (upd H7 D (.dT (putK kvs (pk t) (.ref g)))) := fun b xs e => by
            rw [upd_ne (fun z => by rw [z, eD7] at e; cases e)]; exact e
          rw [List.take_add_one, et] at hx'
          by_cases e : x' = t
          · subst e
            refine ⟨g, us6, gD, ?_, ?_, hU.mono td⟩
            · rw [valV_put, if_pos rfl]
            · rw [upd_ne gD]; exact eg
          · have hx2 : x' ∈ (arS n ts).take i := by
              rcases List.mem_append.mp hx' with z | z
              · exact z
              · exact absurd (List.mem_singleton.mp z) e
            obtain ⟨q2, us2, n2, v2, e2, t2⟩ := hv x' hx2
            refine ⟨q2, us2, n2, ?_, ?_, (t2.mono (Same.tst s7)).mono td⟩
            · rw [valV_put, if_neg (fun z => e (pk_inj z))]; exact v2
            · rw [upd_ne n2]; exact s7 _ _ e2
      · rintro H5 ⟨kvs, s5, eD, hk, hv⟩
        rw [yl, List.take_length] at hk hv
        refine q D H5 (same_free s04 nD) (s04.trans s5) ⟨kvs, .inl eD, hk, fun x hx => ?_⟩ ⟨kvs, eD⟩
        obtain ⟨q2, us2, _, v2, e2, t2⟩ := hv x hx
        exact ⟨q2, us2, v2, e2, t2⟩
/-! ### steps_from -/
abbrev N_steps_from : List Str := ["forcings", "arrow", "steps", "newest", "found", "one", "other"]
theorem sc_steps_from : FnScope N_steps_from ["forcings", "arrow"] (defScope s_steps_from) := ⟨rfl, rfl, rfl, by decide +kernel, rfl, by decide +kernel, by decide +kernel⟩
def sp_steps : Sp := fun vs H Q _ => ∃ (x : V) (D : Addr) (n : Nat) (ts : List Ar) (t : Ar), vs = [.ref D, x] ∧ ForcD H D n ts ∧ n ≤ 12 ∧ Tie H x t ∧ t ∈ arS n ts ∧ ∀ F H', H F = none → Same H H' → H' F = some (.dT (dS (stepsF n ts t))) → Q (.ref F) H'
theorem ok_steps {f : Addr} {fd : FuncData} (B : Bts mg) (F : Fun K "steps_from" "steps_from" s_steps_from f fd) : FnOk P w K mg base CX0 1 f fd ["forcings", "arrow"] sp_steps := by
  refine F.ok sc_steps_from (fun vs H Q E h => ?_) (fun cdv A outer s H vs Q E hr h => ?_)
  · obtain ⟨x, D, n, ts, t, rfl, _⟩ := h; rfl
  · obtain ⟨x, D, n, ts, t, rfl, ⟨kvs, eD, hkD, hvD⟩, hn, hx, hA, q⟩ := h
    refine ⟨_, (pss_cons (ps_set (i := 2) sc_steps_from.nd rfl (by first | exact Or.inl rfl | exact Or.inr rfl) (pe_disp1 empt_dT (hu_of hr) (pv 1) pe_int))
    (pss_cons (ps_set (i := 3) sc_steps_from.nd rfl (by first | exact Or.inl rfl | exact Or.inr rfl) (pe_lst (pa_cons (pv 1) pa_nil)))
    (pss_cons (ps_while PassesOwn.never (pt_truth (pv 3) (by intro _; rfl))
      (pss_cons (ps_set (i := 4) sc_steps_from.nd rfl (by first | exact Or.inl rfl | exact Or.inr rfl) (pe_lst pa_nil))
      (pss_cons (ps_for PassesOwn.never rfl (pi_list (pv 3)) (pg_name (i := 5) sc_steps_from.nd rfl (by first | exact Or.inl rfl | exact Or.inr rfl))
        (pss_one (ps_for PassesOwn.never rfl (pi_list (pe_dget (hu_of hr) (pv 0) (pv 5) (fun _ _ => rfl))) (pg_name (i := 6) sc_steps_from.nd rfl (by first | exact Or.inl rfl | exact Or.inr rfl))
          (pss_one (ps_if (pt_cmp (pc_dnotin (hu_of hr) (pv 6) (pv 2))) (pss_cons (ps_dput (hu_of hr) (pv 2) (pv 6) (pe_op op_add (pe_dget (hu_of hr) (pv 2) (pv 5) (fun _ _ => rfl)) pe_int) rfl)
            (pss_one (ps_expr (pe_bm PySem.F.plainAttrs_list PySem.F.slot_list_append PySem.F.type_list_append mt_append (pv 4) (pa_cons (pv 6) pa_nil))))) pss_nil)))))
      (pss_one (ps_set (i := 3) sc_steps_from.nd rfl (by first | exact Or.inl rfl | exact Or.inr rfl) (pv 4))))))
    (pss_one (ps_ret (pv 2)))))), ?_⟩
    obtain ⟨px, rfl, epx⟩ := id hx
    have hR := arS_inR hA
    have nn : n * n ≤ 144 := Nat.mul_le_mul hn hn
    refine fun Fd nF => ⟨_, rfl, _, DPut.t (k := pk t) upd_same ((same_new nF) _ _ epx) (by show 0 < sizeLine; decide), ?_⟩
    have s1 : Same H (upd (upd H Fd (.dT [])) Fd (.dT (putK [] (pk t) (.int 0)))) := Same.put (same_new nF) nF
    have eF1 : (upd (upd H Fd (.dT [])) Fd (.dT (putK [] (pk t) (.int 0)))) Fd = some (.dT (dS [(t, 0)])) := upd_same
    generalize upd (upd H Fd (.dT [])) Fd (.dT (putK [] (pk t) (.int 0))) = H1 at s1 eF1 ⊢
    refine ⟨_, rfl, by show 1 ≤ sizeLine; decide, fun Wt nW => ?_⟩
    have sW := same_new (o := .lst [.ref px]) nW
    let W : Nat → L2.St → Hp → Prop := fun m σ H1 => ∃ Wt ws wl S c y4 y5 y6, σ = [some (.ref D), some (.ref px), some (.ref Fd), some (.ref Wt), y4, y5, y6] ∧ Same H H1 ∧ H1 Fd = some (.dT (dS S)) ∧ H1 Wt = some (.lst ws) ∧ Ties H1 ws wl ∧ BInv n ts t c S wl ∧ bfsR n ts m c (S, wl) = stepsF n ts t ∧ 2 * (n * n - S.length) + min wl.length 1 ≤ m
    refine ⟨W, ⟨2 * (n * n) + 1, Wt, [.ref px], [t], [(t, 0)], 0, none, none, none, rfl, s1.trans sW, sW _ _ eF1, upd_same, Ties.one (hx.mono (Same.tst (s1.trans sW))), binv_one n ts t, rfl, by show 2 * (n * n - 1) + 1 ≤ _; omega⟩, ?_⟩
    rintro m σ H2 ⟨Wt, ws, wl, S, c, y4, y5, y6, rfl, s2, eF, eW, hT, bi, hc, hm⟩
    have wlen := hT.len
    refine ⟨_, rfl, !ws.isEmpty, .inl ⟨ws, SqL.of eW, rfl⟩, ?_⟩
    cases wl with
    | nil =>
      have e0 : ws = [] := List.length_eq_zero_iff.mp wlen
      subst e0
      rw [bfsR_nil] at hc
      subst hc
      exact iteF ⟨_, rfl, q Fd H2 nF s2 eF⟩
    | cons w0 wl0 =>
      have e0 : (!ws.isEmpty) = true := by
        cases ws with
        | nil => cases wlen
        | cons _ _ => rfl
      rw [e0]
      refine iteT ⟨W (m - 1), fun σ' H' hh => ⟨m - 1, by rw [List.length_cons] at hm; omega, hh⟩, ?_⟩
      obtain ⟨m', rfl⟩ : ∃ m', m = m' + 1 := ⟨m - 1, by rw [List.length_cons] at hm; omega⟩
      generalize hwl : w0 :: wl0 = wl at *
      have wpos : 0 < wl.length := by rw [← hwl]; exact Nat.succ_pos _
      refine ⟨Nat.zero_le _, fun G nG => ?_⟩
      have sG := same_new (o := .lst []) nG
      have nG0 : H G = none := same_free s2 nG
      have nFG : Fd ≠ G := ne_of_none eF nG
      have nWG : Wt ≠ G := ne_of_none eW nG
      have nWF : Wt ≠ Fd := fun z => by rw [z, eF] at eW; cases eW
      refine ⟨_, rfl, Wt, rfl, ⟨_, SqL.of (sG _ _ eW)⟩, ?_⟩
      refine for_it (walk_list (K := K) (a := Wt) (xs := ws)) (fun i σ H3 => ∃ us y5 y6, σ = [some (.ref D), some (.ref px), some (.ref Fd), some (.ref Wt), some (.ref G), y5, y6] ∧ Same H H3 ∧ Tst H2 H3 ∧ H3 Wt = some (.lst ws) ∧ H3 Fd = some (.dT (dS (lvl n ts c (wl.take i) (S, [])).1)) ∧ H3 G = some (.lst us) ∧ Ties H3 us (lvl n ts c (wl.take i) (S, [])).2)
        ⟨[], y5, y6, rfl, s2.trans sG, Same.tst sG, sG _ _ eW, sG _ _ eF, upd_same, by exact trivial⟩ ?_ ?_ ?_
      · rintro i σ H3 _ ⟨_, _, _, _, _, _, eW3, _⟩
        exact SqL.of eW3
      · rintro i z σ H3 H4 hi ⟨us, y5, y6, rfl, s3, t3, eW3, eF3, eG3, hU⟩ ⟨rfl, hz⟩
        obtain ⟨o, eo, ho⟩ := hT.at hz
        have om := List.mem_of_getElem? eo
        have oS := bi.cur o om
        have oA := (bi.rch _ oS).ar hA
        have oR := arS_inR oA
        obtain ⟨po, rfl, epo⟩ := ho.mono t3
        obtain ⟨qo, uo, vo, eqo, hTo⟩ := hvD o oA
        have fr : ∀ z ∈ frcS n ts o, InR n z := fun z hz => frc_rng oR ((mem_frcS oR).mp hz)
        have g1 : DGet H4 D (.ref po) (some (.ref qo)) := by
          have := dget_rd (k := pk o) (rd_same eD s3) epo
          rw [vo] at this; exact this
        refine ⟨_, rfl, _, rfl, D, _, rfl, g1, qo, rfl, ⟨_, SqL.of (s3 _ _ eqo)⟩, ?_⟩
        have l0 : lvl n ts c (wl.take i) (S, []) = lay c ((frcS n ts o).take 0) (lvl n ts c (wl.take i) (S, [])) := rfl
        refine for_it (walk_list (K := K) (a := qo) (xs := uo)) (fun j σ H5 => ∃ us y6, σ = [some (.ref D), some (.ref px), some (.ref Fd), some (.ref Wt), some (.ref G), some (.ref po), y6] ∧ Same H H5 ∧ Tst H2 H5 ∧ H5 Wt = some (.lst ws) ∧ H5 Fd = some (.dT (dS (lay c ((frcS n ts o).take j) (lvl n ts c (wl.take i) (S, []))).1)) ∧ H5 G = some (.lst us) ∧ Ties H5 us (lay c ((frcS n ts o).take j) (lvl n ts c (wl.take i) (S, []))).2)
          ⟨us, y6, rfl, s3, t3, eW3, eF3, eG3, hU⟩ ?_ ?_ ?_
        · rintro j σ H5 _ ⟨_, _, _, s5, _⟩
          exact SqL.of (s5 _ _ eqo)
        · rintro j z σ H5 H6 hj ⟨us, y6, rfl, s5, t5, eW5, eF5, eG5, hU5⟩ ⟨rfl, hz⟩
          obtain ⟨r, er, hr'⟩ := hTo.at hz
          obtain ⟨pr, rfl, epr⟩ := hr'.mono (Same.tst s5)
          have st := lay_step c ((frcS n ts o).take j) r (lvl n ts c (wl.take i) (S, []))
          rw [show (frcS n ts o).take j ++ [r] = (frcS n ts o).take (j + 1) from by rw [List.take_add_one, er]; rfl] at st
          obtain ⟨xs, ex, nd5, le5⟩ := lvl_part hR bi i ((frcS n ts o).take j) fun x hx => fr x (List.mem_of_mem_take hx)
          rw [ex] at eF5 hU5 st
          dsimp only at eF5 hU5 st
          have epo5 : H6 po = some (.tup [.int o.1, .int o.2]) := by
            obtain ⟨po', e', epo'⟩ := ho.mono t5
            cases e'; exact epo'
          refine ⟨_, rfl, _, rfl, Fd, _, rfl, DGet.t (k := pk r) eF5 epr, _, rfl, ?_⟩
          rw [valV_keys (dS_keys _)]
          by_cases hm : r ∈ (S ++ xs.map fun x => (x, c + 1)).map (·.1)
          · rw [if_pos hm] at st
            rw [decide_eq_true hm]
            refine iteF ⟨us, _, rfl, s5, t5, eW5, ?_, eG5, ?_⟩
            · rw [st]; exact eF5
            · rw [st]; exact hU5
          · rw [if_neg hm] at st
            rw [decide_eq_false hm]
            have g2 : DGet H6 Fd (.ref po) (some (.int (c : Int))) := by
              have := DGet.t (k := pk o) eF5 epo5
              rw [dS_get (by rw [keysA]; exact nd5) (List.mem_append_left _ oS)] at this
              exact this
            have ul := hU5.len
            refine iteT ⟨_, rfl, _, rfl, Fd, _, rfl, g2, _, _, rfl, rfl, _, rfl, _, rfl, Fd, _, rfl, DPut.t (k := pk r) eF5 epr (sz' (by unfold dS; rw [List.length_map, List.length_append, List.length_map]; omega)), ?_⟩
            rw [show putK (dS (S ++ xs.map fun x => (x, c + 1))) (pk r) (.int ((c : Int) + 1)) = dS (S ++ xs.map (fun x => (x, c + 1)) ++ [(r, c + 1)]) from dS_put (c := c + 1) hm]
            have eG6 : (upd H6 Fd (.dT (dS (S ++ xs.map (fun x => (x, c + 1)) ++ [(r, c + 1)])))) G = some (.lst us) := by rw [upd_ne (Ne.symm nFG)]; exact eG5
            have t6 : Tst H6 (upd H6 Fd (.dT (dS (S ++ xs.map (fun x => (x, c + 1)) ++ [(r, c + 1)])))) := fun b xs e => by
              rw [upd_ne (fun z => by rw [z, eF5] at e; cases e)]; exact e
            refine ⟨_, rfl, .inl ⟨rfl, _, SqL.of eG6⟩, _, rfl, G, _, _, rfl, rfl, eG6, sz' (by omega), us ++ [.ref pr], _, rfl, Same.put (Same.put s5 nF) nG0, (t5.trans t6).trans (tst_put eG6), ?_, ?_, upd_same, ?_⟩
            · rw [upd_ne nWG, upd_ne nWF]; exact eW5
            · rw [upd_ne nFG, upd_same, st]
            · rw [st]
              exact Ties.mono (tst_put eG6) ((hU5.mono t6).app (Ties.one ((show Tie H6 (.ref pr) r from ⟨pr, rfl, epr⟩).mono t6)))
        · rintro σ H5 ⟨us, y6, rfl, s5, t5, eW5, eF5, eG5, hU5⟩
          rw [hTo.len, List.take_length, ← lvl_step, show wl.take i ++ [o] = wl.take (i + 1) from by rw [List.take_add_one, eo]; rfl] at eF5 hU5
          exact ⟨us, _, _, rfl, s5, t5, eW5, eF5, eG5, hU5⟩
      · rintro σ H3 ⟨us, y5, y6, rfl, s3, t3, eW3, eF3, eG3, hU⟩
        rw [wlen, List.take_length] at eF3 hU
        obtain ⟨xs, ex, bi2⟩ := binv_step bi
        rw [ex] at eF3 hU
        have l := binv_len hR bi2
        rw [List.length_append, List.length_map] at l
        refine ⟨_, rfl, G, us, xs, _, c + 1, _, _, _, rfl, s3, eF3, eG3, hU, bi2, ?_, ?_⟩
        · rw [← hc, ← ex, ← hwl]; rfl
        · rw [List.length_append, List.length_map]; omega
end
end My

set_option Elab.async false
set_option linter.all false
set_option maxRecDepth 100000
namespace My
open PySem PySem.Spec PyProof.Rows L2 GxR
section
variable {P : Program} {w : World} {K : PySem.W.Frag} {mg : Str → Option Value} {base : Heap}
end
end My

set_option Elab.async false
set_option linter.all false
set_option maxRecDepth 100000
namespace My
open PySem PySem.Spec PyProof.Rows L2 GxR
/-- a list of lists of arrows, no two of them one and the same, all new to H0 -/
structure LsAt (H0 H : Hp) (p : Addr) (qs : List Addr) (cls : LL) : Prop where
  here : H p = some (.lst (qs.map V.ref))
  len : qs.length = cls.length
  nd : qs.Nodup
  out : p ∉ qs
  new : ∀ q ∈ qs, H0 q = none
  at_ : ∀ (i : Nat) (q : Addr), qs[i]? = some q → ∃ us c, cls[i]? = some c ∧ H q = some (.lst us) ∧ Ties H us c
theorem LsAt.mono {H0 H H' : Hp} {p : Addr} {qs : List Addr} {cls : LL} (h : LsAt H0 H p qs cls) (s : Same H H') : LsAt H0 H' p qs cls :=
  ⟨s _ _ h.here, h.len, h.nd, h.out, h.new, fun i q e => by obtain ⟨us, c, a, b, d⟩ := h.at_ i q e; exact ⟨us, c, a, s _ _ b, d.mono (Same.tst s)⟩⟩
theorem LsAt.older {H0 H1 H : Hp} {p : Addr} {qs : List Addr} {cls : LL} (h : LsAt H1 H p qs cls) (s : Same H0 H1) : LsAt H0 H p qs cls := ⟨h.here, h.len, h.nd, h.out, fun q hq => same_free s (h.new q hq), h.at_⟩
theorem LsAt.nil {H0 H : Hp} {p : Addr} (e : H p = some (.lst [])) : LsAt H0 H p [] [] := ⟨e, rfl, List.nodup_nil, List.not_mem_nil, fun _ h => absurd h List.not_mem_nil, fun i q h => by cases h⟩
theorem LsAt.add {H0 H : Hp} {p d : Addr} {qs : List Addr} {cls : LL} {us : List V} {c : List Ar} (h : LsAt H0 H p qs cls) (ed : H d = some (.lst us)) (hT : Ties H us c) (dp : d ≠ p) (dq : d ∉ qs) (nd : H0 d = none) : LsAt H0 (upd H p (.lst (qs.map V.ref ++ [.ref d]))) p (qs ++ [d]) (cls ++ [c]) := by
  have tp := tst_put (o := .lst (qs.map V.ref ++ [.ref d])) h.here
  refine ⟨by rw [upd_same, List.map_append]; rfl, by rw [List.length_append, List.length_append, h.len]; rfl, ?_, ?_, fun q hq => ?_, fun i q e => ?_⟩
  · rw [List.nodup_append]
    refine ⟨h.nd, List.nodup_cons.mpr ⟨List.not_mem_nil, List.nodup_nil⟩, fun a ha b hb e => ?_⟩
    rw [List.mem_singleton.mp hb] at e
    subst e; exact dq ha
  · intro z
    rcases List.mem_append.mp z with z | z
    · exact h.out z
    · exact dp (List.mem_singleton.mp z).symm
  · rcases List.mem_append.mp hq with z | z
    · exact h.new q z
    · rw [List.mem_singleton.mp z]; exact nd
  · have hl := h.len
    by_cases hi : i < qs.length
    · rw [List.getElem?_append_left hi] at e
      obtain ⟨vs, c', e1, e2, e3⟩ := h.at_ i q e
      have nq : q ≠ p := fun z => h.out (z ▸ List.mem_of_getElem? e)
      refine ⟨vs, c', by rw [List.getElem?_append_left (by omega)]; exact e1, by rw [upd_ne nq]; exact e2, e3.mono tp⟩
    · rw [List.getElem?_append_right (by omega)] at e
      have h0 : i - qs.length = 0 := by
        cases hh : i - qs.length with
        | zero => rfl
        | succ k => rw [hh] at e; cases e
      rw [h0] at e
      cases e
      refine ⟨us, c, ?_, by rw [upd_ne dp]; exact ed, hT.mono tp⟩
      rw [List.getElem?_append_right (by omega), show i - cls.length = 0 from by omega]; rfl
theorem same_unlock {H H' : Hp} {d : Addr} {u : HO} {od : Obj} (e : H d = some u) (s : Same (upd H d (.frz od u)) H') : Same H (upd H' d u) := fun b o h => by
  by_cases hb : b = d
  · subst hb; rw [upd_same]; rw [e] at h; exact h
  · rw [upd_ne hb]; exact s b o (by rw [upd_ne hb]; exact h)
theorem forc_lock {H : Hp} {D : Addr} {n : Nat} {ts : List Ar} {kvs : List (List Key × V)} {od : Obj} (h : ForcD H D n ts) (e : H D = some (.dT kvs)) : ForcD (upd H D (.frz od (.dT kvs))) D n ts := by
  obtain ⟨k, h1, h2, h3⟩ := h
  have ek : k = kvs := by
    rcases h1 with z | ⟨o, z⟩
    · rw [e] at z; cases z; rfl
    · rw [e] at z; cases z
  subst ek
  have td : Tst H (upd H D (.frz od (.dT k))) := fun b xs z => by rw [upd_ne (fun w => by rw [w, e] at z; cases z)]; exact z
  refine ⟨k, .inr ⟨od, upd_same⟩, h2, fun x hx => ?_⟩
  obtain ⟨q, us, a, b, c⟩ := h3 x hx
  exact ⟨q, us, a, by rw [upd_ne (fun w => by rw [w, e] at b; cases b)]; exact b, c.mono td⟩
section
variable {P : Program} {w : World} {K : PySem.W.Frag} {mg : Str → Option Value} {base : Heap}
/-! ### classes_in -/
abbrev N_classes_in : List Str := ["forcings", "told", "placed", "arrow", "members", "member"]
theorem sc_classes_in : FnScope N_classes_in ["forcings"] (defScope s_classes_in) := ⟨rfl, rfl, rfl, by decide +kernel, rfl, by decide +kernel, by decide +kernel⟩
def sp_cin : Sp := fun vs H Q _ => ∃ (D : Addr) (kvs : List (List Key × V)) (n : Nat) (ts : List Ar), vs = [.ref D] ∧ ForcD H D n ts ∧ H D = some (.dT kvs) ∧ n ≤ 12 ∧ ∀ p qs H', H p = none → Same H H' → LsAt H H' p qs (clsA n ts) → Q (.ref p) H'
theorem ok_cin {f : Addr} {fd : FuncData} (B : Bts mg) (F : Fun K "classes_in" "classes_in" s_classes_in f fd) (c_steps_from : Cl P w K mg base 1 "steps_from" sp_steps) : FnOk P w K mg base CX0 2 f fd ["forcings"] sp_cin := by
  refine F.ok sc_classes_in (fun vs H Q E h => ?_) (fun cdv A outer s H vs Q E hr h => ?_)
  · obtain ⟨D, kvs, n, ts, rfl, _⟩ := h; rfl
  · obtain ⟨D, kvs, n, ts, rfl, hD, eD, hn, q⟩ := h
    refine ⟨_, (pss_cons (ps_set (i := 1) sc_classes_in.nd rfl (by first | exact Or.inl rfl | exact Or.inr rfl) (pe_lst pa_nil))
    (pss_cons (ps_set (i := 2) sc_classes_in.nd rfl (by first | exact Or.inl rfl | exact Or.inr rfl) pe_dnewT)
    (pss_cons (ps_lock (ps_for PassesOwn.never rfl (pi_keys (pv 0)) (pg_name (i := 3) sc_classes_in.nd rfl (by first | exact Or.inl rfl | exact Or.inr rfl))
      (pss_one (ps_if (pt_cmp (pc_dnotin (hu_of hr) (pv 3) (pv 2))) (pss_cons (ps_set (i := 4) sc_classes_in.nd rfl (by first | exact Or.inl rfl | exact Or.inr rfl) (pe_callB (call_sortedDT rfl) (by rfl) B.sorted (by decide +kernel) (pa_cons (pe_c c_steps_from hr (by decide) (by rfl) (pa_cons (pv 0) (pa_cons (pv 3) pa_nil))) pa_nil)))
        (pss_cons (ps_expr (pe_bm PySem.F.plainAttrs_list PySem.F.slot_list_append PySem.F.type_list_append mt_append (pv 1) (pa_cons (pv 4) pa_nil)))
        (pss_one (ps_for PassesOwn.never rfl (pi_list (pv 4)) (pg_name (i := 5) sc_classes_in.nd rfl (by first | exact Or.inl rfl | exact Or.inr rfl))
          (pss_one (ps_dput (hu_of hr) (pv 2) (pv 5) pe_bl rfl)))))) pss_nil))))
    (pss_one (ps_ret (pv 1)))))), ?_⟩
    have nn : n * n ≤ 144 := Nat.mul_le_mul hn hn
    have al := arS_len (n := n) (ts := ts)
    have hkD : kvs.map (·.1) = (arS n ts).map pk := by
      obtain ⟨k, h1, h2, _⟩ := hD
      rcases h1 with z | ⟨o, z⟩
      · rw [eD] at z; cases z; exact h2
      · rw [eD] at z; cases z
    have kl := congrArg List.length hkD
    rw [List.length_map, List.length_map] at kl
    refine ⟨Nat.zero_le _, fun T nT => ?_⟩
    have sT := same_new (o := .lst []) nT
    refine fun Pd nP => ?_
    have sP := same_new (o := .dT []) nP
    have s2 := sT.trans sP
    have nP0 := same_free sT nP
    have nDT : D ≠ T := ne_of_none eD nT
    have nDP : D ≠ Pd := ne_of_none (sT _ _ eD) nP
    have nTP : T ≠ Pd := ne_of_none upd_same nP
    refine ⟨D, .dT kvs, s2 _ _ eD, trivial, fun od => ?_⟩
    have hDl := forc_lock (od := od) hD eD
    have sL : Same (upd H D (.frz od (.dT kvs))) (upd (upd (upd H T (.lst [])) Pd (.dT [])) D (.frz od (.dT kvs))) := fun b o e => by
      by_cases hb : b = D
      · subst hb; rw [upd_same] at e ⊢; exact e
      · rw [upd_ne hb] at e ⊢; exact s2 b o e
    have eTl : (upd (upd (upd H T (.lst [])) Pd (.dT [])) D (.frz od (.dT kvs))) T = some (.lst []) := by rw [upd_ne (Ne.symm nDT)]; exact sP _ _ upd_same
    have ePl : (upd (upd (upd H T (.lst [])) Pd (.dT [])) D (.frz od (.dT kvs))) Pd = some (.dT []) := by rw [upd_ne (Ne.symm nDP)]; exact upd_same
    have nTl : (upd H D (.frz od (.dT kvs))) T = none := by rw [upd_ne (Ne.symm nDT)]; exact nT
    have nPl : (upd H D (.frz od (.dT kvs))) Pd = none := by rw [upd_ne (Ne.symm nDP)]; exact nP0
    refine ⟨_, rfl, D, od, rfl, .inr ⟨kvs, upd_same, ?_⟩⟩
    refine for_it (walk_keysT (d := D) (o := od) (kvs := kvs)) (fun i σ H5 => ∃ qs pks y3 y4 y5, σ = [some (.ref D), some (.ref T), some (.ref Pd), y3, y4, y5] ∧ Same (upd H D (.frz od (.dT kvs))) H5 ∧ LsAt (upd H D (.frz od (.dT kvs))) H5 T qs (clsL n ts ((arS n ts).take i)) ∧ Pd ∉ qs ∧ H5 Pd = some (.dT pks) ∧ JoinA pks (clsL n ts ((arS n ts).take i)).flatten ∧ pks.length ≤ 144 * i)
      ⟨[], [], none, none, none, rfl, sL, LsAt.nil eTl, List.not_mem_nil, ePl, fun o => rfl, Nat.zero_le _⟩ ?_ ?_ ?_
    · rintro i σ H5 _ ⟨_, _, _, _, _, _, s5, _⟩
      exact s5 _ _ upd_same
    · rintro i x σ H5 H6 hi ⟨qs, pks, y3, y4, y5, rfl, s5, hLs, pq, eP5, hJ, pl⟩ ⟨rfl, k, v, px, hk, rfl, epx⟩
      have hkx : (kvs.map (·.1))[i]? = some k := by rw [List.getElem?_map, hk]; rfl
      rw [hkD, List.getElem?_map] at hkx
      obtain ⟨t, et, rfl⟩ := Option.map_eq_some_iff.mp hkx
      have tA := List.mem_of_getElem? et
      have tR := arS_inR tA
      have st := clsL_step n ts ((arS n ts).take i) t
      rw [show (arS n ts).take i ++ [t] = (arS n ts).take (i + 1) from by rw [List.take_add_one, et]; rfl] at st
      have hx : Tie H6 (.ref px) t := ⟨px, rfl, epx⟩
      have hi' : i < 144 := by omega
      refine ⟨_, rfl, _, rfl, Pd, _, rfl, DGet.t (k := pk t) eP5 epx, _, rfl, ?_⟩
      rw [hJ t]
      by_cases hm : t ∈ (clsL n ts ((arS n ts).take i)).flatten
      · rw [decide_eq_true hm]
        rw [if_pos (show inAny _ t = true from decide_eq_true hm)] at st
        refine iteF ⟨qs, pks, _, _, _, rfl, s5, ?_, pq, eP5, ?_, by omega⟩
        · rw [st]; exact hLs
        · rw [st]; exact hJ
      · rw [decide_eq_false hm]
        rw [if_neg (show ¬ inAny _ t = true from fun z => hm (of_decide_eq_true z))] at st
        refine iteT ⟨_, rfl, _, rfl, .ref px, D, n, ts, t, rfl, hDl.mono s5, hn, hx, tA, fun Fd H7 nF s7 eF => ?_⟩
        refine ⟨Fd, _, _, rfl, eF, dS_keys _, fun ys d fs hY pm pw nd => ?_⟩
        have ef := cls_eq (ts := ts) tR pm (steps_nd tR) pw fun x => mem_steps tR
        subst ef
        have sd := same_new (o := .lst ys) nd
        have s78 := s7.trans sd
        have s58 := s5.trans s78
        have hLs8 := hLs.mono s78
        have eP8 := s78 _ _ eP5
        have hY8 := hY.mono (Same.tst sd)
        have dT' : d ≠ T := fun z => by rw [z, s7 _ _ hLs.here] at nd; cases nd
        have dP' : d ≠ Pd := fun z => by rw [z, s7 _ _ eP5] at nd; cases nd
        have dq : d ∉ qs := fun z => by
          obtain ⟨j, hj⟩ := List.mem_iff_getElem?.mp z
          obtain ⟨_, _, _, e2, _⟩ := hLs.at_ j d hj
          rw [s7 _ _ e2] at nd; cases nd
        have nd0 := same_free (s5.trans s7) nd
        have ed8 := upd_same (H := H7) (a := d) (o := .lst ys)
        generalize upd H7 d (.lst ys) = H8 at s78 s58 hLs8 eP8 hY8 ed8 ⊢
        have ql := hLs.len
        have cl := clsL_len (n := n) (ts := ts) (l := (arS n ts).take i)
        rw [List.length_take] at cl
        -- told.append(members)
        refine ⟨_, rfl, .inl ⟨rfl, _, SqL.of hLs8.here⟩, _, rfl, T, _, _, rfl, rfl, hLs8.here, sz' (by rw [List.length_map]; omega), ?_⟩
        have hLs9 := hLs8.add ed8 hY8 dT' dq nd0
        have eP9 : (upd H8 T (.lst (qs.map V.ref ++ [.ref d]))) Pd = some (.dT pks) := by rw [upd_ne (Ne.symm nTP)]; exact eP8
        have ed9 : (upd H8 T (.lst (qs.map V.ref ++ [.ref d]))) d = some (.lst ys) := by rw [upd_ne dT']; exact ed8
        have s9 : Same (upd H D (.frz od (.dT kvs))) (upd H8 T (.lst (qs.map V.ref ++ [.ref d]))) := Same.put s58 nTl
        have hY9 := hY8.mono (tst_put (o := .lst (qs.map V.ref ++ [.ref d])) hLs8.here)
        generalize upd H8 T (.lst (qs.map V.ref ++ [.ref d])) = H9 at hLs9 eP9 ed9 s9 hY9 ⊢
        have yl := hY9.len
        have c0 := clsS_len (n := n) (ts := ts) (t := t)
        have pq9 : Pd ∉ qs ++ [d] := fun z => (List.mem_append.mp z).elim pq fun z => dP' (List.mem_singleton.mp z).symm
        -- placed
        refine ⟨_, rfl, d, rfl, ⟨_, SqL.of ed9⟩, ?_⟩
        refine for_it (walk_list (K := K) (a := d) (xs := ys)) (fun j σ HA => ∃ pks y5, σ = [some (.ref D), some (.ref T), some (.ref Pd), some (.ref px), some (.ref d), y5] ∧ Same (upd H D (.frz od (.dT kvs))) HA ∧ Tst H9 HA ∧ LsAt (upd H D (.frz od (.dT kvs))) HA T (qs ++ [d]) (clsL n ts ((arS n ts).take i) ++ [clsS n ts t]) ∧ HA d = some (.lst ys) ∧ HA Pd = some (.dT pks) ∧ JoinA pks ((clsL n ts ((arS n ts).take i)).flatten ++ (clsS n ts t).take j) ∧ pks.length ≤ 144 * i + j)
          ⟨pks, y5, rfl, s9, Tst.refl _, hLs9, ed9, eP9, by rw [List.take_zero, List.append_nil]; exact hJ, by omega⟩ ?_ ?_ ?_
        · rintro j σ HA _ ⟨_, _, _, _, _, _, edA, _⟩
          exact SqL.of edA
        · rintro j z σ HA HB hj ⟨pks, y5, rfl, sA, tA9, hLsA, edA, ePA, hJA, plA⟩ ⟨rfl, hz⟩
          obtain ⟨r, er, hr'⟩ := hY9.at hz
          obtain ⟨pr, rfl, epr⟩ := hr'.mono tA9
          have lp := len_put pks (pk r) (.bl true)
          have tp : Tst HB (upd HB Pd (.dT (putK pks (pk r) (.bl true)))) := fun b xs e => by rw [upd_ne (fun w => by rw [w, ePA] at e; cases e)]; exact e
          refine ⟨_, rfl, _, rfl, Pd, _, rfl, DPut.t (k := pk r) ePA epr (sz' (by omega)), putK pks (pk r) (.bl true), _, rfl, Same.put sA nPl, tA9.trans tp, ?_, ?_, upd_same, ?_, by omega⟩
          · refine ⟨by rw [upd_ne nTP]; exact hLsA.here, hLsA.len, hLsA.nd, hLsA.out, hLsA.new, fun i2 q2 e => ?_⟩
            obtain ⟨us2, c2, e1, e2, e3⟩ := hLsA.at_ i2 q2 e
            exact ⟨us2, c2, e1, by rw [upd_ne (fun (w : q2 = Pd) => pq9 (w ▸ List.mem_of_getElem? e))]; exact e2, e3.mono tp⟩
          · rw [upd_ne dP']; exact edA
          · rw [List.take_add_one, er, ← List.append_assoc]
            exact joinA_put hJA r _
        · rintro σ HA ⟨pks, y5, rfl, sA, tA9, hLsA, edA, ePA, hJA, plA⟩
          rw [yl, List.take_length] at hJA
          refine ⟨qs ++ [d], pks, _, _, _, rfl, sA, ?_, pq9, ePA, ?_, by omega⟩
          · rw [st]; exact hLsA
          · rw [st, flat_add]; exact hJA
    · rintro σ H5 ⟨qs, pks, y3, y4, y5, rfl, s5, hLs, pq, eP5, hJ, pl⟩
      rw [kl, List.take_length] at hLs
      refine ⟨s5 _ _ upd_same, _, rfl, ?_⟩
      have eD5 := s5 _ _ (upd_same (H := H) (a := D) (o := .frz od (.dT kvs)))
      have sU := same_unlock eD s5
      have tD : Tst H5 (upd H5 D (.dT kvs)) := fun b xs e => by rw [upd_ne (fun w => by rw [w, eD5] at e; cases e)]; exact e
      have nq : ∀ q ∈ qs, q ≠ D := fun q hq z => by
        have := hLs.new q hq
        rw [z, upd_same] at this; cases this
      refine q T qs _ nT sU ⟨by rw [upd_ne (Ne.symm nDT)]; exact hLs.here, hLs.len, hLs.nd, hLs.out, fun q hq => ?_, fun i2 q2 e => ?_⟩
      · have := hLs.new q hq
        rwa [upd_ne (nq q hq)] at this
      · obtain ⟨us2, c2, e1, e2, e3⟩ := hLs.at_ i2 q2 e
        exact ⟨us2, c2, e1, by rw [upd_ne (nq q2 (List.mem_of_getElem? e))]; exact e2, e3.mono tD⟩
end
end My

set_option Elab.async false
set_option linter.all false
set_option maxRecDepth 100000
namespace My
open PySem PySem.Spec PyProof.Rows L2 GxR
theorem ts_ar {n : Nat} {ts : List Ar} (hW : WOk n ts) {t : Ar} (h : t ∈ ts) : t ∈ arS n ts := (mem_arS hW).mpr (.inl h)
theorem ts_arS {n : Nat} {ts : List Ar} (hW : WOk n ts) {t : Ar} (h : t ∈ ts) : sw t ∈ arS n ts := (mem_arS hW).mpr (.inr h)
theorem arS_sw {n : Nat} {ts : List Ar} (hW : WOk n ts) {t : Ar} (h : t ∈ arS n ts) : sw t ∈ arS n ts := (mem_arS hW).mpr (((mem_arS hW).mp h).symm)
section
variable {P : Program} {w : World} {K : PySem.W.Frag} {mg : Str → Option Value} {base : Heap}
end
end My

set_option Elab.async false
set_option linter.all false
set_option maxRecDepth 100000
namespace My
open PySem PySem.Spec PyProof.Rows L2 GxR
theorem dget_dS {H : Hp} {F b : Addr} {S : SN} {x : Ar} (nd : (S.map (·.1)).Nodup) (hx : x ∈ S.map (·.1)) (e : H F = some (.dT (dS S))) (eb : H b = some (.tup [.int x.1, .int x.2])) : DGet H F (.ref b) (some (.int (dOf S x : Int))) := by
  have := DGet.t (k := pk x) e eb
  rw [dS_get nd (mem_dOf nd hx)] at this
  exact this
def wayQ (n : Nat) (ts : List Ar) (one other : Ar) (H : Hp) (Q : VK) : Prop := (wayO n ts one other = none → ∀ H', Same H H' → Q .non H') ∧ ∀ l, wayO n ts one other = some l → ∀ p us H', H p = none → Same H H' → H' p = some (.lst us) → Ties H' us l → Q (.ref p) H'
section
variable {P : Program} {w : World} {K : PySem.W.Frag} {mg : Str → Option Value} {base : Heap}
/-! ### way_in -/
abbrev N_way_in : List Str := ["forcings", "one", "other", "left", "last", "way", "arrow"]
theorem sc_way_in : FnScope N_way_in ["forcings", "one", "other"] (defScope s_way_in) := ⟨rfl, rfl, rfl, by decide +kernel, rfl, by decide +kernel, by decide +kernel⟩
def sp_wayin : Sp := fun vs H Q _ => ∃ (x y : V) (D : Addr) (n : Nat) (ts : List Ar) (s t : Ar), vs = [.ref D, x, y] ∧ ForcD H D n ts ∧ n ≤ 12 ∧ Tie H x s ∧ s ∈ arS n ts ∧ Tie H y t ∧ t ∈ arS n ts ∧ wayQ n ts s t H Q
theorem ok_wayin {f : Addr} {fd : FuncData} (B : Bts mg) (F : Fun K "way_in" "way_in" s_way_in f fd) (c_steps_from : Cl P w K mg base 1 "steps_from" sp_steps) : FnOk P w K mg base CX0 2 f fd ["forcings", "one", "other"] sp_wayin := by
  refine F.ok sc_way_in (fun vs H Q E h => ?_) (fun cdv A outer s H vs Q E hr h => ?_)
  · obtain ⟨x, y, D, n, ts, a, t, rfl, _⟩ := h; rfl
  · obtain ⟨x, y, D, n, ts, a, t, rfl, hD, hn, hx, aA, hy, tA, q0, q1⟩ := h
    refine ⟨_, (pss_cons (ps_set (i := 3) sc_way_in.nd rfl (by first | exact Or.inl rfl | exact Or.inr rfl) (pe_c c_steps_from hr (by decide) (by rfl) (pa_cons (pv 0) (pa_cons (pv 2) pa_nil))))
    (pss_cons (ps_if (pt_cmp (pc_dnotin (hu_of hr) (pv 1) (pv 3))) (pss_one (ps_ret pe_non)) pss_nil)
    (pss_cons (ps_set (i := 4) sc_way_in.nd rfl (by first | exact Or.inl rfl | exact Or.inr rfl) (pv 1))
    (pss_cons (ps_set (i := 5) sc_way_in.nd rfl (by first | exact Or.inl rfl | exact Or.inr rfl) (pe_lst (pa_cons (pv 4) pa_nil)))
    (pss_cons (ps_while PassesOwn.never (pt_cmpR (op_neD hr.units) (pv 4) (pv 2) (nomark _))
      (pss_cons (ps_set (i := 4) sc_way_in.nd rfl (by first | exact Or.inl rfl | exact Or.inr rfl) (pe_callB (cr_minT rfl (u65 hr)) (by rfl) B.min (by decide +kernel) (pa_cons (pe_lc (own := [("arrow", 6)]) (g := (gName 6)) rfl sc_way_in.nd (pi_list (pe_dget (hu_of hr) (pv 0) (pv 4) (fun _ _ => rfl))) (blkOk_by (own := [("arrow", 6)]) (N := N_way_in) (sc := defScope s_way_in) (by decide +kernel)) (fun _ _ _ _ _ => (pg_name (i := 6) sc_way_in.nd rfl (by first | exact Or.inl rfl | exact Or.inr rfl))) (fun _ _ _ _ _ => (pts_one (pt_cmpR op_lt (pe_dget (hu_of hr) (pv 3) (pv 6) (fun _ _ => rfl)) (pe_dget (hu_of hr) (pv 3) (pv 4) (fun _ _ => rfl)) (nomark _)))) (fun _ _ _ _ _ => (pv 6))) pa_nil)))
      (pss_one (ps_expr (pe_bm PySem.F.plainAttrs_list PySem.F.slot_list_append PySem.F.type_list_append mt_append (pv 5) (pa_cons (pv 4) pa_nil))))))
    (pss_one (ps_ret (pv 5)))))))), ?_⟩
    have nn : n * n ≤ 144 := Nat.mul_le_mul hn hn
    have tR := arS_inR tA
    have S0 := steps_stp (ts := ts) tR
    refine ⟨_, rfl, _, rfl, y, D, n, ts, t, rfl, hD, hn, hy, tA, fun Fd H1 nF s1 eF => ?_⟩
    obtain ⟨px, rfl, epx⟩ := id hx
    obtain ⟨py, rfl, epy⟩ := id hy
    refine ⟨_, rfl, _, rfl, Fd, _, rfl, DGet.t (k := pk a) eF (s1 _ _ epx), _, rfl, ?_⟩
    rw [valV_keys (dS_keys _)]
    by_cases hm : a ∈ (stepsF n ts t).map (·.1)
    · rw [decide_eq_true hm]
      refine iteF ⟨_, rfl, _, rfl, by show 1 ≤ sizeLine; decide, fun Wt nW => ?_⟩
      have hw : wayO n ts a t = some (wayF n ts (stepsF n ts t) a) := if_pos hm
      generalize stepsF n ts t = S at S0 eF hm hw
      have sW := same_new (o := .lst [.ref px]) nW
      have nW0 := same_free s1 nW
      have nWF : Wt ≠ Fd := fun z => by rw [z, eF] at nW; cases nW
      have da := S0.low a hm
      let W : Nat → L2.St → Hp → Prop := fun m σ H2 => ∃ (pl : Addr) (ws : List V) (x : Ar) (acc : List Ar) (y6 : Option V), σ = [some (.ref D), some (.ref px), some (.ref py), some (.ref Fd), some (.ref pl), some (.ref Wt), y6] ∧ Same H H2 ∧ H2 Fd = some (.dT (dS S)) ∧ H2 Wt = some (.lst ws) ∧ Ties H2 ws acc ∧ Tie H2 (.ref pl) x ∧ x ∈ S.map (·.1) ∧ dOf S x < m ∧ acc.length + m ≤ dOf S a + 2 ∧ wayR n ts S m x acc = wayF n ts S a
      have sW2 := s1.trans sW
      refine ⟨W, ⟨dOf S a + 1, px, [.ref px], a, [a], none, rfl, sW2, sW _ _ eF, upd_same, Ties.one (hx.mono (Same.tst sW2)), hx.mono (Same.tst sW2), hm, Nat.lt_succ_self _, by show 1 + _ ≤ _; omega, rfl⟩, ?_⟩
      rintro m σ H2 ⟨pl, ws, x, acc, y6, rfl, s2, eF2, eW2, hT, hl, xm, hdm, hal, hwr⟩
      obtain ⟨_, e', epl⟩ := id hl
      cases e'
      refine ⟨_, rfl, _, rfl, dT x, dT t, hl.dp, (hy.mono (Same.tst s2)).dp, shaped_dT x, shaped_dT t, _, rfl, ?_⟩
      rw [eqv_dT]
      by_cases e : x = t
      · rw [decide_eq_true e]
        rw [wayR_end ((S0.zer x xm).mpr e)] at hwr
        exact iteF ⟨_, rfl, q1 _ hw Wt ws H2 nW0 s2 eW2 (hwr ▸ hT)⟩
      · rw [decide_eq_false e]
        have hd0 : ¬ dOf S x = 0 := fun z => e ((S0.zer x xm).mp z)
        have xA := ((S0.rch x).mp xm).ar tA
        obtain ⟨kvs, eD, hkD, hvD⟩ := hD
        obtain ⟨qo, uo, vo, eqo, hTo⟩ := hvD x xA
        obtain ⟨m', rfl⟩ : ∃ m', m = m' + 1 := ⟨m - 1, by omega⟩
        refine iteT ⟨W m', fun σ' H' hh => ⟨m', by omega, hh⟩, ?_⟩
        have g1 : DGet H2 D (.ref pl) (some (.ref qo)) := by
          have := dget_rd (k := pk x) (rd_same eD s2) epl
          rw [vo] at this; exact this
        refine ⟨_, rfl, _, rfl, D, _, rfl, g1, qo, rfl, ⟨_, SqL.of (s2 _ _ eqo)⟩, fun E1 nE1 => ?_⟩
        have hTo2 := hTo.mono (Same.tst s2)
        have fl := frcS_len (n := n) (ts := ts) (t := x)
        refine wk (walk_list (K := K) (a := qo) (xs := uo)) (fun i H3 => ∃ zs, Same H2 H3 ∧ H3 E1 = some (.lst zs) ∧ Ties H3 zs (lessL S x ((frcS n ts x).take i))) ⟨[], same_new nE1, upd_same, by exact trivial⟩ ?_ ?_ ?_
        · rintro i H3 _ ⟨_, s3, _⟩
          exact SqL.of (s3 _ _ (s2 _ _ eqo))
        · rintro i z H3 H4 hi ⟨zs, s3, eE, hZ⟩ ⟨rfl, hz⟩
          obtain ⟨y, ey, hy'⟩ := hTo2.at hz
          have hy3 := hy'.mono (Same.tst s3)
          obtain ⟨pz, rfl, epz⟩ := id hy3
          have ym := S0.fwd xm (List.mem_of_getElem? ey)
          have st := lessL_step S x ((frcS n ts x).take i) y
          rw [show (frcS n ts x).take i ++ [y] = (frcS n ts x).take (i + 1) from by rw [List.take_add_one, ey]; rfl] at st
          have zl := hZ.len
          have zl2 := lessL_len S x ((frcS n ts x).take i)
          rw [List.length_take] at zl2
          refine ⟨rfl, ?_⟩
          refine ⟨_, rfl, _, rfl, Fd, _, rfl, dget_dS S0.nd ym (s3 _ _ eF2) epz, _, rfl, _, rfl, Fd, _, rfl, dget_dS S0.nd xm (s3 _ _ eF2) (s3 _ _ epl), _, _, rfl, rfl, _, rfl, ?_⟩
          by_cases h : dOf S y < dOf S x
          · rw [decide_eq_true (Int.ofNat_lt.mpr h)]
            refine iteT ⟨_, rfl, zs, eE, sz' (by omega), zs ++ [.ref pz], Same.put s3 nE1, upd_same, ?_⟩
            rw [st, if_pos h]
            exact Ties.mono (tst_put eE) (hZ.app (Ties.one hy3))
          · rw [decide_eq_false (fun z => h (Int.ofNat_lt.mp z))]
            refine iteF ⟨zs, s3, eE, ?_⟩
            rw [st, if_neg h, List.append_nil]; exact hZ
        · rintro H3 ⟨zs, s3, eE, hZ⟩
          rw [hTo.len, List.take_length] at hZ
          refine ⟨E1, zs, _, rfl, SqL.of eE, hZ, S0.less tA xm hd0, fun z y ym ymin hz => ?_⟩
          have hnx := nxt_min ym ymin
          have hn2 := nxt_some hnx
          have y2 := S0.fwd xm hn2.1
          have eW3 := s3 _ _ eW2
          obtain ⟨pz, rfl, epz⟩ := id hz
          have tl := hT.len
          have tp := tst_put (o := .lst (ws ++ [.ref pz])) eW3
          refine ⟨_, rfl, .inl ⟨rfl, _, SqL.of eW3⟩, _, rfl, Wt, _, _, rfl, rfl, eW3, sz' (by omega), pz, ws ++ [.ref pz], y, acc ++ [y], _, rfl, Same.put (s2.trans s3) nW0, ?_, upd_same, Ties.mono tp ((hT.mono (Same.tst s3)).app (Ties.one hz)), hz.mono tp, y2, by omega, ?_, ?_⟩
          · rw [upd_ne (Ne.symm nWF)]; exact s3 _ _ eF2
          · rw [List.length_append]; show acc.length + 1 + m' ≤ _; omega
          · rw [← hwr, wayR_next hd0 hnx]
    · rw [decide_eq_false hm]
      exact iteT (q0 (if_neg hm) _ s1)
end
end My

set_option Elab.async false
set_option linter.all false
set_option maxRecDepth 100000
namespace My
open PySem PySem.Spec PyProof.Rows L2 GxR
def okB (ps : List Ar) (s t : Ar) : Bool := !decide (s.2 = t.1) || decide ((s.1, t.2) ∈ ps)
def ledB (ps : List Ar) : Bool := ps.all fun s => ps.all fun t => okB ps s t
theorem all_take {α : Type} {f : α → Bool} {l : List α} {i : Nat} {x : α} (h : (l.take i).all f = true) (e : l[i]? = some x) (hx : f x = true) : (l.take (i + 1)).all f = true := by
  rw [List.take_add_one, e, List.all_append, h]
  show (true && (f x && true)) = true
  rw [hx]; rfl
theorem all_no {α : Type} {f : α → Bool} {l : List α} {i : Nat} {x : α} (e : l[i]? = some x) (hx : f x = false) : l.all f = false := by
  rw [List.all_eq_false]
  exact ⟨x, List.mem_of_getElem? e, by rw [hx]; exact Bool.false_ne_true⟩
theorem eqI' (a b : Int) : decide (V.int a = V.int b) = decide (a = b) := decide_eq_decide.mpr ⟨fun e => V.int.inj e, fun e => congrArg V.int e⟩
def kTrue (ps : List Ar) : List (List Key × V) := ps.map fun t => (pk t, V.bl true)
theorem kTrue_keys (ps : List Ar) : (kTrue ps).map (·.1) = ps.map pk := by unfold kTrue; rw [List.map_map]; rfl
theorem joinA_true (ps : List Ar) : JoinA (mergeT [] (kTrue ps)) ps := fun o => by
  rw [valV_mergeT, valV_keys (kTrue_keys ps)]; exact Bool.false_or _
theorem paired_app {α β : Type} {R : α → β → Prop} : ∀ {l : List α} {m : List β} {a : α} {b : β}, Paired R l m → R a b → Paired R (l ++ [a]) (m ++ [b])
  | _, _, _, _, .nil, h => .cons h .nil
  | _, _, _, _, .cons h t, k => .cons h (paired_app t k)
theorem paired_mono {α β : Type} {R S : α → β → Prop} (f : ∀ a b, R a b → S a b) : ∀ {l : List α} {m : List β}, Paired R l m → Paired S l m
  | _, _, .nil => .nil
  | _, _, .cons h t => .cons (f _ _ h) (paired_mono f t)
theorem pts_len {ts ps : List Ar} (h : Pts ts ps) : ps.length = ts.length := by rw [← h, List.length_map]
theorem pts_step {n : Nat} {ts ps : List Ar} (hw : WOk n ts) {i : Nat} {t : Ar} (h : Pts (ts.take i) ps) (e : ts[i]? = some t) (b : Bool) : Pts (ts.take (i + 1)) (ps ++ [if b = true then t else sw t]) := by
  unfold Pts at *
  have hb := hw.2 t (List.mem_of_getElem? e)
  rw [List.take_add_one, e, List.map_append, h]
  congr 1
  cases b with
  | true => exact congrArg (fun z => [z]) (nrm_t hb.2.1)
  | false => exact congrArg (fun z => [z]) (nrm_sw hb.2.1)
theorem nrm_sw' (p : Ar) (h : p.1 ≠ p.2) : nrm (sw p) = nrm p := by
  unfold nrm sw
  dsimp only
  by_cases h1 : p.1 < p.2
  · rw [if_neg (by omega), if_pos h1]
  · rw [if_pos (by omega), if_neg h1]
theorem pts_ne {n : Nat} {ts ps : List Ar} (hw : WOk n ts) (h : Pts ts ps) {p : Ar} (hp : p ∈ ps) : p.1 ≠ p.2 := fun e => by
  have : nrm p ∈ ts := by rw [← h]; exact List.mem_map.mpr ⟨p, hp, rfl⟩
  have hb := hw.2 _ this
  unfold nrm sw at hb
  split at hb <;> omega
theorem pts_set {n : Nat} {ts ps : List Ar} (hw : WOk n ts) (h : Pts ts ps) {j : Nat} {p : Ar} (e : ps[j]? = some p) : Pts ts (ps.set j (sw p)) := by
  have hne := pts_ne hw h (List.mem_of_getElem? e)
  unfold Pts at *
  rw [← h]
  refine List.ext_getElem? fun i => ?_
  rw [List.getElem?_map, List.getElem?_map]
  by_cases hij : j = i
  · subst hij
    rw [List.getElem?_set_self (List.getElem?_eq_some_iff.mp e).1, e]
    exact congrArg some (nrm_sw' p hne)
  · rw [List.getElem?_set_ne hij]
theorem Ties.set {H : Hp} : ∀ {vs : List V} {ts : List Ar} {j : Nat} {v : V} {t : Ar}, Ties H vs ts → Tie H v t → Ties H (vs.set j v) (ts.set j t)
  | [], [], _, _, _, _, _ => trivial
  | _ :: _, _ :: _, 0, _, _, h, k => ⟨k, h.2⟩
  | _ :: _, _ :: _, j + 1, _, _, h, k => ⟨h.1, Ties.set (j := j) h.2 k⟩
  | [], _ :: _, _, _, _, h, _ => h.elim
  | _ :: _, [], _, _, _, h, _ => h.elim
section
variable {P : Program} {w : World} {K : PySem.W.Frag} {mg : Str → Option Value} {base : Heap}
end
end My

set_option linter.all false
namespace My
namespace Tr
variable {V : Type}
/-- y is an arrow that x forces -/
def Fc (T : V → V → Prop) (x y : V × V) : Prop := T y.1 y.2 ∧ ((x.1 = y.1 ∧ x.2 ≠ y.2 ∧ ¬ T x.2 y.2) ∨ (x.2 = y.2 ∧ x.1 ≠ y.1 ∧ ¬ T x.1 y.1))
inductive R (T : V → V → Prop) (x : V × V) : V × V → Prop
  | refl : R T x x
  | step {y z : V × V} : R T x y → Fc T y z → R T x z
def sw (x : V × V) : V × V := (x.2, x.1)
structure Gr (T : V → V → Prop) : Prop where
  sy : ∀ {a b}, T a b → T b a
  ir : ∀ {a}, ¬ T a a
variable {T : V → V → Prop}
theorem R.trans {x y z : V × V} (h : R T x y) (k : R T y z) : R T x z := by
  induction k with
  | refl => exact h
  | step _ f ih => exact ih.step f
theorem R.ar {x y : V × V} (hx : T x.1 x.2) (h : R T x y) : T y.1 y.2 := by
  cases h with
  | refl => exact hx
  | step _ f => exact f.1
theorem Fc.symm (G : Gr T) {x y : V × V} (hx : T x.1 x.2) (h : Fc T x y) : Fc T y x := by
  refine ⟨hx, ?_⟩
  rcases h.2 with ⟨a, b, c⟩ | ⟨a, b, c⟩
  · exact .inl ⟨a.symm, b.symm, fun z => c (G.sy z)⟩
  · exact .inr ⟨a.symm, b.symm, fun z => c (G.sy z)⟩
theorem R.symm (G : Gr T) {x y : V × V} (hx : T x.1 x.2) (h : R T x y) : R T y x := by
  induction h with
  | refl => exact .refl
  | step k f ih => exact (R.step .refl (f.symm G (k.ar hx))).trans ih
theorem Fc.sw (G : Gr T) {x y : V × V} (h : Fc T x y) : Fc T (sw x) (sw y) := ⟨G.sy h.1, h.2.symm⟩
theorem R.sw (G : Gr T) {x y : V × V} (h : R T x y) : R T (sw x) (sw y) := by
  induction h with
  | refl => exact .refl
  | step _ f ih => exact ih.step (f.sw G)
/-- the lemma on triangles -/
theorem tri (G : Gr T) {a b c : V} (ab : T a b) (ac : T a c) (bc : T b c) (n1 : ¬ R T (b, c) (a, c)) (n2 : ¬ R T (b, c) (b, a)) {x : V × V} (h : R T (b, c) x) :
    (T a x.1 ∧ R T (a, b) (a, x.1)) ∧ (T a x.2 ∧ R T (a, c) (a, x.2)) := by
  induction h with
  | refl => exact ⟨⟨ab, .refl⟩, ⟨ac, .refl⟩⟩
  | @step y z k f ih =>
    obtain ⟨⟨t1, r1⟩, ⟨t2, r2⟩⟩ := ih
    obtain ⟨y1, y2⟩ := y
    obtain ⟨z1, z2⟩ := z
    dsimp only at *
    -- what must not be
    have no1 : ¬ R T (b, c) (y1, a) := fun r => n2 (r.trans ((R.sw G r1).symm G (G.sy ab)))
    have no2 : ¬ R T (b, c) (a, y2) := fun r => n1 (r.trans (r2.symm G ac))
    have kz := k.step f
    obtain ⟨tz, ⟨e, ne, ng⟩ | ⟨e, ne, ng⟩⟩ := f
    · dsimp only at e ne ng tz
      subst e
      refine ⟨⟨t1, r1⟩, ?_⟩
      have h1 : a ≠ z2 := fun z => no1 (by rw [z]; exact kz)
      have h2 : T a z2 := Classical.byContradiction fun z => no1 (kz.step ⟨G.sy t1, .inl ⟨rfl, h1.symm, fun zz => z (G.sy zz)⟩⟩)
      exact ⟨h2, r2.step ⟨h2, .inl ⟨rfl, ne, ng⟩⟩⟩
    · dsimp only at e ne ng tz
      subst e
      refine ⟨?_, ⟨t2, r2⟩⟩
      have h1 : a ≠ z1 := fun z => no2 (by rw [z]; exact kz)
      have h2 : T a z1 := Classical.byContradiction fun z => no2 (kz.step ⟨t2, .inr ⟨rfl, h1.symm, fun zz => z (G.sy zz)⟩⟩)
      exact ⟨h2, r1.step ⟨h2, .inl ⟨rfl, ne, ng⟩⟩⟩
/-- v is a place of an arrow of the class of x -/
def At (T : V → V → Prop) (x : V × V) (v : V) : Prop := ∃ w, R T x (v, w) ∨ R T x (w, v)
/-- one arrow of each tie, whole classes, the least place of a class being the begin of an arrow -/
structure Ori (T : V → V → Prop) (r : V → Nat) (O : V × V → Prop) : Prop where
  ar : ∀ x, O x → T x.1 x.2
  one : ∀ a b, T a b → O (a, b) ∨ O (b, a)
  anti : ∀ a b, O (a, b) → ¬ O (b, a)
  cl : ∀ x y, O x → Fc T x y → O y
  lo : ∀ x v, O x → At T x v → (∀ u, At T x u → r v ≤ r u) → ∃ w, R T x (v, w)
theorem Ori.clR {r : V → Nat} {O : V × V → Prop} (o : Ori T r O) {x y : V × V} (hx : O x) (h : R T x y) : O y := by
  induction h with
  | refl => exact hx
  | step _ f ih => exact o.cl _ _ ih f
theorem Ori.no {r : V → Nat} {O : V × V → Prop} (G : Gr T) (o : Ori T r O) {a b c : V} (h1 : O (a, b)) (h2 : O (b, c)) (h3 : O (c, a)) {v : V} (hv : At T (b, c) v)
    (l1 : ∀ u, At T (a, b) u → r v ≤ r u) (l2 : ∀ u, At T (b, c) u → r v ≤ r u) : False := by
  have t1 := o.ar _ h1
  have t2 := o.ar _ h2
  have t3 := o.ar _ h3
  obtain ⟨w, hw⟩ := o.lo _ v h2 hv l2
  obtain ⟨⟨av, rav⟩, ⟨aw, raw⟩⟩ := tri G t1 (G.sy t3) t2 (fun z => o.anti _ _ h3 (o.clR h2 z)) (fun z => o.anti _ _ h1 (o.clR h2 z)) hw
  dsimp only at av rav aw raw
  -- (a, v) of the first, (v, w) of the second, (w, a) of the third
  have oav := o.clR h1 rav
  have ovw := o.clR h2 hw
  have owa : O (w, a) := o.clR h3 (R.sw G raw)
  obtain ⟨x, hx⟩ := o.lo (a, b) v h1 ⟨a, .inr rav⟩ l1
  have hx' : R T (a, v) (v, x) := (rav.symm G t1).trans hx
  obtain ⟨⟨_, rwv⟩, _⟩ := tri G (a := w) (b := a) (c := v) (o.ar _ owa) (G.sy (o.ar _ ovw)) (o.ar _ oav) (fun z => o.anti _ _ ovw (o.clR oav z)) (fun z => o.anti _ _ owa (o.clR oav z)) hx'
  exact o.anti _ _ ovw (o.clR owa rwv)
theorem least_nat {α : Type} (r : α → Nat) (P : α → Prop) {a : α} (h : P a) : ∃ v, P v ∧ ∀ u, P u → r v ≤ r u := by
  have : ∀ (k : Nat) (a : α), P a → r a ≤ k → ∃ v, P v ∧ ∀ u, P u → r v ≤ r u := by
    intro k
    induction k with
    | zero => exact fun a h z => ⟨a, h, fun u _ => by omega⟩
    | succ k ih =>
      intro a h z
      by_cases e : ∃ b, P b ∧ r b ≤ k
      · obtain ⟨b, hb, l⟩ := e; exact ih b hb l
      · refine ⟨a, h, fun u hu => ?_⟩
        have : ¬ r u ≤ k := fun l => e ⟨u, hu, l⟩
        omega
  exact this _ a h (Nat.le_refl _)
theorem Ori.led {r : V → Nat} {O : V × V → Prop} (G : Gr T) (o : Ori T r O) {a b c : V} (h1 : O (a, b)) (h2 : O (b, c)) : O (a, c) := by
  have t1 := o.ar _ h1
  have t2 := o.ar _ h2
  have nac : a ≠ c := fun z => by subst z; exact o.anti _ _ h1 h2
  have tac : T a c := Classical.byContradiction fun z => o.anti _ _ h2 (o.cl (a, b) (c, b) h1 ⟨G.sy t2, .inr ⟨rfl, nac, z⟩⟩)
  rcases o.one _ _ tac with h | h3
  · exact h
  exfalso
  obtain ⟨v, hv, lv⟩ := least_nat r (fun v => At T (a, b) v ∨ At T (b, c) v ∨ At T (c, a) v) (a := a) (.inl ⟨b, .inl .refl⟩)
  have l1 : ∀ u, At T (a, b) u → r v ≤ r u := fun u h => lv u (.inl h)
  have l2 : ∀ u, At T (b, c) u → r v ≤ r u := fun u h => lv u (.inr (.inl h))
  have l3 : ∀ u, At T (c, a) u → r v ≤ r u := fun u h => lv u (.inr (.inr h))
  rcases hv with hv | hv | hv
  · exact o.no G h3 h1 h2 hv l3 l1
  · exact o.no G h1 h2 h3 hv l1 l2
  · exact o.no G h2 h3 h1 hv l2 l3

/-! ### each class by its least tie -/
def lx (r : V → Nat) (x y : V × V) : Prop := r x.1 < r y.1 ∨ (r x.1 = r y.1 ∧ r x.2 ≤ r y.2)
def Up (T : V → V → Prop) (r : V → Nat) (x : V × V) : Prop := T x.1 x.2 ∧ ∃ m, R T x m ∧ ∀ y, (R T x y ∨ R T (sw x) y) → lx r m y
/-- places with a tie are told apart by their rank -/
def Inj (T : V → V → Prop) (r : V → Nat) : Prop := ∀ u v, (∃ w, T u w) → (∃ w, T v w) → r u = r v → u = v
theorem lx_least {r : V → Nat} (inj : Inj T r) (P : V × V → Prop) (hP : ∀ y, P y → T y.1 y.2) {a : V × V} (h : P a) : ∃ m, P m ∧ ∀ y, P y → lx r m y := by
  obtain ⟨v, ⟨w, hv⟩, lv⟩ := least_nat r (fun v => ∃ w, P (v, w)) (a := a.1) ⟨a.2, h⟩
  obtain ⟨w, hw, lw⟩ := least_nat r (fun w => P (v, w)) hv
  refine ⟨(v, w), hw, fun y hy => ?_⟩
  have h1 := lv y.1 ⟨y.2, hy⟩
  rcases Nat.lt_or_ge (r v) (r y.1) with z | z
  · exact .inl z
  · have e := Nat.le_antisymm h1 z
    have e2 : v = y.1 := inj _ _ ⟨w, hP _ hw⟩ ⟨y.2, hP _ hy⟩ e
    exact .inr ⟨e, lw y.2 (by rw [e2]; exact hy)⟩
theorem lx_anti {r : V → Nat} (G : Gr T) (inj : Inj T r) {x y : V × V} (hx : T x.1 x.2) (hy : T y.1 y.2) (h : lx r x y) (k : lx r y x) : x = y := by
  have e1 : r x.1 = r y.1 := by unfold lx at *; omega
  have e2 : r x.2 = r y.2 := by unfold lx at *; omega
  exact Prod.ext (inj _ _ ⟨_, hx⟩ ⟨_, hy⟩ e1) (inj _ _ ⟨_, G.sy hx⟩ ⟨_, G.sy hy⟩ e2)
theorem both_ar (G : Gr T) {x y : V × V} (hx : T x.1 x.2) (h : R T x y ∨ R T (sw x) y) : T y.1 y.2 := h.elim (fun k => k.ar hx) (fun k => k.ar (G.sy hx))
theorem up_ori {r : V → Nat} (G : Gr T) (inj : Inj T r) (nb : ∀ x, T x.1 x.2 → ¬ R T x (sw x)) : Ori T r (Up T r) where
  ar := fun x h => h.1
  one := fun a b t => by
    obtain ⟨m, hm, lm⟩ := lx_least inj (fun y => R T (a, b) y ∨ R T (sw (a, b)) y) (fun y h => both_ar G (x := (a, b)) t h) (a := (a, b)) (.inl .refl)
    rcases hm with hm | hm
    · exact .inl ⟨t, m, hm, lm⟩
    · exact .inr ⟨G.sy t, m, hm, fun y hy => lm y hy.symm⟩
  anti := fun a b h k => by
    obtain ⟨t, m, hm, lm⟩ := h
    obtain ⟨t', m', hm', lm'⟩ := k
    have e := lx_anti G inj (hm.ar t) (hm'.ar t') (lm m' (.inr hm')) (lm' m (.inr hm))
    subst e
    exact nb (a, b) t (hm.trans (hm'.symm G t'))
  cl := fun x y h f => by
    obtain ⟨t, m, hm, lm⟩ := h
    have xy : R T x y := .step .refl f
    have yx : R T y x := xy.symm G t
    exact ⟨f.1, m, yx.trans hm, fun z hz => lm z (hz.imp (fun k => xy.trans k) (fun k => (R.sw G xy).trans k))⟩
  lo := fun x v h hv l => by
    obtain ⟨t, m, hm, lm⟩ := h
    have h1 := l m.1 ⟨m.2, .inl hm⟩
    have tm := hm.ar t
    have tv : ∃ w, T v w := by
      obtain ⟨w, k | k⟩ := hv
      · exact ⟨w, k.ar t⟩
      · exact ⟨w, G.sy (k.ar t)⟩
    have h2 : r m.1 ≤ r v := by
      obtain ⟨w, k | k⟩ := hv
      · have := lm _ (.inl k); unfold lx at this; dsimp only at this; omega
      · have := lm _ (.inr (R.sw G k)); unfold lx at this; dsimp only [sw] at this; omega
    have e : v = m.1 := inj _ _ tv ⟨_, tm⟩ (Nat.le_antisymm h1 h2)
    exact ⟨m.2, by rw [e]; exact hm⟩
/-- a led pointing, as the set of its arrows -/
structure Led (T : V → V → Prop) (O : V × V → Prop) : Prop where
  ar : ∀ x, O x → T x.1 x.2
  one : ∀ a b, T a b → O (a, b) ∨ O (b, a)
  anti : ∀ a b, O (a, b) → ¬ O (b, a)
  tr : ∀ a b c, O (a, b) → O (b, c) → O (a, c)
theorem Led.cl {O : V × V → Prop} (G : Gr T) (o : Led T O) {x y : V × V} (h : O x) (f : Fc T x y) : O y := by
  obtain ⟨x1, x2⟩ := x
  obtain ⟨y1, y2⟩ := y
  obtain ⟨t, ⟨e, ne, ng⟩ | ⟨e, ne, ng⟩⟩ := f
  · dsimp only at *
    subst e
    rcases o.one _ _ t with k | k
    · exact k
    · exact absurd (G.sy (o.ar _ (o.tr _ _ _ k h))) ng
  · dsimp only at *
    subst e
    rcases o.one _ _ t with k | k
    · exact k
    · exact absurd (o.ar _ (o.tr _ _ _ h k)) ng
theorem Led.clR {O : V × V → Prop} (G : Gr T) (o : Led T O) {x y : V × V} (h : O x) (k : R T x y) : O y := by
  induction k with
  | refl => exact h
  | step _ f ih => exact o.cl G ih f
theorem Led.nb {O : V × V → Prop} (G : Gr T) (o : Led T O) : ∀ x, T x.1 x.2 → ¬ R T x (sw x) := by
  rintro ⟨a, b⟩ t h
  rcases o.one _ _ t with k | k
  · exact o.anti _ _ k (o.clR G k h)
  · exact o.anti _ _ k (o.clR G k (R.sw G h))
theorem up_led {r : V → Nat} (G : Gr T) (inj : Inj T r) (nb : ∀ x, T x.1 x.2 → ¬ R T x (sw x)) : Led T (Up T r) :=
  have o := up_ori G inj nb
  ⟨o.ar, o.one, o.anti, fun _ _ _ h k => o.led G h k⟩

/-! ### more than some arrows -/
theorem ex_min (Q : V → V → Prop) (tr : ∀ a b c, Q a b → Q b c → Q a c) (ir : ∀ a, ¬ Q a a) : ∀ (vs : List V) (P : V → Prop), (∀ v, P v → v ∈ vs) → ∀ a, P a → ∃ v, P v ∧ ∀ u, P u → ¬ Q u v
  | [], P, hP, a, ha => absurd (hP a ha) List.not_mem_nil
  | x :: vs, P, hP, a, ha => by
    by_cases e : ∃ b, P b ∧ b ≠ x
    · obtain ⟨b, hb, nb⟩ := e
      obtain ⟨v, ⟨hv, nv⟩, lv⟩ := ex_min Q tr ir vs (fun v => P v ∧ v ≠ x) (fun v h => (List.mem_cons.mp (hP v h.1)).resolve_left h.2) b ⟨hb, nb⟩
      by_cases k : P x ∧ Q x v
      · refine ⟨x, k.1, fun u hu q => ?_⟩
        by_cases ux : u = x
        · subst ux; exact ir _ q
        · exact lv u ⟨hu, ux⟩ (tr _ _ _ q k.2)
      · refine ⟨v, hv, fun u hu q => ?_⟩
        by_cases ux : u = x
        · subst ux; exact k ⟨hu, q⟩
        · exact lv u ⟨hu, ux⟩ q
    · refine ⟨a, ha, fun u hu q => ?_⟩
      have e1 : u = x := Classical.byContradiction fun z => e ⟨u, hu, z⟩
      have e2 : a = x := Classical.byContradiction fun z => e ⟨a, ha, z⟩
      subst e1; subst e2; exact ir _ q
theorem ex_rank (Q : V → V → Prop) (tr : ∀ a b c, Q a b → Q b c → Q a c) (ir : ∀ a, ¬ Q a a) : ∀ (k : Nat) (vs : List V), vs.length ≤ k → ∃ r : V → Nat, (∀ a b, a ∈ vs → b ∈ vs → r a = r b → a = b) ∧ ∀ a b, a ∈ vs → b ∈ vs → Q a b → r a < r b := by
  intro k
  induction k with
  | zero =>
    intro vs h
    have : vs = [] := List.length_eq_zero_iff.mp (by omega)
    subst this
    exact ⟨fun _ => 0, fun a _ h => absurd h List.not_mem_nil, fun a _ h => absurd h List.not_mem_nil⟩
  | succ k ih =>
    intro vs h
    by_cases e : vs = []
    · subst e
      exact ⟨fun _ => 0, fun a _ h => absurd h List.not_mem_nil, fun a _ h => absurd h List.not_mem_nil⟩
    · obtain ⟨a0, h0⟩ := List.exists_mem_of_ne_nil vs e
      obtain ⟨v, hv, lv⟩ := ex_min Q tr ir vs (fun v => v ∈ vs) (fun _ h => h) a0 h0
      have : ∃ ws : List V, ws.length ≤ k ∧ ∀ u, u ∈ ws ↔ (u ∈ vs ∧ u ≠ v) := by
        haveI : DecidableEq V := fun a b => Classical.propDecidable (a = b)
        refine ⟨vs.filter fun u => decide (u ≠ v), ?_, fun u => ?_⟩
        · have : (vs.filter fun u => decide (u ≠ v)).length < vs.length := by
            rw [List.length_filter_lt_length_iff_exists]
            exact ⟨v, hv, by simp⟩
          omega
        · rw [List.mem_filter, decide_eq_true_iff]
      obtain ⟨ws, hw, mw⟩ := this
      obtain ⟨r, r1, r2⟩ := ih ws hw
      haveI : DecidableEq V := fun a b => Classical.propDecidable (a = b)
      refine ⟨fun u => if u = v then 0 else r u + 1, fun a b ha hb z => ?_, fun a b ha hb q => ?_⟩
      · dsimp only at z
        by_cases ea : a = v
        · by_cases eb : b = v
          · rw [ea, eb]
          · rw [if_pos ea, if_neg eb] at z; omega
        · by_cases eb : b = v
          · rw [if_neg ea, if_pos eb] at z; omega
          · rw [if_neg ea, if_neg eb] at z
            exact r1 a b ((mw a).mpr ⟨ha, ea⟩) ((mw b).mpr ⟨hb, eb⟩) (by omega)
      · dsimp only
        by_cases eb : b = v
        · subst eb; exact absurd q (lv a ha)
        · by_cases ea : a = v
          · rw [if_pos ea, if_neg eb]; omega
          · rw [if_neg ea, if_neg eb]
            have := r2 a b ((mw a).mpr ⟨ha, ea⟩) ((mw b).mpr ⟨hb, eb⟩) q
            omega
/-- arrows that are closed: by forcings, and by two in a row -/
structure Cld (T : V → V → Prop) (Kn : V × V → Prop) : Prop where
  ar : ∀ x, Kn x → T x.1 x.2
  anti : ∀ a b, Kn (a, b) → ¬ Kn (b, a)
  cl : ∀ x y, Kn x → Fc T x y → Kn y
  tr : ∀ a b c, Kn (a, b) → Kn (b, c) → Kn (a, c)
theorem Cld.clR {Kn : V × V → Prop} (o : Cld T Kn) {x y : V × V} (hx : Kn x) (h : R T x y) : Kn y := by
  induction h with
  | refl => exact hx
  | step _ f ih => exact o.cl _ _ ih f
theorem Cld.ir {Kn : V × V → Prop} (o : Cld T Kn) (a : V) : ¬ Kn (a, a) := fun h => o.anti _ _ h h
theorem Cld.ext {Kn : V × V → Prop} (G : Gr T) (vs : List V) (fin : ∀ a b, T a b → a ∈ vs) (nb : ∀ x, T x.1 x.2 → ¬ R T x (sw x)) (o : Cld T Kn) {a b : V} (t : T a b) (n1 : ¬ Kn (b, a)) :
    ∃ O, Led T O ∧ (∀ x, Kn x → O x) ∧ O (a, b) := by
  -- a rank to begin with
  obtain ⟨r0, i0, q0⟩ := ex_rank (fun x y => Kn (x, y)) o.tr o.ir vs.length vs (Nat.le_refl _)
  have inj0 : Inj T r0 := fun u v ⟨w, hw⟩ ⟨w', hw'⟩ e => i0 u v (fin _ _ hw) (fin _ _ hw') e
  have led0 := up_led G inj0 nb
  -- the places of the class
  have atv : ∀ {v}, At T (a, b) v → v ∈ vs := fun {v} ⟨w, h⟩ => h.elim (fun k => fin _ _ (k.ar t)) (fun k => fin _ _ (G.sy (k.ar t)))
  have nD : ∀ {x y}, Kn (x, y) → ¬ R T (a, b) (y, x) := fun {x y} k h => n1 (o.clR k ((R.sw G h).symm G (G.sy t)))
  have src : ∃ v, (At T (a, b) v ∧ ∀ w, ¬ R T (a, b) (w, v)) := by
    rcases led0.one _ _ t with k | k
    · obtain ⟨v, hv, lv⟩ := ex_min (fun x y => Up T r0 (x, y)) led0.tr (fun x h => led0.anti _ _ h h) vs (At T (a, b)) (fun _ h => atv h) a ⟨b, .inl .refl⟩
      exact ⟨v, hv, fun w h => lv w ⟨v, .inl h⟩ (led0.clR G k h)⟩
    · obtain ⟨v, hv, lv⟩ := ex_min (fun x y => Up T r0 (y, x)) (fun x y z h h' => led0.tr _ _ _ h' h) (fun x h => led0.anti _ _ h h) vs (At T (a, b)) (fun _ h => atv h) a ⟨b, .inl .refl⟩
      exact ⟨v, hv, fun w h => lv w ⟨v, .inl h⟩ (led0.clR G k (R.sw G h))⟩
  obtain ⟨v0, s0⟩ := src
  -- a first place that is least by what is known, too
  obtain ⟨v, ⟨hv, nv⟩, lv⟩ := ex_min (fun x y => Kn (x, y)) o.tr o.ir vs (fun v => At T (a, b) v ∧ ∀ w, ¬ R T (a, b) (w, v)) (fun _ h => atv h.1) v0 s0
  have lowS : ∀ u, At T (a, b) u → ¬ Kn (u, v) := fun x hx k => by
    refine lv x ⟨hx, fun w h => ?_⟩ k
    have th := h.ar t
    have tk := o.ar _ k
    dsimp only at th tk
    have wy : w ≠ v := fun z => by subst z; exact nD k h
    have twy : T v w := Classical.byContradiction fun z => nD (o.cl (x, v) (x, w) k ⟨G.sy th, .inl ⟨rfl, wy.symm, z⟩⟩) h
    have tr3 : ∀ {z : V × V}, R T (w, x) z → T v z.1 ∧ T v z.2 := fun {z} hz =>
      (fun q => ⟨q.1.1, q.2.1⟩) (tri G (a := v) (b := w) (c := x) twy (G.sy tk) th (fun q => nD k (h.trans q)) (fun q => nv w (h.trans q)) hz)
    obtain ⟨u, hu | hu⟩ := hv
    · exact G.ir (tr3 ((h.symm G t).trans hu)).1
    · exact G.ir (tr3 ((h.symm G t).trans hu)).2
  -- the rank that is wanted
  obtain ⟨r, ri, rq⟩ := ex_rank (fun x y => Kn (x, y) ∨ ((x = v ∨ Kn (x, v)) ∧ ∃ s, At T (a, b) s ∧ s ≠ v ∧ (y = s ∨ Kn (s, y))))
    (fun x y z h k => by
      rcases h with h | ⟨h1, s, h2, h3, h4⟩
      · rcases k with k | ⟨k1, k2⟩
        · exact .inl (o.tr _ _ _ h k)
        · refine .inr ⟨.inr ?_, k2⟩
          rcases k1 with k1 | k1
          · rw [← k1]; exact h
          · exact o.tr _ _ _ h k1
      · rcases k with k | ⟨k1, k2⟩
        · refine .inr ⟨h1, s, h2, h3, .inr ?_⟩
          rcases h4 with h4 | h4
          · rw [← h4]; exact k
          · exact o.tr _ _ _ h4 k
        · exfalso
          rcases h4 with h4 | h4 <;> rcases k1 with k1 | k1
          · exact h3 (h4.symm.trans k1)
          · rw [h4] at k1; exact lowS s h2 k1
          · rw [k1] at h4; exact lowS s h2 h4
          · exact lowS s h2 (o.tr _ _ _ h4 k1))
    (fun x h => by
      rcases h with h | ⟨h1, s, h2, h3, h4⟩
      · exact o.ir _ h
      · rcases h4 with h4 | h4 <;> rcases h1 with k1 | k1
        · exact h3 (h4.symm.trans k1)
        · rw [h4] at k1; exact lowS s h2 k1
        · rw [k1] at h4; exact lowS s h2 h4
        · exact lowS s h2 (o.tr _ _ _ h4 k1)) vs.length vs (Nat.le_refl _)
  have inj : Inj T r := fun u v ⟨w, hw⟩ ⟨w', hw'⟩ e => ri u v (fin _ _ hw) (fin _ _ hw') e
  refine ⟨Up T r, up_led G inj nb, fun x kx => ?_, ?_⟩
  · have tx := o.ar _ kx
    obtain ⟨m, hm, lm⟩ := lx_least inj (fun y => R T x y ∨ R T (sw x) y) (fun y h => both_ar G tx h) (a := x) (.inl .refl)
    rcases hm with hm | hm
    · exact ⟨tx, m, hm, lm⟩
    · exfalso
      have km : Kn (sw m) := o.clR kx (R.sw G hm)
      have tm := o.ar _ km
      have h1 := rq m.2 m.1 (fin _ _ tm) (fin _ _ (G.sy tm)) (.inl km)
      have h2 := lm (sw m) (.inl (R.sw G hm))
      unfold lx at h2; dsimp only [sw] at h2; omega
  · obtain ⟨m, hm, lm⟩ := lx_least inj (fun y => R T (a, b) y ∨ R T (sw (a, b)) y) (fun y h => both_ar G (x := (a, b)) t h) (a := (a, b)) (.inl .refl)
    have tm := both_ar G (x := (a, b)) t hm
    have am : At T (a, b) m.1 := hm.elim (fun k => ⟨m.2, .inl k⟩) (fun k => ⟨m.2, .inr (R.sw G k)⟩)
    have tv : ∃ w, T v w := by
      obtain ⟨w, k | k⟩ := hv
      · exact ⟨w, k.ar t⟩
      · exact ⟨w, G.sy (k.ar t)⟩
    have l1 : r m.1 ≤ r v := by
      obtain ⟨w, k | k⟩ := hv
      · have := lm _ (.inl k); unfold lx at this; dsimp only at this; omega
      · have := lm _ (.inr (R.sw G k)); unfold lx at this; dsimp only [sw] at this; omega
    have e : m.1 = v := Classical.byContradiction fun z => by
      have := rq v m.1 (atv hv) (atv am) (.inr ⟨.inl rfl, m.1, am, z, .inl rfl⟩)
      omega
    rcases hm with hm | hm
    · exact ⟨t, m, hm, lm⟩
    · refine absurd (R.sw G hm) ?_
      have := nv m.2
      rw [← e] at this
      exact this
end Tr
end My

set_option Elab.async false
set_option linter.all false
set_option maxRecDepth 100000
namespace My
open PySem PySem.Spec PyProof.Rows L2 GxR
/-! ### webs and the theorem on led pointings -/
def TB (ts : List Ar) (a b : Int) : Prop := nrB ts a b = true
theorem gr {n : Nat} {ts : List Ar} (hW : WOk n ts) : Tr.Gr (TB ts) where
  sy := fun {a b} h => by unfold TB at *; rw [nrB_comm]; exact h
  ir := fun {a} h => (nrB_lt hW h).2.2.2.2 rfl
theorem ar_iff {n : Nat} {ts : List Ar} (hW : WOk n ts) {x : Ar} : x ∈ arS n ts ↔ TB ts x.1 x.2 := by
  rw [mem_arS hW]
  unfold TB nrB
  rw [decide_eq_true_eq]
  exact Iff.rfl
theorem ar_t {n : Nat} {ts : List Ar} (hW : WOk n ts) {x : Ar} (h : x ∈ ts) : x ∈ arS n ts := (mem_arS hW).mpr (.inl h)
theorem fc_iff {n : Nat} {ts : List Ar} (hW : WOk n ts) {x y : Ar} (hx : x ∈ arS n ts) : Tr.Fc (TB ts) x y ↔ y ∈ frcS n ts x := by
  rw [mem_frcS (arS_inR hx), mem_frc]
  unfold Tr.Fc TB tA tB'
  constructor
  · rintro ⟨t, ⟨e, ne, ng⟩ | ⟨e, ne, ng⟩⟩
    · have r := nrB_lt hW t
      refine .inl ⟨e.symm, r.2.2.1, r.2.2.2.1, ?_⟩
      rw [decide_eq_false (Ne.symm ne), e, t, Bool.eq_false_iff.mpr ng]; rfl
    · have r := nrB_lt hW t
      refine .inr ⟨e.symm, r.1, r.2.1, ?_⟩
      rw [decide_eq_false (Ne.symm ne), e, t, Bool.eq_false_iff.mpr ng]; rfl
  · rintro (⟨e, _, _, h⟩ | ⟨e, _, _, h⟩)
    · rw [Bool.and_eq_true, Bool.and_eq_true, Bool.not_eq_true', Bool.not_eq_true', decide_eq_false_iff_not] at h
      refine ⟨by rw [e]; exact h.2.1, .inl ⟨e.symm, Ne.symm h.1, by rw [h.2.2]; exact Bool.false_ne_true⟩⟩
    · rw [Bool.and_eq_true, Bool.and_eq_true, Bool.not_eq_true', Bool.not_eq_true', decide_eq_false_iff_not] at h
      refine ⟨by rw [e]; exact h.2.1, .inr ⟨e.symm, Ne.symm h.1, by rw [h.2.2]; exact Bool.false_ne_true⟩⟩
theorem rch_iff {n : Nat} {ts : List Ar} (hW : WOk n ts) {x y : Ar} (hx : x ∈ arS n ts) : Rch n ts x y ↔ Tr.R (TB ts) x y := by
  constructor
  · intro h
    induction h with
    | refl => exact .refl
    | step k f ih => exact ih.step ((fc_iff hW (k.ar hx)).mpr f)
  · intro h
    induction h with
    | refl => exact .refl
    | step k f ih => exact ih.step ((fc_iff hW (ih.ar hx)).mp f)
/-- no round -/
def Nb (n : Nat) (ts : List Ar) : Prop := ∀ x ∈ arS n ts, ¬ Rch n ts x (sw x)
theorem nb_tr {n : Nat} {ts : List Ar} (hW : WOk n ts) (h : Nb n ts) : ∀ x, TB ts x.1 x.2 → ¬ Tr.R (TB ts) x (Tr.sw x) := fun x t r => h x ((ar_iff hW).mpr t) ((rch_iff hW ((ar_iff hW).mpr t)).mpr r)
theorem tr_nb {n : Nat} {ts : List Ar} (hW : WOk n ts) (h : ∀ x, TB ts x.1 x.2 → ¬ Tr.R (TB ts) x (Tr.sw x)) : Nb n ts := fun x hx r => h x ((ar_iff hW).mp hx) ((rch_iff hW hx).mp r)
def rk (x : Int) : Nat := x.toNat
theorem rk_inj {n : Nat} {ts : List Ar} (hW : WOk n ts) : Tr.Inj (TB ts) rk := fun u v ⟨a, ha⟩ ⟨b, hb⟩ e => by
  have h1 := nrB_lt hW ha
  have h2 := nrB_lt hW hb
  unfold rk at e
  omega
theorem tb_fin {n : Nat} {ts : List Ar} (hW : WOk n ts) : ∀ a b, TB ts a b → a ∈ up n := fun a b h => mem_up.mpr (by have := nrB_lt hW h; omega)
/-- the first led pointing, by the ranks -/
def UpA (ts : List Ar) (x : Ar) : Prop := Tr.Up (TB ts) rk x
open Classical in
noncomputable def upP (ts : List Ar) : List Ar := ts.map fun t => if UpA ts t then t else sw t
theorem up_led' {n : Nat} {ts : List Ar} (hW : WOk n ts) (h : Nb n ts) : Tr.Led (TB ts) (UpA ts) := Tr.up_led (gr hW) (rk_inj hW) (nb_tr hW h)
theorem mem_upP {n : Nat} {ts : List Ar} (hW : WOk n ts) (h : Nb n ts) {x : Ar} : x ∈ upP ts ↔ UpA ts x := by
  have L := up_led' hW h
  unfold upP
  rw [List.mem_map]
  constructor
  · rintro ⟨t, ht, rfl⟩
    by_cases e : UpA ts t
    · rw [if_pos e]; exact e
    · rw [if_neg e]
      exact (L.one t.1 t.2 ((ar_iff hW).mp (ar_t hW ht))).resolve_left e
  · intro hx
    have hA := L.ar x hx
    rcases (mem_arS hW).mp ((ar_iff hW).mpr hA) with k | k
    · exact ⟨x, k, if_pos hx⟩
    · refine ⟨sw x, k, ?_⟩
      rw [if_neg (show ¬ UpA ts (sw x) from fun z => L.anti x.1 x.2 hx z)]; rfl
/-- the least tie of a class goes up: so an arrow that does not go up has a lesser tie in its class -/
theorem up_least {n : Nat} {ts : List Ar} (hW : WOk n ts) (h : Nb n ts) {t : Ar} (ht : t ∈ ts) (nu : ¬ UpA ts t) : ∃ m ∈ ts, ltT m t ∧ Rch n ts (sw t) m ∧ UpA ts m := by
  have L := up_led' hW h
  have tA := ar_t hW ht
  have hu : UpA ts (sw t) := (L.one t.1 t.2 ((ar_iff hW).mp tA)).resolve_left nu
  obtain ⟨tt, m, rm, lm⟩ := id hu
  have sA : sw t ∈ arS n ts := (ar_iff hW).mpr tt
  have rm' : Rch n ts (sw t) m := (rch_iff hW sA).mpr rm
  have mA := rm'.ar sA
  have l1 := lm (sw m) (.inr (Tr.R.sw (gr hW) rm))
  have l2 := lm t (.inr .refl)
  have mR := arS_inR mA
  have mn := (nrB_lt hW ((ar_iff hW).mp mA)).2.2.2.2
  have mup : m.1 < m.2 := by
    unfold Tr.lx rk at l1
    dsimp only [sw] at l1
    obtain ⟨a, b, c, d⟩ := mR
    omega
  have mt : m ∈ ts := by
    rcases (mem_arS hW).mp mA with k | k
    · exact k
    · have := (hW.2 _ k).2.1
      dsimp only [sw] at this
      omega
  have um : UpA ts m := L.clR (gr hW) hu rm
  refine ⟨m, mt, ?_, rm', um⟩
  have tb := hW.2 t ht
  have mb := hW.2 m mt
  have ne : m ≠ t := fun z => by subst z; exact nu um
  unfold Tr.lx rk at l2
  unfold ltT
  have : m.1 < t.1 ∨ (m.1 = t.1 ∧ m.2 ≤ t.2) := by omega
  rcases this with k | ⟨k1, k2⟩
  · exact .inl k
  · refine .inr ⟨k1, ?_⟩
    rcases Int.lt_or_eq_of_le k2 with z | z
    · exact z
    · exact absurd (Prod.ext k1 z) ne
/-! ### the law's own first pointing is this one -/
theorem firstG_ok {n : Nat} {ts : List Ar} (hW : WOk n ts) (h : Nb n ts) : ∀ (r l C : List Ar), ts = l ++ r → (∀ x ∈ C, UpA ts x) → (∀ t ∈ l, t ∈ C ∨ sw t ∈ C) → (∀ x ∈ C, ∀ y, Rch n ts x y → y ∈ C) →
    ∃ C', firstG n ts r C = some C' ∧ (∀ x ∈ C', UpA ts x) ∧ ∀ t ∈ ts, t ∈ C' ∨ sw t ∈ C'
  | [], l, C, e, hu, hl, _ => ⟨C, rfl, hu, by rw [e, List.append_nil]; exact hl⟩
  | t :: r, l, C, e, hu, hl, hc => by
    have L := up_led' hW h
    have ht : t ∈ ts := by rw [e]; exact List.mem_append_right _ List.mem_cons_self
    have tA := ar_t hW ht
    have e' : ts = (l ++ [t]) ++ r := by rw [List.append_assoc]; exact e
    rw [firstG]
    by_cases z : t ∈ C ∨ sw t ∈ C
    · rw [if_pos z]
      exact firstG_ok hW h r (l ++ [t]) C e' hu (fun x hx => (List.mem_append.mp hx).elim (hl x) fun k => by rw [List.mem_singleton.mp k]; exact z) hc
    · rw [if_neg z]
      have cm := fun x => mem_come (n := n) (ts := ts) (t := t) (x := x) (arS_inR tA)
      rw [if_neg (fun k => h t tA ((cm _).mp k))]
      have ut : UpA ts t := Classical.byContradiction fun nu => by
        obtain ⟨m, mt, lt, rm, um⟩ := up_least hW h ht nu
        have ml : m ∈ l := by
          rw [e] at mt
          rcases List.mem_append.mp mt with k | k
          · exact k
          · exfalso
            rw [e] at hW
            have := List.pairwise_append.mp hW.1
            rcases List.mem_cons.mp k with k | k
            · subst k; exact ltT_irr lt
            · exact ltT_irr (ltT_tr lt ((List.pairwise_cons.mp this.2.1).1 m k))
        have sA : sw t ∈ arS n ts := arS_sw hW tA
        have mC : m ∈ C := (hl m ml).resolve_right fun k => L.anti m.1 m.2 um (hu _ k)
        exact z (.inr (hc m mC _ (rm.symm sA)))
      refine firstG_ok hW h r (l ++ [t]) (C ++ comeF n ts t) e' (fun x hx => ?_) (fun x hx => ?_) (fun x hx y hy => ?_)
      · rcases List.mem_append.mp hx with k | k
        · exact hu x k
        · exact L.clR (gr hW) ut ((rch_iff hW tA).mp ((cm _).mp k))
      · rcases List.mem_append.mp hx with k | k
        · exact (hl x k).imp (List.mem_append_left _) (List.mem_append_left _)
        · rw [List.mem_singleton.mp k]
          exact .inl (List.mem_append_right _ ((cm _).mpr .refl))
      · rcases List.mem_append.mp hx with k | k
        · exact List.mem_append_left _ (hc x k y hy)
        · exact List.mem_append_right _ ((cm _).mpr (((cm _).mp k).trans hy))
theorem upP_of {n : Nat} {ts C : List Ar} (hW : WOk n ts) (h : Nb n ts) (hu : ∀ x ∈ C, UpA ts x) (hl : ∀ t ∈ ts, t ∈ C ∨ sw t ∈ C) : (ts.map fun t => if t ∈ C then t else sw t) = upP ts := by
  have L := up_led' hW h
  unfold upP
  refine List.map_congr_left fun t ht => ?_
  by_cases z : t ∈ C
  · rw [if_pos z, if_pos (hu t z)]
  · rw [if_neg z, if_neg]
    exact fun k => L.anti t.1 t.2 k (hu _ ((hl t ht).resolve_left z))
theorem first_up {n : Nat} {ts : List Ar} (hW : WOk n ts) (h : Nb n ts) : firstF n ts = some (upP ts) := by
  obtain ⟨C, e, hu, hl⟩ := firstG_ok hW h ts [] [] rfl (fun x hx => absurd hx List.not_mem_nil) (fun x hx => absurd hx List.not_mem_nil) (fun x hx => absurd hx List.not_mem_nil)
  unfold firstF
  rw [e]
  exact congrArg some (upP_of hW h hu hl)
theorem firstG_none {n : Nat} {ts : List Ar} (hW : WOk n ts) : ∀ (r l C : List Ar), ts = l ++ r → (∀ x ∈ C, x ∈ arS n ts ∧ ¬ Rch n ts x (sw x)) → (∀ t ∈ l, t ∈ C ∨ sw t ∈ C) → (∃ C', firstG n ts r C = some C') → ∀ t ∈ ts, ¬ Rch n ts t (sw t)
  | [], l, C, e, hc, hl, _ => fun t ht r => by
    rw [e, List.append_nil] at ht
    rcases hl t ht with k | k
    · exact (hc t k).2 r
    · refine (hc _ k).2 ?_
      exact Rch.sw (arS_inR (ar_t hW (by rw [e, List.append_nil]; exact ht))) r
  | t :: r, l, C, e, hc, hl, ⟨C', h⟩ => by
    have ht : t ∈ ts := by rw [e]; exact List.mem_append_right _ List.mem_cons_self
    have tA := ar_t hW ht
    have e' : ts = (l ++ [t]) ++ r := by rw [List.append_assoc]; exact e
    rw [firstG] at h
    by_cases z : t ∈ C ∨ sw t ∈ C
    · rw [if_pos z] at h
      exact firstG_none hW r (l ++ [t]) C e' hc (fun x hx => (List.mem_append.mp hx).elim (hl x) fun k => by rw [List.mem_singleton.mp k]; exact z) ⟨C', h⟩
    · rw [if_neg z] at h
      have cm := fun x => mem_come (n := n) (ts := ts) (t := t) (x := x) (arS_inR tA)
      by_cases k : sw t ∈ comeF n ts t
      · rw [if_pos k] at h; cases h
      · rw [if_neg k] at h
        refine firstG_none hW r (l ++ [t]) (C ++ comeF n ts t) e' (fun x hx => ?_) (fun x hx => ?_) ⟨C', h⟩
        · rcases List.mem_append.mp hx with q | q
          · exact hc x q
          · have rx := (cm _).mp q
            refine ⟨rx.ar tA, fun w => k ((cm _).mpr ?_)⟩
            have xA := rx.ar tA
            exact (rx.trans w).trans (Rch.sw (arS_inR xA) (rx.symm tA))
        · rcases List.mem_append.mp hx with q | q
          · exact (hl x q).imp (List.mem_append_left _) (List.mem_append_left _)
          · rw [List.mem_singleton.mp q]
            exact .inl (List.mem_append_right _ ((cm _).mpr .refl))
theorem first_none {n : Nat} {ts : List Ar} (hW : WOk n ts) : (∃ ps, firstF n ts = some ps) ↔ Nb n ts := by
  constructor
  · rintro ⟨ps, h⟩ x hx r
    unfold firstF at h
    obtain ⟨C, e, _⟩ := Option.map_eq_some_iff.mp h
    have key := firstG_none hW ts [] [] rfl (fun x hx => absurd hx List.not_mem_nil) (fun x hx => absurd hx List.not_mem_nil) ⟨C, e⟩
    rcases (mem_arS hW).mp hx with k | k
    · exact key x k r
    · exact key _ k (Rch.sw (arS_inR hx) r)
  · exact fun h => ⟨_, first_up hW h⟩
end My

set_option Elab.async false
set_option linter.all false
set_option maxRecDepth 100000
namespace My
open PySem PySem.Spec PyProof.Rows L2 GxR
/-! ### what follows of arrows -/
structure KnC (n : Nat) (ts C : List Ar) : Prop where
  nd : C.Nodup
  ar : ∀ x ∈ C, x ∈ arS n ts
  cl : ∀ x ∈ C, ∀ y ∈ frcS n ts x, y ∈ C
  tr : ∀ x ∈ C, ∀ y ∈ C, x.2 = y.1 → (x.1, y.2) ∈ C
theorem KnC.nil (n : Nat) (ts : List Ar) : KnC n ts [] := ⟨List.nodup_nil, fun _ h => absurd h List.not_mem_nil, fun _ h => absurd h List.not_mem_nil, fun _ h => absurd h List.not_mem_nil⟩
theorem KnC.len {n : Nat} {ts C : List Ar} (h : KnC n ts C) : C.length ≤ n * n := cs_len h.nd fun t ht => arS_inR (h.ar t ht)
def thA (C : List Ar) (a b : Int) : List Ar := (C.filter fun (x : Ar) => decide (x.2 = a)).map fun x => (x.1, b)
def thB (C : List Ar) (a b : Int) : List Ar := (C.filter fun (x : Ar) => decide (x.1 = b)).map fun x => (a, x.2)
theorem thA_step (C : List Ar) (a b : Int) (x : Ar) : thA (C ++ [x]) a b = thA C a b ++ (if x.2 = a then [(x.1, b)] else []) := by
  unfold thA
  rw [List.filter_append, List.map_append]
  by_cases h : x.2 = a
  · rw [if_pos h, List.filter_cons_of_pos (p := fun (x : Ar) => decide (x.2 = a)) (decide_eq_true h)]; rfl
  · rw [if_neg h, List.filter_cons_of_neg (p := fun (x : Ar) => decide (x.2 = a)) (by simpa using h)]; rfl
theorem thB_step (C : List Ar) (a b : Int) (x : Ar) : thB (C ++ [x]) a b = thB C a b ++ (if x.1 = b then [(a, x.2)] else []) := by
  unfold thB
  rw [List.filter_append, List.map_append]
  by_cases h : x.1 = b
  · rw [if_pos h, List.filter_cons_of_pos (p := fun (x : Ar) => decide (x.1 = b)) (decide_eq_true h)]; rfl
  · rw [if_neg h, List.filter_cons_of_neg (p := fun (x : Ar) => decide (x.1 = b)) (by simpa using h)]; rfl
theorem thA_len (C : List Ar) (a b : Int) : (thA C a b).length ≤ C.length := by unfold thA; rw [List.length_map]; exact List.length_filter_le _ _
theorem thB_len (C : List Ar) (a b : Int) : (thB C a b).length ≤ C.length := by unfold thB; rw [List.length_map]; exact List.length_filter_le _ _
theorem mem_thA {C : List Ar} {a b : Int} {y : Ar} : y ∈ thA C a b ↔ ∃ x ∈ C, x.2 = a ∧ y = (x.1, b) := by
  unfold thA
  rw [List.mem_map]
  constructor
  · rintro ⟨x, hx, rfl⟩
    obtain ⟨h1, h2⟩ := List.mem_filter.mp hx
    exact ⟨x, h1, of_decide_eq_true h2, rfl⟩
  · rintro ⟨x, hx, e, rfl⟩
    exact ⟨x, List.mem_filter.mpr ⟨hx, decide_eq_true e⟩, rfl⟩
theorem mem_thB {C : List Ar} {a b : Int} {y : Ar} : y ∈ thB C a b ↔ ∃ x ∈ C, x.1 = b ∧ y = (a, x.2) := by
  unfold thB
  rw [List.mem_map]
  constructor
  · rintro ⟨x, hx, rfl⟩
    obtain ⟨h1, h2⟩ := List.mem_filter.mp hx
    exact ⟨x, h1, of_decide_eq_true h2, rfl⟩
  · rintro ⟨x, hx, e, rfl⟩
    exact ⟨x, List.mem_filter.mpr ⟨hx, decide_eq_true e⟩, rfl⟩
def Over (ts C : List Ar) (t : Ar) (O : Ar → Prop) : Prop := Tr.Led (TB ts) O ∧ (∀ x ∈ C, O x) ∧ O t
structure FInv (n : Nat) (ts C0 : List Ar) (t : Ar) (C W : List Ar) : Prop where
  nd : C.Nodup
  ar : ∀ x ∈ C, x ∈ arS n ts
  sub : ∀ x ∈ C0, x ∈ C
  got : t ∈ C ∨ t ∈ W
  cl : ∀ x ∈ C, ∀ y ∈ frcS n ts x, y ∈ C ∨ y ∈ W
  tr : ∀ x ∈ C, ∀ y ∈ C, x.2 = y.1 → (x.1, y.2) ∈ C ∨ (x.1, y.2) ∈ W
  inO : ∀ O, Over ts C0 t O → (∀ x ∈ C, O x) ∧ ∀ x ∈ W, O x
theorem finv_start {n : Nat} {ts C : List Ar} {t : Ar} (h : KnC n ts C) : FInv n ts C t C [t] where
  nd := h.nd
  ar := h.ar
  sub := fun _ h => h
  got := .inr List.mem_cons_self
  cl := fun x hx y hy => .inl (h.cl x hx y hy)
  tr := fun x hx y hy e => .inl (h.tr x hx y hy e)
  inO := fun O o => ⟨o.2.1, fun x hx => by rw [List.mem_singleton.mp hx]; exact o.2.2⟩
theorem finv_skip {n : Nat} {ts C0 C W : List Ar} {t w : Ar} (h : FInv n ts C0 t C (W ++ [w])) (hw : w ∈ C) : FInv n ts C0 t C W := by
  have k : ∀ {y : Ar}, y ∈ C ∨ y ∈ W ++ [w] → y ∈ C ∨ y ∈ W := fun {y} z => z.elim .inl fun z => (List.mem_append.mp z).elim .inr fun z => .inl (by rw [List.mem_singleton.mp z]; exact hw)
  exact ⟨h.nd, h.ar, h.sub, k h.got, fun x hx y hy => k (h.cl x hx y hy), fun x hx y hy e => k (h.tr x hx y hy e), fun O o => ⟨(h.inO O o).1, fun x hx => (h.inO O o).2 x (List.mem_append_left _ hx)⟩⟩
theorem finv_add {n : Nat} {ts C0 C W : List Ar} {t w : Ar} (hW : WOk n ts) (h : FInv n ts C0 t C (W ++ [w])) (hw : w ∉ C) (wA : w ∈ arS n ts) : FInv n ts C0 t (C ++ [w]) ((W ++ frcS n ts w) ++ (thA (C ++ [w]) w.1 w.2 ++ thB (C ++ [w]) w.1 w.2)) := by
  have k : ∀ {y : Ar}, y ∈ C ∨ y ∈ W ++ [w] → y ∈ C ++ [w] ∨ y ∈ (W ++ frcS n ts w) ++ (thA (C ++ [w]) w.1 w.2 ++ thB (C ++ [w]) w.1 w.2) := fun {y} z =>
    z.elim (fun z => .inl (List.mem_append_left _ z)) fun z => (List.mem_append.mp z).elim (fun z => .inr (List.mem_append_left _ (List.mem_append_left _ z))) fun z => .inl (List.mem_append_right _ z)
  refine ⟨nd_add h.nd hw, fun x hx => ?_, fun x hx => List.mem_append_left _ (h.sub x hx), k h.got, fun x hx y hy => ?_, fun x hx y hy e => ?_, fun O o => ?_⟩
  · rcases List.mem_append.mp hx with z | z
    · exact h.ar x z
    · rw [List.mem_singleton.mp z]; exact wA
  · rcases List.mem_append.mp hx with z | z
    · exact k (h.cl x z y hy)
    · rw [List.mem_singleton.mp z] at hy
      exact .inr (List.mem_append_left _ (List.mem_append_right _ hy))
  · rcases List.mem_append.mp hx with z | z
    · rcases List.mem_append.mp hy with z2 | z2
      · exact k (h.tr x z y z2 e)
      · rw [List.mem_singleton.mp z2] at e ⊢
        exact .inr (List.mem_append_right _ (List.mem_append_left _ (mem_thA.mpr ⟨x, hx, e, rfl⟩)))
    · rw [List.mem_singleton.mp z] at e ⊢
      exact .inr (List.mem_append_right _ (List.mem_append_right _ (mem_thB.mpr ⟨y, hy, e.symm, rfl⟩)))
  · obtain ⟨o1, o2⟩ := h.inO O o
    have ow : O w := o2 w (List.mem_append_right _ (List.mem_singleton.mpr rfl))
    have oC : ∀ x ∈ C ++ [w], O x := fun x hx => (List.mem_append.mp hx).elim (o1 x) fun z => by rw [List.mem_singleton.mp z]; exact ow
    refine ⟨oC, fun x hx => ?_⟩
    rcases List.mem_append.mp hx with z | z
    · rcases List.mem_append.mp z with z | z
      · exact o2 x (List.mem_append_left _ z)
      · exact o.1.cl (gr hW) ow ((fc_iff hW wA).mpr z)
    · rcases List.mem_append.mp z with z | z
      · obtain ⟨y, hy, e, rfl⟩ := mem_thA.mp z
        exact o.1.tr y.1 y.2 w.2 (oC y hy) (by rw [e]; exact ow)
      · obtain ⟨y, hy, e, rfl⟩ := mem_thB.mp z
        exact o.1.tr w.1 w.2 y.2 ow (by rw [← e]; exact oC y hy)
theorem finv_end {n : Nat} {ts C0 C : List Ar} {t : Ar} (h : FInv n ts C0 t C []) : KnC n ts C ∧ (∀ x ∈ C0, x ∈ C) ∧ t ∈ C ∧ ∀ O, Over ts C0 t O → ∀ x ∈ C, O x :=
  have k : ∀ {y : Ar}, y ∈ C ∨ y ∈ ([] : List Ar) → y ∈ C := fun {y} z => z.elim id fun z => absurd z List.not_mem_nil
  ⟨⟨h.nd, h.ar, fun x hx y hy => k (h.cl x hx y hy), fun x hx y hy e => k (h.tr x hx y hy e)⟩, h.sub, k h.got, fun O o => (h.inO O o).1⟩
/-- the web's known arrows, as a dict -/
def KnD (kvs : List (List Key × V)) (C : List Ar) : Prop := kvs.map (·.1) = C.map pk
theorem KnD.join {kvs : List (List Key × V)} {C : List Ar} (h : KnD kvs C) : JoinA kvs C := fun o => by
  rw [valV_keys h]
theorem KnD.put {kvs : List (List Key × V)} {C : List Ar} {t : Ar} {v : V} (h : KnD kvs C) (ht : t ∉ C) : KnD (putK kvs (pk t) v) (C ++ [t]) := by
  have : putK kvs (pk t) v = kvs ++ [(pk t, v)] := by
    have hn : pk t ∉ kvs.map (·.1) := by
      rw [h]
      intro z
      obtain ⟨s, hs, e⟩ := List.mem_map.mp z
      rw [pk_inj e] at hs; exact ht hs
    unfold putK
    rw [if_neg]
    intro z
    obtain ⟨kv, hkv, e⟩ := List.any_eq_true.mp z
    exact hn (List.mem_map.mpr ⟨kv, hkv, of_decide_eq_true e⟩)
  unfold KnD at *
  rw [this, List.map_append, List.map_append, h]; rfl
end My

set_option Elab.async false
set_option linter.all false
set_option maxRecDepth 100000
set_option maxHeartbeats 4000000
set_option pp.maxSteps 400
namespace My
open PySem PySem.Spec PyProof.Rows L2 GxR
theorem tst_frzT {H : Hp} {d : Addr} {o : HO} {kvs : List (List Key × V)} (e : H d = some (.dT kvs)) : Tst H (upd H d o) := fun b xs h => by
  rw [upd_ne (fun z => by rw [z, e] at h; cases h)]; exact h
section
variable {P : Program} {w : World} {K : PySem.W.Frag} {mg : Str → Option Value} {base : Heap}
end
end My

set_option Elab.async false
set_option linter.all false
set_option maxRecDepth 100000
namespace My
open PySem PySem.Spec PyProof.Rows L2 GxR
/-! ### classes by their least arrows, and the least tie that has a round -/
theorem clsL_head {n : Nat} {ts l : List Ar} (hl : ∀ x ∈ l, x ∈ arS n ts) (pw : l.Pairwise ltT) (dc : ∀ x ∈ l, ∀ y ∈ arS n ts, ltT y x → y ∈ l) :
    ∀ (i : Nat) (c : List Ar), (clsL n ts l)[i]? = some c → ∃ x ∈ l, c = clsS n ts x ∧ (∀ y ∈ c, ¬ ltT y x) ∧ ∀ y ∈ arS n ts, ltT y x → ∃ j d, j < i ∧ (clsL n ts l)[j]? = some d ∧ y ∈ d := by
  induction l using snoc_ind with
  | h0 => intro i c h; cases h
  | hs l x ih =>
    have xA := hl x (List.mem_append_right _ (List.mem_singleton.mpr rfl))
    have hl' : ∀ z ∈ l, z ∈ arS n ts := fun z hz => hl z (List.mem_append_left _ hz)
    have pw2 := List.pairwise_append.mp pw
    have lx : ∀ z ∈ l, ltT z x := fun z hz => pw2.2.2 z hz x (List.mem_singleton.mpr rfl)
    have dc' : ∀ z ∈ l, ∀ y ∈ arS n ts, ltT y z → y ∈ l := fun z hz y hy k => by
      rcases List.mem_append.mp (dc z (List.mem_append_left _ hz) y hy k) with q | q
      · exact q
      · rw [List.mem_singleton.mp q] at k
        exact absurd (ltT_tr k (lx z hz)) ltT_irr
    have ih' := ih hl' pw2.1 dc'
    have old : ∀ (i : Nat) (c : List Ar), (clsL n ts l)[i]? = some c → ∀ L' : LL, (∀ j d, (clsL n ts l)[j]? = some d → L'[j]? = some d) → ∃ z ∈ l ++ [x], c = clsS n ts z ∧ (∀ y ∈ c, ¬ ltT y z) ∧ ∀ y ∈ arS n ts, ltT y z → ∃ j d, j < i ∧ L'[j]? = some d ∧ y ∈ d := fun i c e L' hL => by
      obtain ⟨z, hz, h1, h2, h3⟩ := ih' i c e
      exact ⟨z, List.mem_append_left _ hz, h1, h2, fun y hy k => by obtain ⟨j, d, a, b, c⟩ := h3 y hy k; exact ⟨j, d, a, hL _ _ b, c⟩⟩
    rw [clsL_step]
    by_cases hi : inAny (clsL n ts l) x = true
    · rw [if_pos hi]
      exact fun i c e => old i c e _ fun _ _ z => z
    · rw [if_neg hi]
      intro i c e
      by_cases k : i < (clsL n ts l).length
      · rw [List.getElem?_append_left k] at e
        refine old i c e _ fun j d hd => ?_
        rw [List.getElem?_append_left (List.getElem?_eq_some_iff.mp hd).1]; exact hd
      · rw [List.getElem?_append_right (by omega)] at e
        have h0 : i - (clsL n ts l).length = 0 := by
          cases hh : i - (clsL n ts l).length with
          | zero => rfl
          | succ k => rw [hh] at e; cases e
        rw [h0] at e
        have ec : clsS n ts x = c := Option.some.inj e
        subst ec
        have inl : ∀ y ∈ arS n ts, ltT y x → ∃ j d, j < (clsL n ts l).length ∧ (clsL n ts l)[j]? = some d ∧ y ∈ d := fun y hy ly => by
          have yl : y ∈ l := by
            rcases List.mem_append.mp (dc x (List.mem_append_right _ (List.mem_singleton.mpr rfl)) y hy ly) with q | q
            · exact q
            · rw [List.mem_singleton.mp q] at ly; exact absurd ly ltT_irr
          obtain ⟨d, hd, yd⟩ := clsL_in hl' y yl
          obtain ⟨j, hj⟩ := List.mem_iff_getElem?.mp hd
          exact ⟨j, d, (List.getElem?_eq_some_iff.mp hj).1, hj, yd⟩
        refine ⟨x, List.mem_append_right _ (List.mem_singleton.mpr rfl), rfl, fun y hy ly => ?_, fun y hy ly => ?_⟩
        · have ry := (mem_cls (arS_inR xA)).mp hy
          have yA := ry.ar xA
          obtain ⟨j, d, _, hd, yd⟩ := inl y yA ly
          obtain ⟨z, hz, rfl⟩ := clsL_of d (List.mem_of_getElem? hd)
          have zA := hl' z hz
          have rz := (mem_cls (arS_inR zA)).mp yd
          exact hi (decide_eq_true (List.mem_flatten.mpr ⟨_, List.mem_of_getElem? hd, (mem_cls (arS_inR zA)).mpr (rz.trans (ry.symm xA))⟩))
        · obtain ⟨j, d, a, b, c⟩ := inl y hy ly
          exact ⟨j, d, by omega, by rw [List.getElem?_append_left a]; exact b, c⟩
def RndT (n : Nat) (ts : List Ar) (t : Ar) : Prop := t ∈ ts ∧ Rch n ts t (sw t) ∧ ∀ s ∈ ts, ltT s t → ¬ Rch n ts s (sw s)
theorem rch_all {n : Nat} {ts : List Ar} {x y : Ar} (hx : x ∈ arS n ts) (r : Rch n ts x y) (h : Rch n ts x (sw x)) : Rch n ts y (sw y) := ((r.symm hx).trans h).trans (Rch.sw (arS_inR hx) r)
theorem cls_first {n : Nat} {ts : List Ar} (hW : WOk n ts) {i : Nat} {c : List Ar} (e : (clsA n ts)[i]? = some c) :
    ∃ x, c[0]? = some x ∧ x ∈ arS n ts ∧ (∀ y, y ∈ c ↔ Rch n ts x y) ∧ ((∀ j d, j < i → (clsA n ts)[j]? = some d → ∀ y ∈ d, ¬ Rch n ts y (sw y)) → sw x ∈ c → RndT n ts x) := by
  obtain ⟨x, xA, rfl, low, below⟩ := clsL_head (fun _ h => h) (arS_pw n ts) (fun _ _ y hy _ => hy) i c e
  have mc := fun y => mem_cls (n := n) (ts := ts) (t := x) (x := y) (arS_inR xA)
  refine ⟨x, ?_, xA, mc, fun hno hs => ?_⟩
  · have xm : x ∈ clsS n ts x := (mc x).mpr .refl
    have pw := clsS_pw n ts x
    cases hc : clsS n ts x with
    | nil => rw [hc] at xm; exact absurd xm List.not_mem_nil
    | cons y l =>
      rw [hc] at xm pw
      rcases List.mem_cons.mp xm with z | z
      · rw [z]; rfl
      · exact absurd ((List.pairwise_cons.mp pw).1 x z) (low y (by rw [hc]; exact List.mem_cons_self))
  · have r := (mc _).mp hs
    have ns := low _ hs
    have ne := (nrB_lt hW ((ar_iff hW).mp xA)).2.2.2.2
    have xt : x ∈ ts := by
      rcases (mem_arS hW).mp xA with k | k
      · exact k
      · have := (hW.2 _ k).2.1
        dsimp only [sw] at this
        refine absurd (.inl ?_) ns
        exact this
    refine ⟨xt, r, fun s hs ls rs => ?_⟩
    have sA := ar_t hW hs
    obtain ⟨j, d, hj, hd, sd⟩ := below s sA ls
    exact hno j d hj hd s sd rs
theorem nb_of {n : Nat} {ts : List Ar} (h : ∀ c ∈ clsA n ts, ∀ y ∈ c, ¬ Rch n ts y (sw y)) : Nb n ts := fun x hx => by
  obtain ⟨c, hc, xc⟩ := clsL_in (fun _ z => z) x hx
  exact h c hc x xc
theorem rnd_way {n : Nat} {ts : List Ar} (hW : WOk n ts) {t : Ar} (h : RndT n ts t) : ∃ l, wayO n ts t (sw t) = some l := by
  have tA := ar_t hW h.1
  have sA := arS_sw hW tA
  unfold wayO
  rw [if_pos ((mem_steps (arS_inR sA)).mpr (h.2.1.symm tA))]
  exact ⟨_, rfl⟩
theorem rnd_uni {n : Nat} {ts : List Ar} {s t : Ar} (h : RndT n ts s) (k : RndT n ts t) : s = t := by
  rcases ltT_tri s t with z | z | z
  · exact absurd h.2.1 (k.2.2 s h.1 z)
  · exact z
  · exact absurd k.2.1 (h.2.2 t k.1 z)
theorem rnd_nb {n : Nat} {ts : List Ar} (hW : WOk n ts) {t : Ar} (h : RndT n ts t) : ¬ Nb n ts := fun k => k t (ar_t hW h.1) h.2.1
end My

set_option Elab.async false
set_option linter.all false
set_option maxRecDepth 100000
set_option maxHeartbeats 4000000
set_option pp.maxSteps 400
namespace My
open PySem PySem.Spec PyProof.Rows L2 GxR
/-- what first_round tells -/
def rndQ (n : Nat) (ts : List Ar) (H : Hp) (Q : VK) : Prop := (Nb n ts → ∀ H', Same H H' → Q .non H') ∧ ∀ t, RndT n ts t → ∀ l, wayO n ts t (sw t) = some l → ∀ p us H', H p = none → Same H H' → H' p = some (.lst us) → Ties H' us l → Q (.ref p) H'
section
variable {P : Program} {w : World} {K : PySem.W.Frag} {mg : Str → Option Value} {base : Heap}
/-! ### first_round -/
abbrev N_first_round : List Str := ["forcings", "arrows", "a", "b"]
theorem sc_first_round : FnScope N_first_round ["forcings"] (defScope s_first_round) := ⟨rfl, rfl, rfl, by decide +kernel, rfl, by decide +kernel, by decide +kernel⟩
def sp_fround : Sp := fun vs H Q _ => ∃ (D : Addr) (kvs : List (List Key × V)) (n : Nat) (ts : List Ar), vs = [.ref D] ∧ ForcD H D n ts ∧ H D = some (.dT kvs) ∧ WOk n ts ∧ n ≤ 12 ∧ rndQ n ts H Q
theorem ok_fround {f : Addr} {fd : FuncData} (B : Bts mg) (F : Fun K "first_round" "first_round" s_first_round f fd) (c_classes_in : Cl P w K mg base 2 "classes_in" sp_cin) (c_way_in : Cl P w K mg base 2 "way_in" sp_wayin) : FnOk P w K mg base CX0 3 f fd ["forcings"] sp_fround := by
  refine F.ok sc_first_round (fun vs H Q E h => ?_) (fun cdv A outer s H vs Q E hr h => ?_)
  · obtain ⟨D, kvs, n, ts, rfl, _⟩ := h; rfl
  · obtain ⟨D, kvs, n, ts, rfl, hD, eD, hW, hn, q0, q1⟩ := h
    refine ⟨_, (pss_cons (ps_for PassesOwn.never rfl (pi_list (pe_c c_classes_in hr (by decide) (by rfl) (pa_cons (pv 0) pa_nil))) (pg_name (i := 1) sc_first_round.nd rfl (by first | exact Or.inl rfl | exact Or.inr rfl))
      (pss_cons (ps_asg (pe_ix ix_list (pv 1) pe_int (fun _ _ => rfl)) (pg_tup rfl (pgs_cons (pg_name (i := 2) sc_first_round.nd rfl (by first | exact Or.inl rfl | exact Or.inr rfl)) (pgs_cons (pg_name (i := 3) sc_first_round.nd rfl (by first | exact Or.inl rfl | exact Or.inr rfl)) pgs_nil))))
      (pss_one (ps_if (pt_cmpR (op_inD (u65 hr)) (pe_tup (pa_cons (pv 3) (pa_cons (pv 2) pa_nil))) (pv 1) (by rfl)) (pss_one (ps_ret (pe_c c_way_in hr (by decide) (by rfl) (pa_cons (pv 0) (pa_cons (pe_tup (pa_cons (pv 2) (pa_cons (pv 3) pa_nil))) (pa_cons (pe_tup (pa_cons (pv 3) (pa_cons (pv 2) pa_nil))) pa_nil)))))) pss_nil))))
    (pss_one (ps_ret pe_non))), ?_⟩
    refine ⟨_, rfl, D, kvs, n, ts, rfl, hD, eD, hn, fun p qs H1 np s1 hL => ?_⟩
    refine ⟨p, rfl, ⟨_, SqL.of hL.here⟩, ?_⟩
    refine for_it (walk_list (K := K) (a := p) (xs := qs.map V.ref)) (fun i σ H2 => ∃ y1 y2 y3, σ = [some (.ref D), y1, y2, y3] ∧ Same H1 H2 ∧ ∀ j d, j < i → (clsA n ts)[j]? = some d → ∀ y ∈ d, ¬ Rch n ts y (sw y)) ⟨none, none, none, rfl, same_refl _, fun j d hj => absurd hj (Nat.not_lt_zero _)⟩ ?_ ?_ ?_
    · rintro i σ H2 _ ⟨_, _, _, _, s2, _⟩
      exact SqL.of (s2 _ _ hL.here)
    · rintro i x σ H2 H3 hi ⟨y1, y2, y3, rfl, s2, hno⟩ ⟨rfl, hx⟩
      rw [List.getElem?_map] at hx
      obtain ⟨qi, eq, rfl⟩ := Option.map_eq_some_iff.mp hx
      obtain ⟨us, c, ec, eqi, hU⟩ := hL.at_ i qi eq
      obtain ⟨t, et, tA, mc, hr1⟩ := cls_first hW ec
      have eqi3 := s2 _ _ eqi
      have hU3 := hU.mono (Same.tst s2)
      have tm : t ∈ c := (mc t).mpr .refl
      have h0 : 0 < us.length := by rw [hU.len]; exact List.length_pos_of_mem tm
      have g0 : us[0]? = some us[0] := List.getElem?_eq_getElem h0
      generalize us[0] = z at g0
      obtain ⟨t', et', hz⟩ := hU3.at g0
      rw [et] at et'; cases et'
      obtain ⟨pz, rfl, epz⟩ := hz
      refine ⟨_, rfl, qi, _, _, _, rfl, rfl, SqL.of eqi3, atI_nat g0, ?_⟩
      refine ⟨pz, _, rfl, SqT.of epz, rfl, _, _, rfl, _, _, rfl, rfl, ?_⟩
      refine ⟨_, rfl, _, rfl, by show 2 ≤ sizeLine; decide, fun k nk => ?_⟩
      have sk := same_new (o := .tup [.int t.2, .int t.1]) nk
      refine ⟨_, rfl, dT (sw t), c.map dT, (show Tie _ (.ref k) (sw t) from ⟨k, rfl, upd_same⟩).dp, .lst (SqL.of (sk _ _ eqi3)) (hU3.mono (Same.tst sk)).dp, shaped_dT _, shaped_ties c, _, rfl, ?_⟩
      rw [any_dT]
      have s1k := (s1.trans s2).trans sk
      by_cases hs : sw t ∈ c
      · rw [decide_eq_true hs]
        have R := hr1 hno hs
        have sA := arS_sw hW tA
        refine iteT ⟨_, rfl, _, rfl, _, rfl, by show 2 ≤ sizeLine; decide, fun k1 nk1 => ?_⟩
        have sk1 := same_new (o := .tup [.int t.1, .int t.2]) nk1
        refine ⟨_, rfl, _, rfl, by show 2 ≤ sizeLine; decide, fun k2 nk2 => ?_⟩
        have sk2 := same_new (o := .tup [.int t.2, .int t.1]) nk2
        have s12 := s1k.trans (sk1.trans sk2)
        refine ⟨.ref k1, .ref k2, D, n, ts, t, sw t, rfl, hD.mono s12, hn, ⟨k1, rfl, sk2 _ _ upd_same⟩, tA, ⟨k2, rfl, upd_same⟩, sA, fun hN => ?_, fun l hl r rs H4 nr s4 er hR => ?_⟩
        · obtain ⟨l, hl⟩ := rnd_way hW R
          rw [hl] at hN; cases hN
        · exact q1 t R l hl r rs H4 (same_free s12 nr) (s12.trans s4) er hR
      · rw [decide_eq_false hs]
        refine iteF ⟨_, _, _, rfl, s2.trans sk, fun j d hj hd y hy ry => ?_⟩
        rcases Nat.lt_succ_iff_lt_or_eq.mp hj with h | h
        · exact hno j d h hd y hy ry
        · subst h
          rw [ec] at hd; cases hd
          have ryt := (mc y).mp hy
          exact hs ((mc _).mpr (rch_all (ryt.ar tA) (ryt.symm tA) ry))
    · rintro σ H2 ⟨y1, y2, y3, rfl, s2, hno⟩
      refine q0 (nb_of fun c hc => ?_) H2 (s1.trans s2)
      obtain ⟨j, hj⟩ := List.mem_iff_getElem?.mp hc
      refine hno j c ?_ hj
      rw [List.length_map, hL.len]
      exact (List.getElem?_eq_some_iff.mp hj).1
end
end My

set_option Elab.async false
set_option linter.all false
set_option maxRecDepth 100000
namespace My
open PySem PySem.Spec PyProof.Rows L2 GxR
/-! ### led pointings of the places I -/
def TI (ts : List Ar) (I : List Int) (a b : Int) : Prop := a ∈ I ∧ b ∈ I ∧ adjB ts a b = true
abbrev LedI (ts : List Ar) (I : List Int) (O : Int × Int → Prop) : Prop := Tr.Led (TI ts I) O
theorem ledI_sub {ts : List Ar} {I S : List Int} (sub : ∀ x ∈ S, x ∈ I) {O : Int × Int → Prop} (h : LedI ts I O) : LedI ts S (fun x => x.1 ∈ S ∧ x.2 ∈ S ∧ O x) where
  ar := fun x ⟨a, b, c⟩ => ⟨a, b, (h.ar x c).2.2⟩
  one := fun a b ⟨ha, hb, e⟩ => (h.one a b ⟨sub a ha, sub b hb, e⟩).elim (fun k => .inl ⟨ha, hb, k⟩) (fun k => .inr ⟨hb, ha, k⟩)
  anti := fun a b ⟨_, _, c⟩ ⟨_, _, d⟩ => h.anti a b c d
  tr := fun a b c ⟨x, _, y⟩ ⟨_, z, u⟩ => ⟨x, z, h.tr a b c y u⟩
/-- an orientation of k parts that are tied as g says -/
structure OriQ (k : Nat) (g : Nat → Nat → Bool) (o : Nat → Nat → Prop) : Prop where
  ar : ∀ i j, o i j → i < k ∧ j < k ∧ i ≠ j ∧ g i j = true
  one : ∀ i j, i < k → j < k → i ≠ j → g i j = true → o i j ∨ o j i
  anti : ∀ i j, o i j → ¬ o j i
  tr : ∀ i j l, o i j → o j l → o i l
theorem sub_led {ts : List Ar} {I : List Int} {Js Is : List (List Int)} {g : Nat → Nat → Bool} {o : Nat → Nat → Prop} (nI : I.Nodup) (pt : PartI I Is) (pm : Js.Perm Is)
    (bt : ∀ (i j : Nat) (S T : List Int), i ≠ j → Js[i]? = some S → Js[j]? = some T → ∀ x ∈ S, ∀ y ∈ T, adjB ts x y = g i j) (q : OriQ Js.length g o)
    (kids : ∀ S ∈ Is, ∃ O, LedI ts S O) : ∃ O, LedI ts I O := by
  have kids' : ∀ S : List Int, ∃ O : Int × Int → Prop, S ∈ Is → LedI ts S O := fun S => by
    by_cases h : S ∈ Is
    · obtain ⟨O, hO⟩ := kids S h
      exact ⟨O, fun _ => hO⟩
    · exact ⟨fun _ => False, fun z => absurd z h⟩
  let OS : List Int → Int × Int → Prop := fun S => (kids' S).choose
  have hOS : ∀ S ∈ Is, LedI ts S (OS S) := fun S hS => (kids' S).choose_spec hS
  have jIs : ∀ {i : Nat} {S : List Int}, Js[i]? = some S → S ∈ Is := fun {i S} e => pm.mem_iff.mp (List.mem_of_getElem? e)
  have nJ : Js.Nodup := pm.nodup_iff.mpr (pt.nods nI)
  have uniq : ∀ {i j : Nat} {S T : List Int} {x : Int}, Js[i]? = some S → Js[j]? = some T → x ∈ S → x ∈ T → i = j := fun {i j S T x} e f xS xT => by
    have ST := pt.dis nI S (jIs e) T (jIs f) x xS xT
    subst ST
    obtain ⟨hi, ei⟩ := List.getElem?_eq_some_iff.mp e
    obtain ⟨hj, ej⟩ := List.getElem?_eq_some_iff.mp f
    exact (List.getElem_inj nJ).mp (ei.trans ej.symm)
  have same : ∀ {i : Nat} {S T : List Int}, Js[i]? = some S → Js[i]? = some T → S = T := fun {i S T} e f => Option.some.inj (e.symm.trans f)
  refine ⟨fun x => (∃ (i : Nat) (S : List Int), Js[i]? = some S ∧ x.1 ∈ S ∧ x.2 ∈ S ∧ OS S x) ∨ (∃ (i j : Nat) (S T : List Int), Js[i]? = some S ∧ Js[j]? = some T ∧ x.1 ∈ S ∧ x.2 ∈ T ∧ o i j), ?_, ?_, ?_, ?_⟩
  · rintro ⟨a, b⟩ (⟨i, S, e, aS, bS, h⟩ | ⟨i, j, S, T, e, f, aS, bT, h⟩)
    · exact ⟨pt.sub (jIs e) a aS, pt.sub (jIs e) b bS, ((hOS S (jIs e)).ar _ h).2.2⟩
    · obtain ⟨_, _, ij, g1⟩ := q.ar i j h
      exact ⟨pt.sub (jIs e) a aS, pt.sub (jIs f) b bT, by rw [bt i j S T ij e f a aS b bT]; exact g1⟩
  · rintro a b ⟨aI, bI, ab⟩
    obtain ⟨i, S, e, aS⟩ := close_at pm pt aI
    obtain ⟨j, T, f, bT⟩ := close_at pm pt bI
    by_cases ij : i = j
    · subst ij
      obtain rfl := same e f
      rcases (hOS S (jIs e)).one a b ⟨aS, bT, ab⟩ with k | k
      · exact .inl (.inl ⟨i, S, e, aS, bT, k⟩)
      · exact .inr (.inl ⟨i, S, e, bT, aS, k⟩)
    · have hi := (List.getElem?_eq_some_iff.mp e).1
      have hj := (List.getElem?_eq_some_iff.mp f).1
      rw [bt i j S T ij e f a aS b bT] at ab
      rcases q.one i j hi hj ij ab with k | k
      · exact .inl (.inr ⟨i, j, S, T, e, f, aS, bT, k⟩)
      · exact .inr (.inr ⟨j, i, T, S, f, e, bT, aS, k⟩)
  · rintro a b (⟨i, S, e, aS, bS, h⟩ | ⟨i, j, S, T, e, f, aS, bT, h⟩) (⟨i', S', e', bS', aS', h'⟩ | ⟨i', j', S', T', e', f', bS', aT', h'⟩) <;> dsimp only at *
    · have := uniq e e' aS aS'
      subst this
      obtain rfl := same e e'
      exact (hOS S (jIs e)).anti a b h h'
    · have h1 := uniq e f' aS aT'
      have h2 := uniq e e' bS bS'
      exact (q.ar _ _ h').2.2.1 (h2.symm.trans h1)
    · have h1 := uniq e e' aS aS'
      have h2 := uniq f e' bT bS'
      exact (q.ar _ _ h).2.2.1 (h1.trans h2.symm)
    · have h1 := uniq e f' aS aT'
      have h2 := uniq f e' bT bS'
      subst h1; subst h2
      exact q.anti _ _ h h'
  · rintro a b c (⟨i, S, e, aS, bS, h⟩ | ⟨i, j, S, T, e, f, aS, bT, h⟩) (⟨i', S', e', bS', cS', h'⟩ | ⟨i', j', S', T', e', f', bS', cT', h'⟩) <;> dsimp only at *
    · have := uniq e e' bS bS'
      subst this
      obtain rfl := same e e'
      exact .inl ⟨i, S, e, aS, cS', (hOS S (jIs e)).tr a b c h h'⟩
    · have := uniq e e' bS bS'
      subst this
      exact .inr ⟨i, j', S, T', e, f', aS, cT', h'⟩
    · have := uniq f e' bT bS'
      subst this
      obtain rfl := same f e'
      exact .inr ⟨i, j, S, T, e, f, aS, cS', h⟩
    · have := uniq f e' bT bS'
      subst this
      exact .inr ⟨i, j', S, T', e, f', aS, cT', q.tr _ _ _ h h'⟩
def oriL (sh : Shp) : List (Nat × Nat) := if sh.2.1 = [(0,1),(1,2),(2,3)] then [(0,1),(2,1),(2,3)] else if sh.2.1 = [(0,1),(1,2),(2,3),(3,4)] then [(0,1),(2,1),(2,3),(4,3)] else
  if sh.2.1 = [(0,1),(1,2),(2,3),(1,4),(2,4)] then [(0,1),(2,1),(2,3),(2,4),(4,1)] else if sh.2.1 = [(0,2),(0,3),(0,4),(1,3),(1,4),(2,4)] then [(0,2),(0,3),(0,4),(1,3),(1,4),(2,4)] else
  if sh.2.1 = [(0,1),(1,2),(2,3),(3,4),(4,5),(0,5)] then [(0,1),(0,5),(2,1),(2,3),(4,3),(4,5)] else [(0,1),(2,1),(2,3),(4,3),(4,5)]
theorem shape_ori1 : ∀ sh ∈ shapes, sh.2.2 ≠ 0 → sh.2.2 = 2 := by decide +kernel
theorem shape_ori2 : ∀ sh ∈ shapes, sh.2.2 ≠ 0 → ∀ p ∈ oriL sh, p.1 < sh.1 ∧ p.2 < sh.1 ∧ p.1 ≠ p.2 ∧ shA sh p.1 p.2 = true ∧ (p.2, p.1) ∉ oriL sh := by decide +kernel
theorem shape_ori3 : ∀ sh ∈ shapes, sh.2.2 ≠ 0 → ∀ p ∈ oriL sh, ∀ p' ∈ oriL sh, p.2 = p'.1 → (p.1, p'.2) ∈ oriL sh := by decide +kernel
theorem shape_ori4 : ∀ sh ∈ shapes, sh.2.2 ≠ 0 → ∀ i, i < sh.1 → ∀ j, j < sh.1 → (i == j || !(shA sh i j) || decide ((i, j) ∈ oriL sh) || decide ((j, i) ∈ oriL sh)) = true := by decide +kernel
theorem shape_bar : ∀ sh ∈ shapes, sh.2.2 = 0 → sh = (5, [(0,1),(1,2),(2,3),(3,4),(0,4)], 0) := by decide +kernel
theorem close_ori {sh : Shp} (hs : sh ∈ shapes) (nz : sh.2.2 ≠ 0) : OriQ sh.1 (shA sh) (fun i j => (i, j) ∈ oriL sh) := by
  have h1 := shape_ori2 sh hs nz
  have h3 := shape_ori3 sh hs nz
  refine ⟨fun i j h => ⟨(h1 _ h).1, (h1 _ h).2.1, (h1 _ h).2.2.1, (h1 _ h).2.2.2.1⟩, fun i j hi hj ij e => ?_, fun i j h k => (h1 _ h).2.2.2.2 k, fun i j l h k => h3 _ h _ k rfl⟩
  have h4 := shape_ori4 sh hs nz i hi j hj
  rw [Bool.or_eq_true, Bool.or_eq_true, Bool.or_eq_true, decide_eq_true_iff, decide_eq_true_iff, e, beq_iff_eq] at h4
  rcases h4 with ((h | h) | h) | h
  · exact absurd h ij
  · cases h
  · exact .inl h
  · exact .inr h
theorem all_ori (k : Nat) : OriQ k (fun _ _ => true) (fun i j => i < j ∧ j < k) :=
  ⟨fun i j h => ⟨by omega, h.2, by omega, rfl⟩, fun i j hi hj ij _ => by omega, fun i j h k => by omega, fun i j l h k => by omega⟩
theorem no_ori (k : Nat) : OriQ k (fun _ _ => false) (fun _ _ => False) :=
  ⟨fun i j h => h.elim, fun i j _ _ _ h => (by cases h), fun i j h => h.elim, fun i j l h => h.elim⟩
theorem btwP_ix {ts : List Ar} {b : Bool} {I : List Int} {Is : List (List Int)} (nI : I.Nodup) (pt : PartI I Is) (h : BtwP ts b Is) : ∀ (i j : Nat) (S T : List Int), i ≠ j → Is[i]? = some S → Is[j]? = some T → ∀ x ∈ S, ∀ y ∈ T, adjB ts x y = b := fun i j S T ij eS eT x hx y hy => by
  refine h.all S (List.mem_of_getElem? eS) T (List.mem_of_getElem? eT) (fun z => ij ?_) x hx y hy
  subst z
  have nd := pt.nods nI
  obtain ⟨hi, ei⟩ := List.getElem?_eq_some_iff.mp eS
  obtain ⟨hj, ej⟩ := List.getElem?_eq_some_iff.mp eT
  exact (List.getElem_inj nd).mp (ei.trans ej.symm)
theorem prodI_ne {l : List Int} (h : prodI l ≠ 0) : ∀ y ∈ l, y ≠ 0 := by
  induction l with
  | nil => intro y hy; cases hy
  | cons a l ih =>
    intro y hy
    have e : prodI (a :: l) = a * prodI l := rfl
    rw [e] at h
    rcases List.mem_cons.mp hy with rfl | hy
    · intro z; rw [z, Int.zero_mul] at h; exact h rfl
    · exact ih (fun z => h (by rw [z, Int.mul_zero])) y hy
theorem prodI_zero {l : List Int} (h : prodI l = 0) : ∃ y ∈ l, y = 0 := by
  induction l with
  | nil => exact absurd h (by decide)
  | cons a l ih =>
    have e : prodI (a :: l) = a * prodI l := rfl
    rw [e] at h
    rcases Int.mul_eq_zero.mp h with z | z
    · exact ⟨a, List.mem_cons_self, z⟩
    · obtain ⟨y, hy, e⟩ := ih z
      exact ⟨y, List.mem_cons_of_mem _ hy, e⟩
theorem factN_pos : ∀ n, 1 ≤ factN n
  | 0 => Int.le_refl _
  | n + 1 => by
    have h := factN_pos n
    show 1 ≤ factN n * ((n + 1 : Nat) : Int)
    have : (1 : Int) * 1 ≤ factN n * ((n + 1 : Nat) : Int) := Int.mul_le_mul h (by omega) (by decide) (by omega)
    omega
/-- of a drawn tree without a ring of five there is a led pointing -/
theorem DrX.led {ts : List Ar} {H : Hp} : ∀ {m : Nat} {v : V} {I : List Int} {wy : Int} {ab : Str}, DrX ts H m v I wy ab → (∀ x, adjB ts x x = false) → wy ≠ 0 → ∃ O, LedI ts I O
  | 0, _, _, _, _, h, _, _ => h.elim
  | m + 1, v, I, wy, ab, h, ir, nz => by
    rcases h with ⟨p, i, e, a, rfl, _⟩ | ⟨p, q, w, vs, bs, own, e, a, b, c, ⟨d1, d2, d3⟩, nb, ew⟩
    · refine ⟨fun _ => False, fun x h => h.elim, fun a b ⟨ha, hb, e⟩ => ?_, fun a b h => h.elim, fun a b c h => h.elim⟩
      rw [List.mem_singleton.mp ha, List.mem_singleton.mp hb, ir] at e
      cases e
    · have nI : I.Nodup := d1.imp fun h => Int.ne_of_lt h
      have on : own ≠ 0 := fun z => nz (by rw [ew, z, Int.zero_mul])
      have pn : prodI (bs.map (·.2)) ≠ 0 := fun z => nz (by rw [ew, z, Int.mul_zero])
      have kids : ∀ S ∈ bs.map (·.1), ∃ O, LedI ts S O := fun S hS => by
        obtain ⟨t, ht, rfl⟩ := List.mem_map.mp hS
        obtain ⟨u, hu⟩ := all2_get c t ht
        exact hu.led ir (prodI_ne pn _ (List.mem_map.mpr ⟨t, ht, rfl⟩))
      rcases nb with ⟨rfl, b, d, e⟩ | ⟨rfl, b, d, e⟩ | ⟨rfl, sh, hs, Js, pm, jl, ow, bt⟩
      · exact sub_led nI d2 (List.Perm.refl _) (btwP_ix nI d2 e) (all_ori _) kids
      · exact sub_led nI d2 (List.Perm.refl _) (btwP_ix nI d2 e) (no_ori _) kids
      · have q := close_ori hs (by rw [← ow]; exact on)
        rw [← jl] at q
        exact sub_led nI d2 pm bt q kids
/-- a ring of five has none -/
theorem ring5_no {O : Int × Int → Prop} {T : Int → Int → Prop} (h : Tr.Led T O) {a b c d e : Int} (ab : T a b) (bc : T b c) (cd : T c d) (de : T d e) (ea : T e a) (ac : ¬ T a c) (bd : ¬ T b d) (ce : ¬ T c e) (da : ¬ T d a) (eb : ¬ T e b)
    (ca : ¬ T c a) (db : ¬ T d b) (ec : ¬ T e c) (ad : ¬ T a d) (be : ¬ T b e) : False := by
  have st : ∀ x y z, T y z → ¬ T x z → O (x, y) → O (z, y) := fun x y z yz nxz o => (h.one y z yz).elim (fun k => absurd (h.ar _ (h.tr x y z o k)) nxz) id
  have st2 : ∀ x y z, T y z → ¬ T z x → O (y, x) → O (y, z) := fun x y z yz nzx o => (h.one y z yz).elim id (fun k => absurd (h.ar _ (h.tr z y x k o)) nzx)
  rcases h.one a b ab with o | o
  · have o1 := st a b c bc ac o
    have o2 := st2 b c d cd db o1
    have o3 := st c d e de ce o2
    have o4 := st2 d e a ea ad o3
    exact absurd (h.ar _ (h.tr e a b o4 o)) eb
  · have o1 := st2 a b c bc ca o
    have o2 := st b c d cd bd o1
    have o3 := st2 c d e de ec o2
    have o4 := st d e a ea da o3
    exact absurd (h.ar _ (h.tr b a e o o4)) be
theorem DrX.noLed {ts : List Ar} {H : Hp} : ∀ {m : Nat} {v : V} {I : List Int} {wy : Int} {ab : Str}, DrX ts H m v I wy ab → wy = 0 → ∀ O, ¬ LedI ts I O
  | 0, _, _, _, _, h, _, _ => h.elim
  | m + 1, v, I, wy, ab, h, z, O => fun hO => by
    rcases h with ⟨p, i, e, a, rfl, w1⟩ | ⟨p, q, w, vs, bs, own, e, a, b, c, ⟨d1, d2, d3⟩, nb, ew⟩
    · rw [w1] at z; exact absurd z (by decide)
    · rw [ew] at z
      rcases Int.mul_eq_zero.mp z with z | z
      · rcases nb with ⟨rfl, b, d, e⟩ | ⟨rfl, b, d, e⟩ | ⟨rfl, sh, hs, Js, pm, jl, ow, bt⟩
        · have := factN_pos (bs.map (·.1)).length
          omega
        · omega
        · have hsh := shape_bar sh hs (by rw [← ow]; exact z)
          have k5 : Js.length = 5 := by rw [jl, hsh]
          have get : ∀ i, i < 5 → ∃ S x, Js[i]? = some S ∧ x ∈ S ∧ x ∈ I := fun i hi => by
            have hi' : i < Js.length := by omega
            have mS := pm.mem_iff.mp (List.getElem_mem hi')
            obtain ⟨x, hx⟩ := List.exists_mem_of_ne_nil _ (d2.ne _ mS)
            exact ⟨_, x, List.getElem?_eq_getElem hi', hx, d2.sub mS x hx⟩
          obtain ⟨S0, x0, e0, m0, i0⟩ := get 0 (by decide)
          obtain ⟨S1, x1, e1, m1, i1⟩ := get 1 (by decide)
          obtain ⟨S2, x2, e2, m2, i2⟩ := get 2 (by decide)
          obtain ⟨S3, x3, e3, m3, i3⟩ := get 3 (by decide)
          obtain ⟨S4, x4, e4, m4, i4⟩ := get 4 (by decide)
          have yes : ∀ {i j : Nat} {S T : List Int} {x y : Int}, Js[i]? = some S → Js[j]? = some T → x ∈ S → y ∈ T → x ∈ I → y ∈ I → i ≠ j → shA sh i j = true → TI ts I x y := fun {i j S T x y} eS eT xS yT xI yI ij g => ⟨xI, yI, by rw [bt i j S T ij eS eT x xS y yT]; exact g⟩
          have no : ∀ {i j : Nat} {S T : List Int} {x y : Int}, Js[i]? = some S → Js[j]? = some T → x ∈ S → y ∈ T → i ≠ j → shA sh i j = false → ¬ TI ts I x y := fun {i j S T x y} eS eT xS yT ij g t => by
            have := t.2.2
            rw [bt i j S T ij eS eT x xS y yT, g] at this
            cases this
          rw [hsh] at yes no
          exact ring5_no hO (yes e0 e1 m0 m1 i0 i1 (by decide) (by decide)) (yes e1 e2 m1 m2 i1 i2 (by decide) (by decide)) (yes e2 e3 m2 m3 i2 i3 (by decide) (by decide)) (yes e3 e4 m3 m4 i3 i4 (by decide) (by decide)) (yes e4 e0 m4 m0 i4 i0 (by decide) (by decide))
            (no e0 e2 m0 m2 (by decide) (by decide)) (no e1 e3 m1 m3 (by decide) (by decide)) (no e2 e4 m2 m4 (by decide) (by decide)) (no e3 e0 m3 m0 (by decide) (by decide)) (no e4 e1 m4 m1 (by decide) (by decide))
            (no e2 e0 m2 m0 (by decide) (by decide)) (no e3 e1 m3 m1 (by decide) (by decide)) (no e4 e2 m4 m2 (by decide) (by decide)) (no e0 e3 m0 m3 (by decide) (by decide)) (no e1 e4 m1 m4 (by decide) (by decide))
      · obtain ⟨y, hy, y0⟩ := prodI_zero z
        obtain ⟨t, ht, rfl⟩ := List.mem_map.mp hy
        obtain ⟨u, hu⟩ := all2_get c t ht
        have mS : t.1 ∈ bs.map (·.1) := List.mem_map.mpr ⟨t, ht, rfl⟩
        exact hu.noLed y0 _ (ledI_sub (d2.sub mS) hO)
/-! ### how many ways -/
def cbN (w : Str) (k : Nat) : Int := if w = "all" then factN k else if w = "close" then 2 else 1
def CwI (ts : List Ar) : Nat → List Int → Int → Prop
  | 0, _, _ => False
  | m + 1, I, c => (∃ i, I = [i] ∧ c = 1) ∨ ∃ (w : Str) (Is : List (List Int)) (ys : List Int), KindX ts I w Is ∧ (I.Pairwise (· < ·) ∧ 2 ≤ I.length) ∧ ys.length = Is.length ∧
      (∀ (i : Nat) (S : List Int) (y : Int), Is[i]? = some S → ys[i]? = some y → CwI ts m S y) ∧ c = cbN w Is.length * prodI ys
theorem CwI.uniq {ts : List Ar} : ∀ {m k : Nat} {I : List Int} {c d : Int}, CwI ts m I c → CwI ts k I d → c = d
  | 0, _, _, _, _, h, _ => h.elim
  | _ + 1, 0, _, _, _, _, h => h.elim
  | m + 1, k + 1, I, c, d, h, g => by
    rcases h with ⟨i, rfl, rfl⟩ | ⟨w, Is, ys, kd, ⟨r, l2⟩, yl, ky, rfl⟩
    · rcases g with ⟨i', _, rfl⟩ | ⟨w', Is', ys', kd', ⟨r', l2'⟩, _⟩
      · rfl
      · exact absurd l2' (by simp)
    · rcases g with ⟨i', rfl, rfl⟩ | ⟨w', Is', ys', kd', ⟨r', l2'⟩, yl', ky', rfl⟩
      · exact absurd l2 (by simp)
      · obtain ⟨rfl, rfl⟩ := kd.uniq r l2 kd'
        have : ys = ys' := by
          refine List.ext_getElem? fun i => ?_
          rcases Nat.lt_or_ge i Is.length with z | z
          · have h1 : i < ys.length := by omega
            have h2 : i < ys'.length := by omega
            rw [List.getElem?_eq_getElem h1, List.getElem?_eq_getElem h2]
            have e := CwI.uniq (ky i _ _ (List.getElem?_eq_getElem z) (List.getElem?_eq_getElem h1)) (ky' i _ _ (List.getElem?_eq_getElem z) (List.getElem?_eq_getElem h2))
            rw [e]
          · rw [List.getElem?_eq_none (by omega), List.getElem?_eq_none (by omega)]
        rw [this]
theorem fact_le : ∀ k : Nat, k < 13 → 1 ≤ k → factN k ≤ 12 ^ (k - 1) := by decide +kernel
theorem CwI.le {ts : List Ar} : ∀ {m : Nat} {I : List Int} {c : Int}, CwI ts m I c → I.length ≤ 12 → 1 ≤ c ∧ c ≤ 12 ^ (I.length - 1)
  | 0, _, _, h, _ => h.elim
  | m + 1, I, c, h, l => by
    rcases h with ⟨i, rfl, rfl⟩ | ⟨w, Is, ys, kd, ⟨r, l2⟩, yl, ky, rfl⟩
    · exact ⟨Int.le_refl _, by rw [List.length_singleton]; decide⟩
    · have pt := kd.part r l2
      have ptl := pt.len
      have key : ∀ (Is : List (List Int)) (ys : List Int), ys.length = Is.length → (∀ (i : Nat) (S : List Int) (y : Int), Is[i]? = some S → ys[i]? = some y → 1 ≤ y ∧ y ≤ 12 ^ (S.length - 1)) → (∀ S ∈ Is, S ≠ []) → 1 ≤ prodI ys ∧ prodI ys ≤ 12 ^ (Is.flatten.length - Is.length) ∧ Is.length ≤ Is.flatten.length := fun Is => by
        induction Is with
        | nil => intro ys e _ _; rw [List.eq_nil_of_length_eq_zero e]; exact ⟨Int.le_refl _, by decide, Nat.le_refl _⟩
        | cons S Is ih =>
          intro ys e k ne
          cases ys with
          | nil => cases e
          | cons y ys =>
            obtain ⟨a, b⟩ := k 0 S y rfl rfl
            obtain ⟨c, d, f⟩ := ih ys (Nat.succ.inj e) (fun i S y e1 e2 => k (i + 1) S y e1 e2) fun S hS => ne S (List.mem_cons_of_mem _ hS)
            have S0 := List.length_pos_iff.mpr (ne S List.mem_cons_self)
            have e : prodI (y :: ys) = y * prodI ys := rfl
            rw [e, List.flatten_cons, List.length_append, List.length_cons]
            refine ⟨?_, ?_, by omega⟩
            · have : (1 : Int) * 1 ≤ y * prodI ys := Int.mul_le_mul a c (by decide) (by omega)
              omega
            · have h1 : y * prodI ys ≤ 12 ^ (S.length - 1) * 12 ^ (Is.flatten.length - Is.length) := Int.mul_le_mul b d (by omega) (by omega)
              rw [← Int.pow_add] at h1
              rw [show S.length + Is.flatten.length - (Is.length + 1) = S.length - 1 + (Is.flatten.length - Is.length) by omega]
              exact h1
      have fl := pt.perm.length_eq
      obtain ⟨a, b, f⟩ := key Is ys yl (fun i S y e1 e2 => (ky i S y e1 e2).le (by have := pt.less (List.mem_of_getElem? e1); omega)) pt.ne
      have two := pt.two
      have cb : 1 ≤ cbN w Is.length ∧ cbN w Is.length ≤ 12 ^ (Is.length - 1) := by
        have h1 : (1 : Int) ≤ 12 ^ (Is.length - 1) := by
          have : ∀ n : Nat, (1 : Int) ≤ 12 ^ n := fun n => by
            induction n with
            | zero => decide
            | succ n ih => rw [Int.pow_succ]; omega
          exact this _
        have h2 : (2 : Int) ≤ 12 ^ (Is.length - 1) := by
          obtain ⟨k, e⟩ : ∃ k, Is.length - 1 = k + 1 := ⟨Is.length - 2, by omega⟩
          rw [e, Int.pow_succ]
          have : ∀ n : Nat, (1 : Int) ≤ 12 ^ n := fun n => by
            induction n with
            | zero => decide
            | succ n ih => rw [Int.pow_succ]; omega
          have := this k
          omega
        unfold cbN
        split
        · exact ⟨factN_pos _, fact_le _ (by omega) (by omega)⟩
        · split
          · exact ⟨by decide, h2⟩
          · exact ⟨Int.le_refl _, h1⟩
      refine ⟨?_, ?_⟩
      · have : (1 : Int) * 1 ≤ cbN w Is.length * prodI ys := Int.mul_le_mul cb.1 a (by decide) (by omega)
        omega
      · have h1 : cbN w Is.length * prodI ys ≤ 12 ^ (Is.length - 1) * 12 ^ (Is.flatten.length - Is.length) := Int.mul_le_mul cb.2 b (by omega) (by omega)
        rw [← Int.pow_add] at h1
        rw [show I.length - 1 = Is.length - 1 + (Is.flatten.length - Is.length) by omega]
        exact h1
theorem CwI.small {ts : List Ar} {m : Nat} {I : List Int} {c : Int} (h : CwI ts m I c) (l : I.length ≤ 12) : 1 ≤ c ∧ c < 2 ^ 60 := by
  obtain ⟨a, b⟩ := h.le l
  have : ∀ k : Nat, k < 12 → (12 : Int) ^ k < 2 ^ 60 := by decide +kernel
  have := this (I.length - 1) (by omega)
  exact ⟨a, by omega⟩
theorem kindX_of {ts : List Ar} {H : Hp} {m : Nat} {p q : Addr} {w : Str} {I : List Int} {vs : List V} {Is : List (List Int)} (ep : H p = some (.tup [.str w, .ref q])) (eq : H q = some (.tup vs)) (h : TrX ts H (m + 1) (.ref p) I) (l2 : 2 ≤ I.length) : ∃ Is', KindX ts I w Is' ∧ All2 (TrX ts H m) vs Is' := by
  rcases h with ⟨p', i, e, a, rfl⟩ | ⟨p', q', w', vs', Is', e, a, b, k, c, d⟩
  · exact absurd l2 (by simp)
  · cases e
    rw [ep] at a
    cases a
    rw [eq] at c
    cases c
    exact ⟨Is', k, d⟩
theorem DrX.kind {ts : List Ar} {H : Hp} {m : Nat} {I : List Int} {ab w : Str} {own : Int} {vs : List V} {bs : List (List Int × Int)} (c : All2 (fun v b => DrX ts H m v b.1 b.2 w) vs bs) (d1 : I.Pairwise (· < ·)) (d2 : PartI I (bs.map (·.1))) (d3 : (bs.map (·.1)).Pairwise HdLt) (nb : NodeB ts ab w (bs.map (·.1)) own) : KindX ts I w (bs.map (·.1)) := by
  have nI : I.Nodup := d1.imp fun h => Int.ne_of_lt h
  have l2 : 2 ≤ I.length := Nat.le_trans d2.two d2.len
  have Ine : I ≠ [] := fun z => by rw [z] at l2; exact absurd l2 (by decide)
  have kids : ∀ S ∈ bs.map (·.1), (w = "apart" → ConI ts true S) ∧ (w = "all" → ConI ts false S) := fun S hS => by
    obtain ⟨t, ht, rfl⟩ := List.mem_map.mp hS
    obtain ⟨u, hu⟩ := all2_get c t ht
    exact hu.con
  have len2 : 1 < (bs.map (·.1)).length := d2.two
  rcases nb with ⟨rfl, b, d, e⟩ | ⟨rfl, b, d, e⟩ | ⟨rfl, sh, hs, Js, pm, jl, ow, bt⟩
  · exact .inr (.inl ⟨rfl, ⟨[I], setsI_one (con_btw d2 nI e) d1 Ine, by simp⟩, setsI_parts d2 d3 e fun S hS => (kids S hS).2 rfl, len2⟩)
  · exact .inl ⟨rfl, setsI_parts d2 d3 e fun S hS => (kids S hS).1 rfl, len2⟩
  · exact .inr (.inr ⟨rfl, ⟨[I], setsI_one (close_con hs pm jl d2 bt true) d1 Ine, by simp⟩, ⟨[I], setsI_one (close_con hs pm jl d2 bt false) d1 Ine, by simp⟩, close_clsG hs pm jl d2 bt d1 d3⟩)
theorem DrX.cw {ts : List Ar} {H : Hp} : ∀ {m : Nat} {v : V} {I : List Int} {wy : Int} {ab : Str}, DrX ts H m v I wy ab → wy ≠ 0 → CwI ts m I wy
  | 0, _, _, _, _, h, _ => h.elim
  | m + 1, v, I, wy, ab, h, nz => by
    rcases h with ⟨p, i, e, a, rfl, w1⟩ | ⟨p, q, w, vs, bs, own, e, a, b, c, ⟨d1, d2, d3⟩, nb, ew⟩
    · exact .inl ⟨i, rfl, w1⟩
    · have on : own ≠ 0 := fun z => nz (by rw [ew, z, Int.zero_mul])
      have pn : prodI (bs.map (·.2)) ≠ 0 := fun z => nz (by rw [ew, z, Int.mul_zero])
      refine .inr ⟨w, bs.map (·.1), bs.map (·.2), DrX.kind c d1 d2 d3 nb, ⟨d1, Nat.le_trans d2.two d2.len⟩, by rw [List.length_map, List.length_map], fun i S y eS ey => ?_, ?_⟩
      · rw [List.getElem?_map] at eS ey
        obtain ⟨t, et, rfl⟩ := Option.map_eq_some_iff.mp eS
        rw [et] at ey
        cases ey
        have ht := List.mem_of_getElem? et
        obtain ⟨u, hu⟩ := all2_get c t ht
        exact hu.cw (prodI_ne pn _ (List.mem_map.mpr ⟨t, ht, rfl⟩))
      · rw [ew]
        congr 1
        unfold cbN
        rcases nb with ⟨rfl, b, d, e⟩ | ⟨rfl, b, d, e⟩ | ⟨rfl, sh, hs, Js, pm, jl, ow, bt⟩
        · rw [if_pos rfl]; exact d
        · rw [if_neg (by decide), if_neg (by decide)]; exact d
        · rw [if_neg (by decide), if_pos rfl, ow]
          exact shape_ori1 sh hs (by rw [← ow]; exact on)
theorem CwI.ex {ts : List Ar} {H : Hp} : ∀ {m : Nat} {v : V} {I : List Int}, TrX ts H m v I → ∃ c, CwI ts m I c
  | 0, _, _, h => h.elim
  | m + 1, v, I, h => by
    rcases h with ⟨p, i, e, a, b⟩ | ⟨p, q, w, vs, Is, e, a, b, k, c, d⟩
    · exact ⟨1, .inl ⟨i, b, rfl⟩⟩
    · have key : ∀ (vs : List V) (Is : List (List Int)), All2 (TrX ts H m) vs Is → ∃ ys : List Int, ys.length = Is.length ∧ ∀ (i : Nat) (S : List Int) (y : Int), Is[i]? = some S → ys[i]? = some y → CwI ts m S y := fun vs => by
        induction vs with
        | nil =>
          intro Is h
          cases Is with
          | nil => exact ⟨[], rfl, fun i S y e => by cases e⟩
          | cons S Is => exact h.elim
        | cons v vs ih =>
          intro Is h
          cases Is with
          | nil => exact h.elim
          | cons S Is =>
            obtain ⟨y, hy⟩ := CwI.ex h.1
            obtain ⟨ys, l, k⟩ := ih Is h.2
            refine ⟨y :: ys, by rw [List.length_cons, List.length_cons, l], fun i S' y' e f => ?_⟩
            cases i with
            | zero => cases e; cases f; exact hy
            | succ i => exact k i S' y' e f
      obtain ⟨ys, l, ky⟩ := key vs Is d
      exact ⟨_, .inr ⟨w, Is, ys, k, b, l, ky, rfl⟩⟩
end My

set_option Elab.async false
set_option linter.all false
set_option maxRecDepth 100000
namespace My
open PySem PySem.Spec PyProof.Rows L2
/-- as DnM has it, for chains without DnM -/
theorem prodI_snoc (l : List Int) (y : Int) : prodI (l ++ [y]) = prodI l * y := by
  induction l with
  | nil => show y * 1 = 1 * y; omega
  | cons a l ih => show a * prodI (l ++ [y]) = a * prodI l * y; rw [ih, Int.mul_assoc]
end My

set_option Elab.async false
set_option linter.all false
set_option maxRecDepth 100000
set_option maxHeartbeats 4000000
set_option pp.maxSteps 400
namespace My
open PySem PySem.Spec PyProof.Rows L2 GxR
section
variable {P : Program} {w : World} {K : PySem.W.Frag} {mg : Str → Option Value} {base : Heap}
/-! ### can_be_pointed -/
abbrev N_can_be_pointed : List Str := ["web"]
theorem sc_can_be_pointed : FnScope N_can_be_pointed ["web"] (defScope s_can_be_pointed) := ⟨rfl, rfl, rfl, by decide +kernel, rfl, by decide +kernel, by decide +kernel⟩
def sp_canpt : Sp := fun vs H Q _ => ∃ (v : V) (n : Nat) (ts : List Ar), vs = [v] ∧ Web H v n ts ∧ WOk n ts ∧ n ≤ 12 ∧ ∀ (b : Bool), (b = true ↔ Nb n ts) → ∀ H', Same H H' → Q (.bl b) H'
theorem ok_canpt {f : Addr} {fd : FuncData} (B : Bts mg) (F : Fun K "can_be_pointed" "can_be_pointed" s_can_be_pointed f fd) (c_forcings_of : Cl P w K mg base 2 "forcings_of" sp_fof) (c_first_round : Cl P w K mg base 3 "first_round" sp_fround) : FnOk P w K mg base CX0 4 f fd ["web"] sp_canpt := by
  refine F.ok sc_can_be_pointed (fun vs H Q E h => ?_) (fun cdv A outer s H vs Q E hr h => ?_)
  · obtain ⟨v, n, ts, rfl, _⟩ := h; rfl
  · obtain ⟨v, n, ts, rfl, hWeb, hW, hn, q⟩ := h
    refine ⟨_, (pss_one (ps_ret (pe_cmpR op_isN (pe_c c_first_round hr (by decide) (by rfl) (pa_cons (pe_c c_forcings_of hr (by decide) (by rfl) (pa_cons (pv 0) pa_nil)) pa_nil)) pe_non (nomark _)))), ?_⟩
    have tl := wok_len hW (by omega)
    refine ⟨_, rfl, v, n, ts, rfl, hWeb, hW, hn, tl, fun D H1 nD s1 hD ⟨kvf, eD⟩ => ?_⟩
    refine ⟨D, kvf, n, ts, rfl, hD, eD, hW, hn, fun nb H2 s2 => ?_, fun t ht l hl p us H2 _ s2 _ _ => ?_⟩
    · exact ⟨rfl, q true ⟨fun _ => nb, fun _ => rfl⟩ H2 (s1.trans s2)⟩
    · exact ⟨rfl, q false ⟨fun z => absurd z (by decide), fun z => absurd z (rnd_nb hW ht)⟩ H2 (s1.trans s2)⟩
end
end My

set_option Elab.async false
set_option linter.all false
set_option maxRecDepth 100000
set_option pp.maxSteps 400
set_option maxHeartbeats 4000000
namespace My
open PySem PySem.Spec PyProof.Rows L2 GxR
def ipM : TIp := fun x y H Q => ∃ i j, x = .int i ∧ y = .int j ∧ CMul i j ∧ Q (.int (i * j)) H
theorem ip_mul {X : Cx} : PIp X .Mult ipM := by
  intro pins s σ H x y v u Q I r1 r2 h
  obtain ⟨i, j, e1, e2, hm, q⟩ := h
  subst e1; subst e2
  obtain ⟨t, rfl⟩ := r1
  obtain ⟨t', rfl⟩ := r2
  exact imul_int ⟨.int _, H, I.tok _, ⟨_, rfl⟩, q⟩ hm.ok
theorem nrB_adj {n : Nat} {ts : List Ar} (hW : WOk n ts) (a b : Int) : nrB ts a b = adjB ts a b := by
  unfold nrB adjB
  exact decide_eq_decide.mpr (tieO_tied hW a b).symm
/-- whether a web can be pointed -/
theorem nb_led {n : Nat} {ts : List Ar} (hW : WOk n ts) : Nb n ts ↔ ∃ O, LedI ts (up n) O := by
  have tt : ∀ a b, TB ts a b ↔ TI ts (up n) a b := fun a b => by
    unfold TB TI
    rw [nrB_adj hW]
    constructor
    · intro h
      have l := nrB_lt hW (a := a) (b := b) (by rw [nrB_adj hW]; exact h)
      exact ⟨mem_up.mpr ⟨l.1, l.2.1⟩, mem_up.mpr ⟨l.2.2.1, l.2.2.2.1⟩, h⟩
    · exact fun h => h.2.2
  have e : TB ts = TI ts (up n) := funext fun a => funext fun b => propext (tt a b)
  constructor
  · intro h
    refine ⟨UpA ts, ?_⟩
    show Tr.Led (TI ts (up n)) _
    rw [← e]; exact up_led' hW h
  · rintro ⟨O, hO⟩
    change Tr.Led (TI ts (up n)) O at hO
    rw [← e] at hO
    exact tr_nb hW (hO.nb (gr hW))
section
variable {P : Program} {w : World} {K : PySem.W.Frag} {mg : Str → Option Value} {base : Heap}
/-! ### count_between -/
abbrev N_count_between : List Str := ["kind", "size", "many", "factor"]
theorem sc_count_between : FnScope N_count_between ["kind", "size"] (defScope s_count_between) := ⟨rfl, rfl, rfl, by decide +kernel, rfl, by decide +kernel, by decide +kernel⟩
def sp_cbetween : Sp := fun vs H Q _ => ∃ (wd : Str) (k : Nat), vs = [.str wd, .int (k : Int)] ∧ (wd = "all" ∨ wd = "apart" ∨ wd = "close") ∧ k ≤ 12 ∧ 1 ≤ k ∧ Q (.int (cbN wd k)) H
theorem ok_cbetween {f : Addr} {fd : FuncData} (B : Bts mg) (F : Fun K "count_between" "count_between" s_count_between f fd) : FnOk P w K mg base CX0 1 f fd ["kind", "size"] sp_cbetween := by
  refine F.ok sc_count_between (fun vs H Q E h => ?_) (fun cdv A outer s H vs Q E hr h => ?_)
  · obtain ⟨wd, k, rfl, _⟩ := h; rfl
  · obtain ⟨wd, k, rfl, hw, hk, k1, q⟩ := h
    refine ⟨_, (pss_cons (ps_if (pt_cmpR op_eq (pv 0) pe_str (nomark _)) (pss_one (ps_ret pe_int)) pss_nil)
    (pss_cons (ps_if (pt_cmpR op_eq (pv 0) pe_str (nomark _)) (pss_one (ps_ret pe_int)) pss_nil)
    (pss_cons (ps_set (i := 2) sc_count_between.nd rfl (by first | exact Or.inl rfl | exact Or.inr rfl) pe_int)
    (pss_cons (ps_for PassesOwn.never rfl (pi_range2 (by rfl) B.range (pa_cons pe_int (pa_cons (pe_op op_add (pv 1) pe_int) pa_nil))) (pg_name (i := 3) sc_count_between.nd rfl (by first | exact Or.inl rfl | exact Or.inr rfl))
      (pss_one (ps_aug (i := 2) sc_count_between.nd rfl (by first | exact Or.inl rfl | exact Or.inr rfl) (pv 3) ip_mul)))
    (pss_one (ps_ret (pv 2))))))), ?_⟩
    refine ⟨_, rfl, rfl, _, rfl, ite2 (fun e => ?_) (fun e => ?_)⟩
    · have e' : wd = "apart" := V.str.inj (of_decide_eq_true e)
      subst e'
      exact q
    have n1 : wd ≠ "apart" := fun z => e (decide_eq_true (by rw [z]))
    refine ⟨_, rfl, rfl, _, rfl, ite2 (fun e => ?_) (fun e => ?_)⟩
    · have e' : wd = "close" := V.str.inj (of_decide_eq_true e)
      subst e'
      exact q
    have n2 : wd ≠ "close" := fun z => e (decide_eq_true (by rw [z]))
    have e' : wd = "all" := by
      rcases hw with h | h | h
      · exact h
      · exact absurd h n1
      · exact absurd h n2
    subst e'
    have fl : ∀ j, j ≤ 12 → factN j < 2 ^ 40 := by decide +kernel
    refine ⟨_, rfl, _, _, rfl, rfl, _, _, rfl, ⟨by decide, by decide, by omega, by omega⟩, ?_⟩
    refine for_range (fun i σ HX => ∃ y3, σ = [some (.str "all"), some (.int (k : Int)), some (.int (factN (i + 1))), y3] ∧ HX = H) ⟨_, rfl, rfl⟩ ?_ ?_
    · rintro i σ HX hi ⟨y3, rfl, rfl⟩
      have hi' : i + 2 ≤ 12 := by omega
      have fp := factN_pos (i + 1)
      have f1 := fl (i + 1) (by omega)
      refine ⟨_, rfl, _, rfl, _, _, rfl, rfl, .inr ⟨by omega, by omega⟩, ?_⟩
      refine ⟨some (.int (2 + (i : Int))), ?_, rfl⟩
      have : factN (i + 1) * (2 + (i : Int)) = factN (i + 1 + 1) := by
        show _ = factN (i + 1) * ((i + 1 + 1 : Nat) : Int)
        congr 1; omega
      rw [this]; rfl
    · rintro σ HX ⟨y3, rfl, rfl⟩
      have e : ((k : Int) + 1 - 2).toNat + 1 = k := by omega
      rw [e]
      refine ⟨_, rfl, ?_⟩
      have : cbN "all" k = factN k := by unfold cbN; rw [if_pos rfl]
      rw [this] at q
      exact q
/-! ### count_within -/
abbrev N_count_within : List Str := ["tree", "kind", "inside", "many", "part"]
theorem sc_count_within : FnScope N_count_within ["tree"] (defScope s_count_within) := ⟨rfl, rfl, rfl, by decide +kernel, rfl, by decide +kernel, by decide +kernel⟩
def sp_cwithin (m : Nat) : Sp := fun vs H Q _ => ∃ (v : V) (ts : List Ar) (I : List Int), vs = [v] ∧ TrX ts H m v I ∧ I.length ≤ 12 ∧ ∀ c, CwI ts m I c → Q (.int c) H
theorem ok_cwithin1 {f : Addr} {fd : FuncData} {m : Nat} (B : Bts mg) (F : Fun K "count_within" "count_within" s_count_within f fd) (c_count_between : Cl P w K mg base 1 "count_between" sp_cbetween) (c_count_within : Cl P w K mg base (m + 1) "count_within" (sp_cwithin m)) :
    FnOk P w K mg base CX0 (m + 2) f fd ["tree"] (sp_cwithin (m + 1)) := by
  refine F.ok sc_count_within (fun vs H Q E h => ?_) (fun cdv A outer s H vs Q E hr h => ?_)
  · obtain ⟨v, ts, I, rfl, _⟩ := h; rfl
  · obtain ⟨v, ts, I, rfl, hv, Il, q⟩ := h
    refine ⟨_, (pss_cons (ps_asg (pv 0) (pg_tup rfl (pgs_cons (pg_name (i := 1) sc_count_within.nd rfl (by first | exact Or.inl rfl | exact Or.inr rfl)) (pgs_cons (pg_name (i := 2) sc_count_within.nd rfl (by first | exact Or.inl rfl | exact Or.inr rfl)) pgs_nil))))
    (pss_cons (ps_if (pt_cmpR op_eq (pv 1) pe_str (nomark _)) (pss_one (ps_ret pe_int)) pss_nil)
    (pss_cons (ps_set (i := 3) sc_count_within.nd rfl (by first | exact Or.inl rfl | exact Or.inr rfl) (pe_c c_count_between hr (by omega) (by rfl) (pa_cons (pv 1) (pa_cons (pe_callB call_len_seq (by rfl) B.len (by decide +kernel) (pa_cons (pv 2) pa_nil)) pa_nil))))
    (pss_cons (ps_for PassesOwn.never rfl (pi_tup (pv 2)) (pg_name (i := 4) sc_count_within.nd rfl (by first | exact Or.inl rfl | exact Or.inr rfl))
      (pss_one (ps_aug (i := 3) sc_count_within.nd rfl (by first | exact Or.inl rfl | exact Or.inr rfl) (pe_c c_count_within hr (Nat.le_refl _) (by rfl) (pa_cons (pv 4) pa_nil)) ip_mul)))
    (pss_one (ps_ret (pv 3))))))), ?_⟩
    rcases hv with ⟨p, i, rfl, ep, rfl⟩ | ⟨p, q0, wd, us, Is, rfl, ep, ⟨r, l2⟩, kd, eq, hU⟩
    · refine ⟨_, rfl, p, _, rfl, SqT.of ep, rfl, _, _, rfl, _, _, rfl, rfl, ?_⟩
      refine ⟨_, rfl, rfl, _, rfl, ?_⟩
      rw [decide_eq_true rfl]
      exact iteT (q 1 (.inl ⟨i, rfl, rfl⟩))
    · have pt := kd.part r l2
      have ptl := pt.len
      have two := pt.two
      have ul := hU.len
      have wne := kd.word
      have hw : wd = "all" ∨ wd = "apart" ∨ wd = "close" := by
        rcases kd with ⟨rfl, _⟩ | ⟨rfl, _⟩ | ⟨rfl, _⟩
        · exact .inr (.inl rfl)
        · exact .inl rfl
        · exact .inr (.inr rfl)
      refine ⟨_, rfl, p, _, rfl, SqT.of ep, rfl, _, _, rfl, _, _, rfl, rfl, ?_⟩
      refine ⟨_, rfl, rfl, _, rfl, ?_⟩
      rw [decide_eq_false (fun z => wne.1 (V.str.inj z))]
      refine iteF ?_
      refine ⟨_, rfl, _, rfl, q0, us, rfl, .inr (SqT.of eq), wd, us.length, rfl, hw, by omega, by omega, ?_⟩
      refine ⟨_, rfl, q0, rfl, ⟨_, SqT.of eq⟩, ?_⟩
      refine for_tup (K := K) (a := q0) (xs := us) (fun j σ HX => ∃ ys y4, σ = [some (.ref p), some (.str wd), some (.ref q0), some (.int (cbN wd us.length * prodI ys)), y4] ∧ HX = H ∧ ys.length = j ∧ ∀ (i : Nat) (S : List Int) (y : Int), Is[i]? = some S → ys[i]? = some y → CwI ts m S y) ⟨[], _, by show _ = [some (V.ref p), some (.str wd), some (.ref q0), some (.int (cbN wd us.length * 1)), _]; rw [Int.mul_one]; rfl, rfl, rfl, fun i S y e f => by cases f⟩ ?_ ?_ ?_
      · rintro j σ HX _ ⟨_, _, _, rfl, _⟩
        exact SqT.of eq
      · rintro j x σ HX hx ⟨ys, y4, rfl, rfl, yl, ky⟩
        obtain ⟨S, eS, hS⟩ := hU.at hx
        have less := pt.less (List.mem_of_getElem? eS)
        refine ⟨_, rfl, _, rfl, x, ts, S, rfl, hS, by omega, fun c hc => ?_⟩
        have cs := hc.small (by omega)
        refine ⟨_, _, rfl, rfl, .inr ⟨by omega, by omega⟩, ?_⟩
        refine ⟨ys ++ [c], some x, ?_, rfl, by rw [List.length_append, yl]; rfl, fun i S' y e f => ?_⟩
        · rw [prodI_snoc, ← Int.mul_assoc]; rfl
        · rcases Nat.lt_or_ge i ys.length with z | z
          · rw [List.getElem?_append_left z] at f
            exact ky i S' y e f
          · rw [List.getElem?_append_right z] at f
            have i0 : i = ys.length := by
              have := (List.getElem?_eq_some_iff.mp f).1
              rw [List.length_singleton] at this; omega
            subst i0
            rw [Nat.sub_self] at f
            cases f
            rw [yl, eS] at e
            cases e
            exact hc
      · rintro σ HX ⟨ys, y4, rfl, rfl, yl, ky⟩
        refine ⟨_, rfl, ?_⟩
        rw [ul] at yl
        rw [ul]
        exact q _ (.inr ⟨wd, Is, ys, kd, ⟨r, l2⟩, yl, ky, rfl⟩)
theorem ok_cwithin {f : Addr} {fd : FuncData} (B : Bts mg) (F : Fun K "count_within" "count_within" s_count_within f fd) (hm : mg "count_within" = some (.ref f)) (hb : Binds K fd ["tree"] []) (c_count_between : Cl P w K mg base 1 "count_between" sp_cbetween) :
    ∀ m, FnOk P w K mg base CX0 (m + 1) f fd ["tree"] (sp_cwithin m)
  | 0 => ⟨fun vs H Q E ⟨_, _, _, _, h, _⟩ => h.elim, fun _ _ _ _ _ _ _ _ _ _ _ _ _ ⟨_, _, _, _, h, _⟩ => h.elim⟩
  | m + 1 => ok_cwithin1 B F c_count_between (Cl.mk' F hm hb (ok_cwithin B F hm hb c_count_between m))
/-! ### count_ways -/
abbrev N_count_ways : List Str := ["web"]
theorem sc_count_ways : FnScope N_count_ways ["web"] (defScope s_count_ways) := ⟨rfl, rfl, rfl, by decide +kernel, rfl, by decide +kernel, by decide +kernel⟩
def sp_count (PT : Addr) : Sp := fun vs H Q _ => ∃ (v : V) (n : Nat) (ts : List Ar), vs = [v] ∧ Web H v n ts ∧ WOk n ts ∧ n ≤ 12 ∧ TabG H PT ∧
  ∀ (c : Int) (H' : Hp), FrM [PT] H H' → TabG H' PT → ((n = 0 ∧ c = 1) ∨ (0 < n ∧ Nb n ts ∧ CwI ts 12 (up n) c) ∨ (0 < n ∧ ¬ Nb n ts ∧ c = 0)) → Q (.int c) H'
theorem ok_count {f PT : Addr} {fd : FuncData} (B : Bts mg) (F : Fun K "count_ways" "count_ways" s_count_ways f fd) (c_can_be_pointed : Cl P w K mg base 4 "can_be_pointed" sp_canpt) (c_parts_of : Cl P w K mg base 20 "parts_of" (sp_parts PT)) (c_count_within : Cl P w K mg base 13 "count_within" (sp_cwithin 12)) :
    FnOk P w K mg base CX0 21 f fd ["web"] (sp_count PT) := by
  refine F.ok sc_count_ways (fun vs H Q E h => ?_) (fun cdv A outer s H vs Q E hr h => ?_)
  · obtain ⟨v, n, ts, rfl, _⟩ := h; rfl
  · obtain ⟨v, n, ts, rfl, hWeb, hW, hn, tg, q⟩ := h
    refine ⟨_, (pss_cons (ps_if (pt_cmpR op_eq (pe_ix ix_tup (pv 0) pe_int (fun _ _ => rfl)) pe_int (nomark _)) (pss_one (ps_ret pe_int)) pss_nil)
    (pss_one (ps_ret (pe_ifExp (pt_val (pe_c c_can_be_pointed hr (by decide) (by rfl) (pa_cons (pv 0) pa_nil))) (pe_c c_count_within hr (by decide) (by rfl) (pa_cons (pe_c c_parts_of hr (by decide) (by rfl) (pa_cons (pv 0) pa_nil)) pa_nil)) pe_int)))), ?_⟩
    have tl := wok_len hW (by omega)
    obtain ⟨pw, qw, uw, rfl, ew, eqw, hTw⟩ := id hWeb
    refine ⟨_, rfl, pw, _, 0, .int (n : Int), rfl, rfl, SqT.of ew, atI_nat (j := 0) rfl, rfl, _, rfl, ite2 (fun e => ?_) (fun e => ?_)⟩
    · have e' := V.int.inj (of_decide_eq_true e)
      exact q 1 H (FrM.refl _ _) tg (.inl ⟨by omega, rfl⟩)
    · have n0 : 0 < n := by
        refine Nat.pos_of_ne_zero fun z => e (decide_eq_true (by rw [z]; rfl))
      refine ⟨_, rfl, .ref pw, n, ts, rfl, hWeb, hW, hn, fun b hb H1 s1 => ⟨_, rfl, ?_⟩⟩
      have tg1 := tab_same tg s1
      have f1 : FrM [PT] H H1 := FrM.same s1
      cases b with
      | false =>
        refine iteF ?_
        exact q 0 H1 f1 tg1 (.inr (.inr ⟨n0, fun z => absurd (hb.mpr z) (by decide), rfl⟩))
      | true =>
        refine iteT ?_
        refine ⟨_, rfl, .ref pw, n, ts, rfl, hWeb.mono (Same.tst s1), hn, tl, tg1, fun u H2 f2 tg2 hu => ?_⟩
        rcases hu with ⟨z, _⟩ | ⟨_, hu⟩
        · omega
        · exact ⟨u, ts, up n, rfl, hu, by rw [up_len]; exact hn, fun c hc => q c H2 (f1.trans f2) tg2 (.inr (.inl ⟨n0, hb.mp rfl, hc⟩))⟩
end
end My

set_option Elab.async false
set_option linter.all false
set_option maxRecDepth 100000
set_option pp.maxSteps 600
namespace My
open PySem PySem.Spec PyProof.Rows L2 GxR
/-! ### as many as N -/
def CntP {α : Type} (P : α → Prop) (N : Nat) : Prop := ∃ L : List α, L.Nodup ∧ L.length = N ∧ ∀ O, O ∈ L ↔ P O
theorem CntP.uniq {α : Type} {P : α → Prop} {N M : Nat} (h : CntP P N) (k : CntP P M) : N = M := by
  obtain ⟨L, l1, l2, l3⟩ := h
  obtain ⟨K, k1, k2, k3⟩ := k
  have p : L.Perm K := (List.perm_ext_iff_of_nodup l1 k1).mpr fun O => (l3 O).trans (k3 O).symm
  rw [← l2, ← k2, p.length_eq]
theorem CntP.congr {α : Type} {P Q : α → Prop} {N : Nat} (e : ∀ O, P O ↔ Q O) (h : CntP P N) : CntP Q N := by
  obtain ⟨L, l1, l2, l3⟩ := h
  exact ⟨L, l1, l2, fun O => (l3 O).trans (e O)⟩
theorem CntP.map {α β : Type} {P : α → Prop} {Q : β → Prop} {N : Nat} (g : α → β) (e : ∀ y, Q y ↔ ∃ x, P x ∧ y = g x) (inj : ∀ x x', P x → P x' → g x = g x' → x = x') (h : CntP P N) : CntP Q N := by
  obtain ⟨L, l1, l2, l3⟩ := h
  refine ⟨L.map g, ?_, by rw [List.length_map, l2], fun y => ?_⟩
  · rw [List.nodup_iff_pairwise_ne, List.pairwise_map]
    exact (List.nodup_iff_pairwise_ne.mp l1).imp_of_mem fun {a b} ha hb ne z => ne (inj a b ((l3 a).mp ha) ((l3 b).mp hb) z)
  · rw [List.mem_map, e y]
    exact ⟨fun ⟨x, hx, z⟩ => ⟨x, (l3 x).mp hx, z.symm⟩, fun ⟨x, hx, z⟩ => ⟨x, (l3 x).mpr hx, z.symm⟩⟩
theorem fm_len {α β γ : Type} (f : α → β → γ) (K : List β) : ∀ L : List α, (L.flatMap fun x => K.map (f x)).length = L.length * K.length
  | [] => by rw [List.flatMap_nil, List.length_nil, List.length_nil, Nat.zero_mul]
  | x :: L => by
    rw [List.flatMap_cons, List.length_append, List.length_map, fm_len f K L, List.length_cons, Nat.succ_mul, Nat.add_comm]
theorem CntP.prod {α β γ : Type} {P : α → Prop} {Q : β → Prop} {R : γ → Prop} {N M : Nat} (f : α → β → γ) (e : ∀ z, R z ↔ ∃ x y, P x ∧ Q y ∧ z = f x y)
    (inj : ∀ x y x' y', P x → Q y → P x' → Q y' → f x y = f x' y' → x = x' ∧ y = y') (h : CntP P N) (k : CntP Q M) : CntP R (N * M) := by
  obtain ⟨L, l1, l2, l3⟩ := h
  obtain ⟨K, k1, k2, k3⟩ := k
  refine ⟨L.flatMap fun x => K.map (f x), ?_, by rw [fm_len, l2, k2], fun z => ?_⟩
  · rw [List.nodup_iff_pairwise_ne, List.pairwise_flatMap]
    refine ⟨fun x hx => ?_, (List.nodup_iff_pairwise_ne.mp l1).imp_of_mem fun {a b} ha hb ne u hu v hv z => ?_⟩
    · rw [List.pairwise_map]
      exact (List.nodup_iff_pairwise_ne.mp k1).imp_of_mem fun {a b} ha hb ne z => ne (inj x a x b ((l3 x).mp hx) ((k3 a).mp ha) ((l3 x).mp hx) ((k3 b).mp hb) z).2
    · obtain ⟨y, hy, rfl⟩ := List.mem_map.mp hu
      obtain ⟨y', hy', rfl⟩ := List.mem_map.mp hv
      exact ne (inj a y b y' ((l3 a).mp ha) ((k3 y).mp hy) ((l3 b).mp hb) ((k3 y').mp hy') z).1
  · rw [List.mem_flatMap, e z]
    constructor
    · rintro ⟨x, hx, hz⟩
      obtain ⟨y, hy, rfl⟩ := List.mem_map.mp hz
      exact ⟨x, y, (l3 x).mp hx, (k3 y).mp hy, rfl⟩
    · rintro ⟨x, y, hx, hy, rfl⟩
      exact ⟨x, (l3 x).mpr hx, List.mem_map.mpr ⟨y, (k3 y).mpr hy, rfl⟩⟩
/-! ### orders of a list -/
def factT : Nat → Nat
  | 0 => 1
  | n + 1 => factT n * (n + 1)
theorem factT_N : ∀ n, ((factT n : Nat) : Int) = factN n
  | 0 => rfl
  | n + 1 => by
    show ((factT n * (n + 1) : Nat) : Int) = factN n * ((n + 1 : Nat) : Int)
    rw [Int.natCast_mul, factT_N n]
theorem split_uni {α : Type} {a : α} : ∀ {s t u v : List α}, s ++ a :: u = t ++ a :: v → a ∉ s → a ∉ t → s = t ∧ u = v
  | [], [], u, v, e, _, _ => ⟨rfl, (List.cons.inj e).2⟩
  | [], y :: t, u, v, e, _, h => absurd (by rw [(List.cons.inj e).1]; exact List.mem_cons_self) h
  | x :: s, [], u, v, e, h, _ => absurd (by rw [← (List.cons.inj e).1]; exact List.mem_cons_self) h
  | x :: s, y :: t, u, v, e, h, k => by
    obtain ⟨e1, e2⟩ := List.cons.inj e
    obtain ⟨i1, i2⟩ := split_uni e2 (fun z => h (List.mem_cons_of_mem _ z)) fun z => k (List.mem_cons_of_mem _ z)
    exact ⟨by rw [e1, i1], i2⟩
theorem cnt_range (n : Nat) : CntP (fun k : Nat => k < n) n := ⟨List.range n, List.nodup_range, List.length_range, fun k => List.mem_range⟩
theorem cnt_perm {α : Type} : ∀ {l : List α}, l.Nodup → CntP (fun r : List α => r.Perm l) (factT l.length)
  | [], _ => ⟨[[]], by simp, rfl, fun r => by rw [List.mem_singleton]; exact ⟨fun e => by rw [e], fun p => p.eq_nil⟩⟩
  | a :: l, nd => by
    have nd' := List.nodup_cons.mp nd
    show CntP _ (factT l.length * (l.length + 1))
    refine CntP.prod (P := fun r : List α => r.Perm l) (Q := fun k : Nat => k < l.length + 1) (fun r k => r.take k ++ a :: r.drop k) (fun s => ⟨fun p => ?_, ?_⟩) (fun r k r' k' hr hk hr' hk' e => ?_) (cnt_perm nd'.2) (cnt_range _)
    · obtain ⟨s1, s2, rfl⟩ := List.append_of_mem (p.mem_iff.mpr List.mem_cons_self)
      have p2 : (s1 ++ s2).Perm l := (List.perm_middle.symm.trans p).cons_inv
      refine ⟨s1 ++ s2, s1.length, p2, ?_, ?_⟩
      · have := p2.length_eq
        rw [List.length_append] at this
        omega
      · rw [List.take_left' rfl, List.drop_left' rfl]
    · rintro ⟨r, k, p, _, rfl⟩
      refine List.perm_middle.trans ?_
      rw [List.take_append_drop]
      exact p.cons a
    · have ar : a ∉ r := fun z => nd'.1 (hr.mem_iff.mp z)
      have ar' : a ∉ r' := fun z => nd'.1 (hr'.mem_iff.mp z)
      obtain ⟨e1, e2⟩ := split_uni e (fun z => ar (List.mem_of_mem_take z)) fun z => ar' (List.mem_of_mem_take z)
      have l1 := hr.length_eq
      have l2 := hr'.length_eq
      have lk := congrArg List.length e1
      rw [List.length_take, List.length_take] at lk
      refine ⟨?_, by omega⟩
      rw [← List.take_append_drop k r, ← List.take_append_drop k' r', e1, e2]
/-- a list put in the order of R -/
theorem ord_ex {α : Type} {R : α → α → Prop} : ∀ {l : List α}, (∀ x ∈ l, ∀ y ∈ l, x ≠ y → R x y ∨ R y x) → (∀ x ∈ l, ∀ y ∈ l, ∀ z ∈ l, R x y → R y z → R x z) → l.Nodup → ∃ r : List α, r.Perm l ∧ r.Pairwise R
  | [], _, _, _ => ⟨[], .nil, .nil⟩
  | a :: l, tot, tr, nd => by
    have nd' := List.nodup_cons.mp nd
    obtain ⟨r, p, pw⟩ := ord_ex (R := R) (l := l) (fun x hx y hy => tot x (List.mem_cons_of_mem _ hx) y (List.mem_cons_of_mem _ hy)) (fun x hx y hy z hz => tr x (List.mem_cons_of_mem _ hx) y (List.mem_cons_of_mem _ hy) z (List.mem_cons_of_mem _ hz)) nd'.2
    haveI : DecidablePred fun x => R x a := fun x => Classical.propDecidable _
    have inl : ∀ x ∈ r, x ∈ a :: l := fun x hx => List.mem_cons_of_mem _ (p.mem_iff.mp hx)
    refine ⟨r.filter (fun x => decide (R x a)) ++ a :: r.filter (fun x => !decide (R x a)), ?_, ?_⟩
    · refine List.perm_middle.trans (List.Perm.cons a ?_)
      exact (List.filter_append_perm _ r).trans p
    · rw [List.pairwise_append, List.pairwise_cons]
      refine ⟨pw.filter _, ⟨fun y hy => ?_, pw.filter _⟩, fun x hx y hy => ?_⟩
      · obtain ⟨y1, y2⟩ := List.mem_filter.mp hy
        have ny : ¬ R y a := by simpa using y2
        rcases tot a List.mem_cons_self y (inl y y1) (fun z => nd'.1 (by rw [z]; exact p.mem_iff.mp y1)) with k | k
        · exact k
        · exact absurd k ny
      · obtain ⟨x1, x2⟩ := List.mem_filter.mp hx
        have xa : R x a := of_decide_eq_true x2
        rcases List.mem_cons.mp hy with rfl | hy
        · exact xa
        · obtain ⟨y1, y2⟩ := List.mem_filter.mp hy
          have ny : ¬ R y a := by simpa using y2
          have ay : R a y := by
            rcases tot a List.mem_cons_self y (inl y y1) (fun z => nd'.1 (by rw [z]; exact p.mem_iff.mp y1)) with k | k
            · exact k
            · exact absurd k ny
          exact tr x (inl x x1) a List.mem_cons_self y (inl y y1) xa ay
theorem ord_uni {α : Type} {R : α → α → Prop} (as : ∀ x y, R x y → ¬ R y x) : ∀ {r s : List α}, r.Perm s → r.Pairwise R → s.Pairwise R → r = s
  | [], s, p, _, _ => p.symm.eq_nil.symm
  | a :: r, [], p, _, _ => absurd p.eq_nil (by simp)
  | a :: r, b :: s, p, h, k => by
    have h' := List.pairwise_cons.mp h
    have k' := List.pairwise_cons.mp k
    have e : a = b := by
      rcases List.mem_cons.mp (p.mem_iff.mp List.mem_cons_self) with e | m
      · exact e
      · rcases List.mem_cons.mp (p.mem_iff.mpr List.mem_cons_self) with e | m'
        · exact e.symm
        · exact absurd (k'.1 a m) (as _ _ (h'.1 b m'))
    subst e
    rw [ord_uni as p.cons_inv h'.2 k'.2]
/-! ### led pointings of a node: what goes between the parts, and what goes within them -/
structure CrsP (ts : List Ar) (Is : List (List Int)) (X : Int × Int → Prop) : Prop where
  ar : ∀ a b, X (a, b) → adjB ts a b = true ∧ ∃ S ∈ Is, ∃ T ∈ Is, S ≠ T ∧ a ∈ S ∧ b ∈ T
  one : ∀ S ∈ Is, ∀ T ∈ Is, S ≠ T → ∀ a ∈ S, ∀ b ∈ T, adjB ts a b = true → X (a, b) ∨ X (b, a)
  anti : ∀ a b, X (a, b) → ¬ X (b, a)
  con : ∀ S ∈ Is, ∀ T ∈ Is, S ≠ T → ∀ a ∈ S, ∀ a' ∈ S, ∀ b ∈ T, ∀ b' ∈ T, X (a, b) → X (a', b')
  tr : ∀ a b c, X (a, b) → X (b, c) → (∀ S ∈ Is, a ∈ S → c ∉ S) → X (a, c)
structure InnP (ts : List Ar) (Is : List (List Int)) (W : Int × Int → Prop) : Prop where
  at_ : ∀ x, W x → ∃ S ∈ Is, x.1 ∈ S ∧ x.2 ∈ S
  led : ∀ S ∈ Is, LedI ts S (fun x => x.1 ∈ S ∧ x.2 ∈ S ∧ W x)
def Uni (X W : Int × Int → Prop) : Int × Int → Prop := fun x => X x ∨ W x
/-- parts that have no place in common -/
def DisI (Is : List (List Int)) : Prop := ∀ S ∈ Is, ∀ T ∈ Is, ∀ x, x ∈ S → x ∈ T → S = T
theorem cnt_inn {ts : List Ar} : ∀ {Is : List (List Int)} {ns : List Nat}, Is.Nodup → DisI Is → ns.length = Is.length → (∀ (i : Nat) (S : List Int) (k : Nat), Is[i]? = some S → ns[i]? = some k → CntP (LedI ts S) k) → CntP (InnP ts Is) (ns.foldr (· * ·) 1)
  | [], [], _, _, _, _ => ⟨[fun _ => False], by simp, rfl, fun W => by
      rw [List.mem_singleton]
      constructor
      · rintro rfl
        exact ⟨fun x h => h.elim, fun S hS => absurd hS List.not_mem_nil⟩
      · intro h
        funext x
        refine propext ⟨fun w => ?_, fun z => z.elim⟩
        obtain ⟨S, hS, _⟩ := h.at_ x w
        exact absurd hS List.not_mem_nil⟩
  | [], _ :: _, _, _, e, _ => by cases e
  | _ :: _, [], _, _, e, _ => by cases e
  | S :: Is, k :: ns, nd, di, e, h => by
    have nd' := List.nodup_cons.mp nd
    have far : ∀ T ∈ Is, ∀ x, x ∈ S → x ∉ T := fun T hT x xS xT => nd'.1 (by rw [di S List.mem_cons_self T (List.mem_cons_of_mem _ hT) x xS xT]; exact hT)
    show CntP _ (k * ns.foldr (· * ·) 1)
    refine CntP.prod (P := LedI ts S) (Q := InnP ts Is) Uni (fun W => ⟨fun hW => ?_, ?_⟩) (fun O W O' W' hO hW hO' hW' e => ?_) (h 0 S k rfl rfl) (cnt_inn nd'.2 (fun A hA B hB => di A (List.mem_cons_of_mem _ hA) B (List.mem_cons_of_mem _ hB)) (Nat.succ.inj e) fun i T j e1 e2 => h (i + 1) T j e1 e2)
    · refine ⟨fun x => x.1 ∈ S ∧ x.2 ∈ S ∧ W x, fun x => (∃ T ∈ Is, x.1 ∈ T ∧ x.2 ∈ T) ∧ W x, hW.led S List.mem_cons_self, ⟨fun x hx => hx.1, fun T hT => ?_⟩, ?_⟩
      · have := hW.led T (List.mem_cons_of_mem _ hT)
        have e : (fun x : Int × Int => x.1 ∈ T ∧ x.2 ∈ T ∧ (∃ T ∈ Is, x.1 ∈ T ∧ x.2 ∈ T) ∧ W x) = fun x => x.1 ∈ T ∧ x.2 ∈ T ∧ W x := funext fun x => propext ⟨fun ⟨a, b, _, c⟩ => ⟨a, b, c⟩, fun ⟨a, b, c⟩ => ⟨a, b, ⟨T, hT, a, b⟩, c⟩⟩
        rw [e]; exact this
      · refine funext fun x => propext ⟨fun w => ?_, fun w => w.elim (fun z => z.2.2) fun z => z.2⟩
        obtain ⟨T, hT, x1, x2⟩ := hW.at_ x w
        rcases List.mem_cons.mp hT with rfl | hT
        · exact .inl ⟨x1, x2, w⟩
        · exact .inr ⟨⟨T, hT, x1, x2⟩, w⟩
    · rintro ⟨O, W, hO, hW, rfl⟩
      have inS : ∀ x, O x → x.1 ∈ S ∧ x.2 ∈ S := fun x hx => ⟨(hO.ar x hx).1, (hO.ar x hx).2.1⟩
      refine ⟨fun x hx => ?_, fun T hT => ?_⟩
      · rcases hx with hx | hx
        · exact ⟨S, List.mem_cons_self, inS x hx⟩
        · obtain ⟨T, hT, z⟩ := hW.at_ x hx
          exact ⟨T, List.mem_cons_of_mem _ hT, z⟩
      · rcases List.mem_cons.mp hT with rfl | hT
        · have e : (fun x : Int × Int => x.1 ∈ T ∧ x.2 ∈ T ∧ Uni O W x) = O := funext fun x => propext ⟨fun ⟨a, b, c⟩ => c.elim id fun z => by
            obtain ⟨U, hU, u1, _⟩ := hW.at_ x z
            exact absurd u1 (far U hU _ a), fun z => ⟨(inS x z).1, (inS x z).2, .inl z⟩⟩
          rw [e]; exact hO
        · have e : (fun x : Int × Int => x.1 ∈ T ∧ x.2 ∈ T ∧ Uni O W x) = fun x => x.1 ∈ T ∧ x.2 ∈ T ∧ W x := funext fun x => propext ⟨fun ⟨a, b, c⟩ => ⟨a, b, c.elim (fun z => absurd a (far T hT _ (inS x z).1)) id⟩, fun ⟨a, b, c⟩ => ⟨a, b, .inr c⟩⟩
          rw [e]; exact hW.led T hT
    · have key : ∀ (O W O' W' : Int × Int → Prop), LedI ts S O → InnP ts Is W → LedI ts S O' → InnP ts Is W' → Uni O W = Uni O' W' → (∀ x, O x → O' x) ∧ ∀ x, W x → W' x := fun O W O' W' hO hW hO' hW' e => ⟨fun x hx => by
          have : Uni O' W' x := by rw [← e]; exact .inl hx
          refine this.elim id fun z => ?_
          obtain ⟨U, hU, u1, _⟩ := hW'.at_ x z
          exact absurd u1 (far U hU _ (hO.ar x hx).1), fun x hx => by
          have : Uni O' W' x := by rw [← e]; exact .inr hx
          refine this.elim (fun z => ?_) id
          obtain ⟨U, hU, u1, _⟩ := hW.at_ x hx
          exact absurd u1 (far U hU _ (hO'.ar x z).1)⟩
      have k1 := key O W O' W' hO hW hO' hW' e
      have k2 := key O' W' O W hO' hW' hO hW e.symm
      exact ⟨funext fun x => propext ⟨k1.1 x, k2.1 x⟩, funext fun x => propext ⟨k1.2 x, k2.2 x⟩⟩
section
variable {ts : List Ar} {I : List Int} {Is : List (List Int)}
theorem PartI.disI (pt : PartI I Is) (nI : I.Nodup) : DisI Is := pt.dis nI
/-- led pointings of all go alike between two parts -/
def ConL (ts : List Ar) (I : List Int) (Is : List (List Int)) : Prop := ∀ O, LedI ts I O → ∀ S ∈ Is, ∀ T ∈ Is, S ≠ T → ∀ a ∈ S, ∀ a' ∈ S, ∀ b ∈ T, ∀ b' ∈ T, O (a, b) → O (a', b')
theorem led_node (pt : PartI I Is) (nI : I.Nodup) (co : ConL ts I Is) (O : Int × Int → Prop) : LedI ts I O ↔ ∃ X W, CrsP ts Is X ∧ InnP ts Is W ∧ O = Uni X W := by
  have di := pt.disI nI
  constructor
  · intro hO
    refine ⟨fun x => O x ∧ ∃ S ∈ Is, ∃ T ∈ Is, S ≠ T ∧ x.1 ∈ S ∧ x.2 ∈ T, fun x => O x ∧ ∃ S ∈ Is, x.1 ∈ S ∧ x.2 ∈ S, ⟨?_, ?_, ?_, ?_, ?_⟩, ⟨fun x hx => hx.2, fun S hS => ?_⟩, ?_⟩
    · exact fun a b ⟨h, k⟩ => ⟨(hO.ar _ h).2.2, k⟩
    · intro S hS T hT ne a ha b hb e
      rcases hO.one a b ⟨pt.sub hS a ha, pt.sub hT b hb, e⟩ with k | k
      · exact .inl ⟨k, S, hS, T, hT, ne, ha, hb⟩
      · exact .inr ⟨k, T, hT, S, hS, fun z => ne z.symm, hb, ha⟩
    · exact fun a b h k => hO.anti a b h.1 k.1
    · exact fun S hS T hT ne a ha a' ha' b hb b' hb' h => ⟨co O hO S hS T hT ne a ha a' ha' b hb b' hb' h.1, S, hS, T, hT, ne, ha', hb'⟩
    · rintro a b c ⟨h, S, hS, T, hT, ne, aS, bT⟩ ⟨k, T', hT', U, hU, ne', bT', cU⟩ far
      exact ⟨hO.tr a b c h k, S, hS, U, hU, fun z => far S hS aS (by rw [z]; exact cU), aS, cU⟩
    · have e : (fun x : Int × Int => x.1 ∈ S ∧ x.2 ∈ S ∧ O x ∧ ∃ S ∈ Is, x.1 ∈ S ∧ x.2 ∈ S) = fun x => x.1 ∈ S ∧ x.2 ∈ S ∧ O x := funext fun x => propext ⟨fun ⟨a, b, c, _⟩ => ⟨a, b, c⟩, fun ⟨a, b, c⟩ => ⟨a, b, c, S, hS, a, b⟩⟩
      rw [e]
      exact ledI_sub (pt.sub hS) hO
    · refine funext fun x => propext ⟨fun h => ?_, fun h => h.elim (fun z => z.1) fun z => z.1⟩
      obtain ⟨x1, x2, _⟩ := hO.ar x h
      obtain ⟨S, hS, xS⟩ := pt.own x1
      obtain ⟨T, hT, xT⟩ := pt.own x2
      by_cases e : S = T
      · subst e; exact .inr ⟨h, S, hS, xS, xT⟩
      · exact .inl ⟨h, S, hS, T, hT, e, xS, xT⟩
  · rintro ⟨X, W, hX, hW, rfl⟩
    have wl : ∀ S ∈ Is, ∀ a b, a ∈ S → b ∈ S → W (a, b) → TI ts S a b := fun S hS a b ha hb h => (hW.led S hS).ar (a, b) ⟨ha, hb, h⟩
    refine ⟨?_, ?_, ?_, ?_⟩
    · rintro ⟨a, b⟩ (h | h)
      · obtain ⟨e, S, hS, T, hT, _, aS, bT⟩ := hX.ar a b h
        exact ⟨pt.sub hS a aS, pt.sub hT b bT, e⟩
      · obtain ⟨S, hS, aS, bS⟩ := hW.at_ _ h
        exact ⟨pt.sub hS a aS, pt.sub hS b bS, (wl S hS a b aS bS h).2.2⟩
    · rintro a b ⟨ha, hb, e⟩
      obtain ⟨S, hS, aS⟩ := pt.own ha
      obtain ⟨T, hT, bT⟩ := pt.own hb
      by_cases st : S = T
      · subst st
        rcases (hW.led S hS).one a b ⟨aS, bT, e⟩ with k | k
        · exact .inl (.inr k.2.2)
        · exact .inr (.inr k.2.2)
      · rcases hX.one S hS T hT st a aS b bT e with k | k
        · exact .inl (.inl k)
        · exact .inr (.inl k)
    · have xw : ∀ a b, X (a, b) → (∀ S ∈ Is, a ∈ S → b ∉ S) := fun a b h S hS aS bS => by
        obtain ⟨_, U, hU, T, hT, ne, aU, bT⟩ := hX.ar a b h
        exact ne ((di U hU S hS a aU aS).trans (di S hS T hT b bS bT))
      rintro a b (h | h) (k | k)
      · exact hX.anti a b h k
      · obtain ⟨S, hS, bS, aS⟩ := hW.at_ _ k
        exact xw a b h S hS aS bS
      · obtain ⟨S, hS, aS, bS⟩ := hW.at_ _ h
        exact xw b a k S hS bS aS
      · obtain ⟨S, hS, aS, bS⟩ := hW.at_ _ h
        exact (hW.led S hS).anti a b ⟨aS, bS, h⟩ ⟨bS, aS, k⟩
    · rintro a b c (h | h) (k | k)
      · by_cases far : ∀ S ∈ Is, a ∈ S → c ∉ S
        · exact .inl (hX.tr a b c h k far)
        · exfalso
          obtain ⟨_, S, hS, T, hT, ne, aS, bT⟩ := hX.ar a b h
          have cS : c ∈ S := Classical.byContradiction fun n => far fun S' hS' aS' cS' => n (by rw [di S hS S' hS' a aS aS']; exact cS')
          exact hX.anti a b h (hX.con T hT S hS (fun z => ne z.symm) b bT b bT c cS a aS k)
      · obtain ⟨_, S, hS, T, hT, ne, aS, bT⟩ := hX.ar a b h
        obtain ⟨U, hU, bU, cU⟩ := hW.at_ _ k
        have : U = T := di U hU T hT b bU bT
        subst this
        exact .inl (hX.con S hS U hU ne a aS a aS b bT c cU h)
      · obtain ⟨_, S, hS, T, hT, ne, bS, cT⟩ := hX.ar b c k
        obtain ⟨U, hU, aU, bU⟩ := hW.at_ _ h
        have : U = S := di U hU S hS b bU bS
        subst this
        exact .inl (hX.con U hU T hT ne b bS a aU c cT c cT k)
      · obtain ⟨S, hS, aS, bS⟩ := hW.at_ _ h
        obtain ⟨U, hU, bU, cU⟩ := hW.at_ _ k
        have : U = S := di U hU S hS b bU bS
        subst this
        exact .inr ((hW.led U hU).tr a b c ⟨aS, bS, h⟩ ⟨bS, cU, k⟩).2.2
theorem crs_far (di : DisI Is) {X : Int × Int → Prop} (hX : CrsP ts Is X) {a b : Int} (h : X (a, b)) : ∀ S ∈ Is, a ∈ S → b ∉ S := fun S hS aS bS => by
  obtain ⟨_, U, hU, T, hT, ne, aU, bT⟩ := hX.ar a b h
  exact ne ((di U hU S hS a aU aS).trans (di S hS T hT b bS bT))
theorem cnt_node (pt : PartI I Is) (nI : I.Nodup) (co : ConL ts I Is) {k : Nat} {ns : List Nat} (hk : CntP (CrsP ts Is) k) (nl : ns.length = Is.length) (h : ∀ (i : Nat) (S : List Int) (k : Nat), Is[i]? = some S → ns[i]? = some k → CntP (LedI ts S) k) : CntP (LedI ts I) (k * ns.foldr (· * ·) 1) := by
  have di := pt.disI nI
  refine CntP.prod (P := CrsP ts Is) (Q := InnP ts Is) Uni (fun O => ⟨fun hO => ?_, ?_⟩) (fun X W X' W' hX hW hX' hW' e => ?_) hk (cnt_inn (pt.nods nI) di nl h)
  · exact (led_node pt nI co O).mp hO
  · exact fun hO => (led_node pt nI co O).mpr hO
  · have key : ∀ (X W X' W' : Int × Int → Prop), CrsP ts Is X → InnP ts Is W → CrsP ts Is X' → InnP ts Is W' → Uni X W = Uni X' W' → (∀ x, X x → X' x) ∧ ∀ x, W x → W' x := fun X W X' W' hX hW hX' hW' e => ⟨fun x hx => by
        have : Uni X' W' x := by rw [← e]; exact .inl hx
        refine this.elim id fun z => ?_
        obtain ⟨U, hU, u1, u2⟩ := hW'.at_ x z
        exact absurd u2 (crs_far di hX (a := x.1) (b := x.2) hx U hU u1), fun x hx => by
        have : Uni X' W' x := by rw [← e]; exact .inr hx
        refine this.elim (fun z => ?_) id
        obtain ⟨U, hU, u1, u2⟩ := hW.at_ x hx
        exact absurd u2 (crs_far di hX' (a := x.1) (b := x.2) z U hU u1)⟩
    have k1 := key X W X' W' hX hW hX' hW' e
    have k2 := key X' W' X W hX' hW' hX hW e.symm
    exact ⟨funext fun x => propext ⟨k1.1 x, k2.1 x⟩, funext fun x => propext ⟨k1.2 x, k2.2 x⟩⟩
end
end My

set_option Elab.async false
set_option linter.all false
set_option maxRecDepth 100000
set_option pp.maxSteps 600
namespace My
open PySem PySem.Spec PyProof.Rows L2 GxR
section
variable {ts : List Ar} {I : List Int} {Is : List (List Int)}
theorem giI (ir : ∀ x, adjB ts x x = false) : Tr.Gr (TI ts I) where
  sy := fun {a b} ⟨x, y, z⟩ => ⟨y, x, by rw [adj_comm]; exact z⟩
  ir := fun {a} h => by
    have := h.2.2
    rw [ir] at this; cases this
theorem at_tie (G : Tr.Gr (TI ts I)) {x : Int × Int} (hx : TI ts I x.1 x.2) {v : Int} (h : Tr.At (TI ts I) x v) : v ∈ I := by
  obtain ⟨w, h | h⟩ := h
  · exact (h.ar hx).1
  · exact (h.ar hx).2.1
/-- the places of a class are a module -/
theorem at_mod (G : Tr.Gr (TI ts I)) {x : Int × Int} (hx : TI ts I x.1 x.2) : CloI ts I (Tr.At (TI ts I) x) := by
  intro p hp np
  have same : ∀ u v, Tr.R (TI ts I) x (u, v) → adjB ts p u = adjB ts p v := fun u v h => by
    have t := h.ar hx
    have pu : u ≠ p := fun e => np ⟨v, .inl (by rw [← e]; exact h)⟩
    have pv : v ≠ p := fun e => np ⟨u, .inr (by rw [← e]; exact h)⟩
    cases e1 : adjB ts p u <;> cases e2 : adjB ts p v
    · rfl
    · exact absurd ⟨v, .inl (h.step ⟨⟨hp, t.2.1, e2⟩, .inr ⟨rfl, pu, fun z => by have := z.2.2; rw [adj_comm, e1] at this; cases this⟩⟩)⟩ np
    · exact absurd ⟨u, .inr (h.step ⟨⟨t.1, hp, by rw [adj_comm]; exact e1⟩, .inl ⟨rfl, pv, fun z => by have := z.2.2; rw [adj_comm, e2] at this; cases this⟩⟩)⟩ np
    · rfl
  have key : ∀ y, Tr.R (TI ts I) x y → adjB ts p y.1 = adjB ts p x.1 ∧ adjB ts p y.2 = adjB ts p x.1 := fun y h => by
    induction h with
    | refl => exact ⟨rfl, (same x.1 x.2 .refl).symm⟩
    | @step y z k f ih =>
      have sz := same z.1 z.2 (k.step f)
      rcases f.2 with ⟨e, _⟩ | ⟨e, _⟩
      · have h1 : adjB ts p z.1 = adjB ts p x.1 := by rw [← e]; exact ih.1
        exact ⟨h1, sz.symm.trans h1⟩
      · have h1 : adjB ts p z.2 = adjB ts p x.1 := by rw [← e]; exact ih.2
        exact ⟨sz.trans h1, h1⟩
  have k2 : ∀ a, Tr.At (TI ts I) x a → adjB ts p a = adjB ts p x.1 := fun a ⟨w, h⟩ => h.elim (fun z => (key _ z).1) fun z => (key _ z).2
  exact fun a _ b _ ha hb => (k2 a ha).trans (k2 b hb).symm
/-- S is a module of I -/
def ModI (ts : List Ar) (I S : List Int) : Prop := ∀ z ∈ I, z ∉ S → ∀ s ∈ S, ∀ s' ∈ S, adjB ts z s = adjB ts z s'
theorem cls_mod {p : Int} (w : Whl ts I) (pI : p ∈ I) : ModI ts I (clsI ts I p) := fun z zI nz s hs s' hs' => by
  obtain ⟨sI, ps⟩ := mem_clsI.mp hs
  obtain ⟨sI', ps'⟩ := mem_clsI.mp hs'
  obtain ⟨M, c, m1, m2, y, yI, ny⟩ := ps.symm.trans w pI ps'
  by_cases mz : M z
  · exact absurd (mem_clsI.mpr ⟨zI, ps.trans w sI ⟨M, c, m1, mz, y, yI, ny⟩⟩) nz
  · exact c z zI mz s sI s' sI' m1 m2
/-- from a place of a module to one out of it: one class, whichever the first one -/
theorem cls_go (G : Tr.Gr (TI ts I)) (w : Whl ts I) {S : List Int} (mS : ModI ts I S) (sub : ∀ x ∈ S, x ∈ I) {a b : Int} (aS : a ∈ S) (bS : b ∉ S) (tab : TI ts I a b) (all : ∀ z ∈ I, Tr.At (TI ts I) (a, b) z) : ∀ a' ∈ S, Tr.R (TI ts I) (a, b) (a', b) := by
  have go : ∀ u v a', u ∈ S → v ∉ S → TI ts I u v → a' ∈ S → TI ts I a' v := fun u v a' hu hv t ha' => ⟨sub a' ha', t.2.1, by
    rw [adj_comm, mS v t.2.1 hv a' ha' u hu, adj_comm]; exact t.2.2⟩
  have st : ∀ y, Tr.R (TI ts I) (a, b) y → (y.1 ∈ S ∧ y.2 ∉ S ∧ ((∀ a' ∈ S, Tr.R (TI ts I) y (a', y.2)) → ∀ a' ∈ S, Tr.R (TI ts I) (a, b) (a', b))) ∨ ∀ a' ∈ S, Tr.R (TI ts I) (a, b) (a', b) := fun y h => by
    induction h with
    | refl => exact .inl ⟨aS, bS, id⟩
    | @step y z k f ih =>
      rcases ih with ⟨y1, y2, ih⟩ | g
      · obtain ⟨u, v⟩ := y
        obtain ⟨z1, z2⟩ := z
        have tuv := k.ar tab
        obtain ⟨tz, ⟨e, ne, ng⟩ | ⟨e, ne, ng⟩⟩ := f
        · dsimp only at e ne ng tz y1 y2 tuv ih ⊢
          subst e
          have z2n : z2 ∉ S := fun h => ng ⟨tuv.2.1, tz.2.1, by
            rw [mS v tuv.2.1 y2 z2 h u y1, adj_comm]; exact tuv.2.2⟩
          refine .inl ⟨y1, z2n, fun g => ih fun a' ha' => ?_⟩
          have h1 : Tr.R (TI ts I) (u, v) (u, z2) := .step .refl ⟨tz, .inl ⟨rfl, ne, ng⟩⟩
          exact (h1.trans (g a' ha')).step ⟨go u v a' y1 y2 tuv ha', .inl ⟨rfl, Ne.symm ne, fun z => ng (G.sy z)⟩⟩
        · dsimp only at e ne ng tz y1 y2 tuv ih ⊢
          subst e
          have h1 : Tr.R (TI ts I) (u, v) (z1, v) := .step .refl ⟨tz, .inr ⟨rfl, ne, ng⟩⟩
          by_cases z1S : z1 ∈ S
          · exact .inl ⟨z1S, y2, fun g => ih fun a' ha' => h1.trans (g a' ha')⟩
          · refine .inr (ih fun a' ha' => h1.step ⟨go u v a' y1 y2 tuv ha', .inr ⟨rfl, fun z => z1S (by rw [show z1 = a' from z]; exact ha'), fun z => ng ?_⟩⟩)
            have z : TI ts I z1 a' := z
            exact ⟨tuv.1, tz.1, by rw [adj_comm, mS z1 tz.1 z1S u y1 a' ha']; exact z.2.2⟩
      · exact .inr g
  refine Classical.byContradiction fun no => ?_
  have left : ∀ y, Tr.R (TI ts I) (a, b) y → y.1 ∈ S ∧ y.2 ∉ S := fun y h => (st y h).elim (fun z => ⟨z.1, z.2.1⟩) fun z => absurd z no
  have cA : ClR ts false I (· ∈ S) := fun x hx y hy xS e => by
    refine Classical.byContradiction fun yS => ?_
    obtain ⟨v, h | h⟩ := all y hy
    · exact yS (left _ h).1
    · have vS := (left _ h).1
      have t := (h.ar tab).2.2
      dsimp only at vS t
      rw [adj_comm, mS y hy yS v vS x xS, adj_comm, e] at t
      cases t
  exact bS (w.con false _ cA a (sub a aS) aS b tab.2.1)
theorem at_cls (G : Tr.Gr (TI ts I)) {x y : Int × Int} (hx : TI ts I x.1 x.2) (h : Tr.R (TI ts I) x y) {v : Int} (k : Tr.At (TI ts I) x v) : Tr.At (TI ts I) y v := by
  obtain ⟨w, k⟩ := k
  exact ⟨w, k.imp (fun z => (h.symm G hx).trans z) fun z => (h.symm G hx).trans z⟩
theorem at_sw (G : Tr.Gr (TI ts I)) {x : Int × Int} {v : Int} (k : Tr.At (TI ts I) x v) : Tr.At (TI ts I) (Tr.sw x) v := by
  obtain ⟨w, k⟩ := k
  exact ⟨w, k.elim (fun z => .inr (z.sw G)) fun z => .inl (z.sw G)⟩
/-- two classes that touch all places are one, or one turned about -/
theorem one_col (G : Tr.Gr (TI ts I)) {a b c d : Int} (tab : TI ts I a b) (tcd : TI ts I c d) (h1 : ∀ z ∈ I, Tr.At (TI ts I) (a, b) z) (h2 : ∀ z ∈ I, Tr.At (TI ts I) (c, d) z) : Tr.R (TI ts I) (a, b) (c, d) ∨ Tr.R (TI ts I) (a, b) (d, c) := by
  refine Classical.byContradiction fun no => ?_
  have n1 : ¬ Tr.R (TI ts I) (a, b) (c, d) := fun z => no (.inl z)
  have n2 : ¬ Tr.R (TI ts I) (a, b) (d, c) := fun z => no (.inr z)
  obtain ⟨w, hw⟩ := h2 a tab.1
  obtain ⟨taw, hAt, m1, m2⟩ : TI ts I a w ∧ (∀ z ∈ I, Tr.At (TI ts I) (a, w) z) ∧ ¬ Tr.R (TI ts I) (a, b) (a, w) ∧ ¬ Tr.R (TI ts I) (a, b) (w, a) := by
    rcases hw with hw | hw
    · refine ⟨hw.ar tcd, fun z hz => at_cls G tcd hw (h2 z hz), fun k => n1 (k.trans (hw.symm G tcd)), fun k => n2 (k.trans ?_)⟩
      have := (hw.symm G tcd).sw G
      exact this
    · have sw1 : Tr.R (TI ts I) (d, c) (a, w) := hw.sw G
      refine ⟨G.sy (hw.ar tcd), fun z hz => at_cls G (G.sy tcd) sw1 (at_sw G (h2 z hz)), fun k => n2 (k.trans (sw1.symm G (G.sy tcd))), fun k => n1 (k.trans (hw.symm G tcd))⟩
  have bw : b ≠ w := fun e => m1 (by rw [e]; exact .refl)
  have tbw : TI ts I b w := Classical.byContradiction fun z => m1 (.step .refl ⟨taw, .inl ⟨rfl, bw, z⟩⟩)
  by_cases c1 : Tr.R (TI ts I) (a, b) (w, b) ∨ Tr.R (TI ts I) (a, b) (b, w)
  · have q1 : ¬ Tr.R (TI ts I) (a, w) (b, w) := fun k => by
      rcases c1 with c1 | c1
      · have k' : Tr.R (TI ts I) (w, a) (w, b) := k.sw G
        exact m2 (c1.trans (k'.symm G (G.sy taw)))
      · exact m1 (c1.trans (k.symm G taw))
    have q2 : ¬ Tr.R (TI ts I) (a, w) (a, b) := fun k => m1 (k.symm G taw)
    obtain ⟨x, hx | hx⟩ := hAt b tab.2.1
    · exact G.ir (Tr.tri G (G.sy tab) tbw taw q1 q2 hx).1.1
    · exact G.ir (Tr.tri G (G.sy tab) tbw taw q1 q2 hx).2.1
  · have q1 : ¬ Tr.R (TI ts I) (a, b) (w, b) := fun k => c1 (.inl k)
    obtain ⟨x, hx | hx⟩ := h1 w taw.2.1
    · exact G.ir (Tr.tri G (G.sy taw) (G.sy tbw) tab q1 m1 hx).1.1
    · exact G.ir (Tr.tri G (G.sy taw) (G.sy tbw) tab q1 m1 hx).2.1
/-! ### the kinds -/
/-- what of a node of kind close is wanted -/
structure CloseN (ts : List Ar) (I : List Int) (Is : List (List Int)) : Prop where
  whl : Whl ts I
  md : ∀ S ∈ Is, ModI ts I S
  all : ∀ S ∈ Is, ∀ T ∈ Is, S ≠ T → ∀ a ∈ S, ∀ b ∈ T, TI ts I a b → ∀ z ∈ I, Tr.At (TI ts I) (a, b) z
theorem closeN (ir : ∀ x, adjB ts x x = false) (r : I.Pairwise (· < ·)) (l2 : 2 ≤ I.length) (w : Whl ts I) (h : ClsG ts I I.length Is) (pt : PartI I Is) : CloseN ts I Is := by
  have nI : I.Nodup := r.imp fun h => Int.ne_of_lt h
  have src : ∀ S ∈ Is, ∃ p ∈ I, S = clsI ts I p := fun S hS => by
    obtain ⟨p, hp, e⟩ := h.src S hS
    exact ⟨p, by rwa [List.take_length] at hp, e⟩
  refine ⟨w, fun S hS => ?_, fun S hS T hT ne a ha b hb t z hz => ?_⟩
  · obtain ⟨p, pI, rfl⟩ := src S hS
    exact cls_mod w pI
  · refine Classical.byContradiction fun nz => ?_
    have G := giI (ts := ts) (I := I) ir
    have pr : Pr ts I a b := ⟨_, at_mod G t, ⟨b, .inl .refl⟩, ⟨a, .inr .refl⟩, z, hz, nz⟩
    obtain ⟨p, pI, rfl⟩ := src S hS
    obtain ⟨aI, pa⟩ := mem_clsI.mp ha
    exact ne (pt.dis nI _ hS T hT b (mem_clsI.mpr ⟨t.2.1, pa.trans w aI pr⟩) hb)
theorem con_close (ir : ∀ x, adjB ts x x = false) (nI : I.Nodup) (pt : PartI I Is) (h : CloseN ts I Is) : ConL ts I Is := fun O hO S hS T hT ne a ha a' ha' b hb b' hb' o => by
  have G := giI (ts := ts) (I := I) ir
  have nT : ∀ x ∈ S, x ∉ T := fun x xS xT => ne (pt.dis nI S hS T hT x xS xT)
  have tab := hO.ar _ o
  have r1 := cls_go G h.whl (h.md S hS) (pt.sub hS) ha (fun z => nT b z hb) tab (h.all S hS T hT ne a ha b hb tab) a' ha'
  have o1 := hO.clR G o r1
  have tab' := hO.ar _ o1
  have r2 := cls_go G h.whl (h.md T hT) (pt.sub hT) hb (nT a' ha') (G.sy tab') (h.all T hT S hS (fun z => ne z.symm) b hb a' ha' (G.sy tab')) b' hb'
  exact hO.clR G o1 (r2.sw G)
theorem con_apart (nI : I.Nodup) (pt : PartI I Is) (h : SetsI ts true I Is) : ConL ts I Is := fun O hO S hS T hT ne a ha a' ha' b hb b' hb' o => by
  have t := hO.ar _ o
  exact absurd (pt.dis nI S hS T hT b (h.clo S hS a ha b t.2.1 t.2.2) hb) ne
theorem con_all (ir : ∀ x, adjB ts x x = false) (nI : I.Nodup) (pt : PartI I Is) (h : SetsI ts false I Is) : ConL ts I Is := fun O hO S hS T hT ne a ha a' ha' b hb b' hb' o => by
  have G := giI (ts := ts) (I := I) ir
  have tie : ∀ x ∈ S, ∀ y ∈ T, TI ts I x y := fun x hx y hy => ⟨pt.sub hS x hx, pt.sub hT y hy, by
    cases e : adjB ts x y with
    | true => rfl
    | false => exact absurd (pt.dis nI S hS T hT y (h.clo S hS x hx y (pt.sub hT y hy) e) hy) ne⟩
  have o1 : O (a', b) := by
    have cA : ClR ts false I (fun y => y ∈ S ∧ O (y, b)) := fun x hx y hy ⟨xS, ox⟩ e => by
      have yS := h.clo S hS x xS y hy e
      by_cases xy : x = y
      · subst xy; exact ⟨xS, ox⟩
      · exact ⟨yS, hO.cl G ox ⟨tie y yS b hb, .inr ⟨rfl, xy, fun z => by have := z.2.2; dsimp only at this; rw [e] at this; cases this⟩⟩⟩
    exact (h.con S hS _ cA a ha ⟨ha, o⟩ a' ha').2
  have cA : ClR ts false I (fun y => y ∈ T ∧ O (a', y)) := fun x hx y hy ⟨xT, ox⟩ e => by
    have yT := h.clo T hT x xT y hy e
    by_cases xy : x = y
    · subst xy; exact ⟨xT, ox⟩
    · exact ⟨yT, hO.cl G ox ⟨tie a' ha' y yT, .inl ⟨rfl, xy, fun z => by have := z.2.2; dsimp only at this; rw [e] at this; cases this⟩⟩⟩
  exact (h.con T hT _ cA b hb ⟨hb, o1⟩ b' hb').2
/-! ### how many patterns between the parts -/
theorem crs_cl (ir : ∀ x, adjB ts x x = false) (nI : I.Nodup) (pt : PartI I Is) (md : ∀ S ∈ Is, ModI ts I S) {X : Int × Int → Prop} (hX : CrsP ts Is X) {x y : Int × Int} (h : X x) (f : Tr.Fc (TI ts I) x y) : X y := by
  have di := pt.disI nI
  obtain ⟨u, v⟩ := x
  obtain ⟨z1, z2⟩ := y
  obtain ⟨e, S, hS, T, hT, ne, uS, vT⟩ := hX.ar u v h
  obtain ⟨tz, ⟨e1, n1, g1⟩ | ⟨e1, n1, g1⟩⟩ := f
  · dsimp only at e1 n1 g1 tz
    subst e1
    obtain ⟨U, hU, zU⟩ := pt.own tz.2.1
    have vS : v ∉ S := fun z => ne (di S hS T hT v z vT)
    have US : S ≠ U := fun z => g1 ⟨pt.sub hT v vT, tz.2.1, by
      rw [md S hS v (pt.sub hT v vT) vS z2 (by rw [z]; exact zU) u uS, adj_comm]; exact e⟩
    rcases hX.one S hS U hU US u uS z2 zU tz.2.2 with k | k
    · exact k
    · exfalso
      by_cases UT : U = T
      · subst UT
        exact hX.anti u v h (hX.con U hU S hS (fun z => ne z.symm) z2 zU v vT u uS u uS k)
      · have := hX.tr z2 u v k h fun A hA a1 a2 => UT ((di U hU A hA z2 zU a1).trans (di A hA T hT v a2 vT))
        exact g1 ⟨pt.sub hT v vT, tz.2.1, by rw [adj_comm]; exact (hX.ar z2 v this).1⟩
  · dsimp only at e1 n1 g1 tz
    subst e1
    obtain ⟨U, hU, zU⟩ := pt.own tz.1
    have uT : u ∉ T := fun z => ne (di S hS T hT u uS z)
    have UT : U ≠ T := fun z => g1 ⟨pt.sub hS u uS, tz.1, by
      rw [md T hT u (pt.sub hS u uS) uT z1 (by rw [← z]; exact zU) v vT]; exact e⟩
    rcases hX.one U hU T hT UT z1 zU v vT tz.2.2 with k | k
    · exact k
    · exfalso
      by_cases US : U = S
      · subst US
        exact hX.anti u v h (hX.con T hT U hU (fun z => ne z.symm) v vT v vT z1 zU u uS k)
      · have := hX.tr u v z1 h k fun A hA a1 a2 => US ((di U hU A hA z1 zU a2).trans (di A hA S hS u a1 uS))
        exact g1 ⟨pt.sub hS u uS, tz.1, (hX.ar u z1 this).1⟩
theorem crs_clR (ir : ∀ x, adjB ts x x = false) (nI : I.Nodup) (pt : PartI I Is) (md : ∀ S ∈ Is, ModI ts I S) {X : Int × Int → Prop} (hX : CrsP ts Is X) {x y : Int × Int} (h : X x) (f : Tr.R (TI ts I) x y) : X y := by
  induction f with
  | refl => exact h
  | step _ f ih => exact crs_cl ir nI pt md hX ih f
theorem crs_rev {X : Int × Int → Prop} (hX : CrsP ts Is X) : CrsP ts Is (fun x => X (x.2, x.1)) where
  ar := fun a b h => by
    obtain ⟨e, S, hS, T, hT, ne, aS, bT⟩ := hX.ar b a h
    exact ⟨by rw [adj_comm]; exact e, T, hT, S, hS, fun z => ne z.symm, bT, aS⟩
  one := fun S hS T hT ne a ha b hb e => (hX.one S hS T hT ne a ha b hb e).symm
  anti := fun a b h k => hX.anti b a h k
  con := fun S hS T hT ne a ha a' ha' b hb b' hb' h => hX.con T hT S hS (fun z => ne z.symm) b hb b' hb' a ha a' ha' h
  tr := fun a b c h k far => hX.tr c b a k h fun S hS cS aS => far S hS aS cS
theorem crs_none {X0 : Prop} (no : ¬ ∃ X, CrsP ts Is X) : CntP (CrsP ts Is) 0 := ⟨[], List.nodup_nil, rfl, fun X => ⟨fun h => absurd h List.not_mem_nil, fun h => absurd ⟨X, h⟩ no⟩⟩
theorem crs_close (ir : ∀ x, adjB ts x x = false) (nI : I.Nodup) (pt : PartI I Is) (h : CloseN ts I Is) (ex : ∃ X, CrsP ts Is X) : CntP (CrsP ts Is) 2 := by
  have G := giI (ts := ts) (I := I) ir
  have di := pt.disI nI
  obtain ⟨X0, h0⟩ := ex
  -- a tie between two parts
  obtain ⟨p, q, S, hS, T, hT, ne, pS, qT, tpq⟩ : ∃ p q, ∃ S ∈ Is, ∃ T ∈ Is, S ≠ T ∧ p ∈ S ∧ q ∈ T ∧ TI ts I p q := by
    obtain ⟨S, hS⟩ : ∃ S, S ∈ Is := List.exists_mem_of_ne_nil _ (fun z => by have := pt.two; rw [z] at this; exact absurd this (by decide))
    obtain ⟨T, hT, TS⟩ := pt.other nI S
    obtain ⟨s, sS⟩ := List.exists_mem_of_ne_nil _ (pt.ne S hS)
    obtain ⟨t, tT⟩ := List.exists_mem_of_ne_nil _ (pt.ne T hT)
    refine Classical.byContradiction fun no => ?_
    have cA : ClR ts true I (· ∈ S) := fun x hx y hy xS e => by
      refine Classical.byContradiction fun yS => ?_
      obtain ⟨U, hU, yU⟩ := pt.own hy
      exact no ⟨x, y, S, hS, U, hU, fun z => yS (by rw [z]; exact yU), xS, yU, hx, hy, e⟩
    have tS := h.whl.con true _ cA s (pt.sub hS s sS) sS t (pt.sub hT t tT)
    exact TS (di T hT S hS t tT tS)
  have eq : ∀ {X Y : Int × Int → Prop} {u v : Int}, CrsP ts Is X → CrsP ts Is Y → X (u, v) → Y (u, v) → X = Y := fun {X Y u v} hX hY xu yu => by
    have key : ∀ {X Y : Int × Int → Prop}, CrsP ts Is X → CrsP ts Is Y → X (u, v) → Y (u, v) → ∀ x, X x → Y x := fun {X Y} hX hY xu yu x hx => by
      obtain ⟨a, b⟩ := x
      obtain ⟨e, A, hA, B, hB, AB, aA, bB⟩ := hX.ar a b hx
      obtain ⟨e', A', hA', B', hB', AB', uA, vB⟩ := hX.ar u v xu
      have t : TI ts I a b := ⟨pt.sub hA a aA, pt.sub hB b bB, e⟩
      have t' : TI ts I u v := ⟨pt.sub hA' u uA, pt.sub hB' v vB, e'⟩
      rcases one_col G t' t (h.all A' hA' B' hB' AB' u uA v vB t') (h.all A hA B hB AB a aA b bB t) with k | k
      · exact crs_clR ir nI pt h.md hY yu k
      · exact absurd (crs_clR ir nI pt h.md hX xu k) (hX.anti a b hx)
    exact funext fun x => propext ⟨key hX hY xu yu x, key hY hX yu xu x⟩
  have hr := crs_rev h0
  refine ⟨[X0, fun x => X0 (x.2, x.1)], ?_, rfl, fun X => ?_⟩
  · rw [List.nodup_cons]
    refine ⟨fun z => ?_, by simp⟩
    have e := List.mem_singleton.mp z
    have e2 := congrFun e (p, q)
    rcases h0.one S hS T hT ne p pS q qT tpq.2.2 with k | k
    · rw [e2] at k; exact h0.anti q p k (by rw [e2]; exact k)
    · have : X0 (p, q) := by rw [e2]; exact k
      exact h0.anti p q this k
  · constructor
    · intro z
      rcases List.mem_cons.mp z with rfl | z
      · exact h0
      · rw [List.mem_singleton.mp z]; exact hr
    · intro hX
      rcases hX.one S hS T hT ne p pS q qT tpq.2.2 with k | k <;> rcases h0.one S hS T hT ne p pS q qT tpq.2.2 with k0 | k0
      · rw [eq hX h0 k k0]; exact List.mem_cons_self
      · rw [eq hX hr k k0]; exact List.mem_cons_of_mem _ List.mem_cons_self
      · rw [eq hX hr k k0]; exact List.mem_cons_of_mem _ List.mem_cons_self
      · rw [eq hX h0 k k0]; exact List.mem_cons_self
theorem crs_apart (nI : I.Nodup) (pt : PartI I Is) (h : SetsI ts true I Is) : CntP (CrsP ts Is) 1 := by
  have no : ∀ S ∈ Is, ∀ T ∈ Is, S ≠ T → ∀ a ∈ S, ∀ b ∈ T, adjB ts a b = true → False := fun S hS T hT ne a ha b hb e => ne (pt.dis nI S hS T hT b (h.clo S hS a ha b (pt.sub hT b hb) e) hb)
  refine ⟨[fun _ => False], by simp, rfl, fun X => ?_⟩
  rw [List.mem_singleton]
  constructor
  · rintro rfl
    exact ⟨fun a b h => h.elim, fun S hS T hT ne a ha b hb e => (no S hS T hT ne a ha b hb e).elim, fun a b h => h.elim, fun S hS T hT ne a ha a' ha' b hb b' hb' h => h.elim, fun a b c h => h.elim⟩
  · intro hX
    funext x
    refine propext ⟨fun z => ?_, fun z => z.elim⟩
    obtain ⟨e, S, hS, T, hT, ne, aS, bT⟩ := hX.ar x.1 x.2 z
    exact no S hS T hT ne _ aS _ bT e
/-- one ahead of another in a row -/
def Bf (r : List (List Int)) (S T : List Int) : Prop := ∃ i j : Nat, i < j ∧ r[i]? = some S ∧ r[j]? = some T
theorem bf_ix {r : List (List Int)} (nd : r.Nodup) {i j : Nat} {S : List Int} (h : r[i]? = some S) (k : r[j]? = some S) : i = j := by
  obtain ⟨hi, ei⟩ := List.getElem?_eq_some_iff.mp h
  obtain ⟨hj, ej⟩ := List.getElem?_eq_some_iff.mp k
  exact (List.getElem_inj nd).mp (ei.trans ej.symm)
theorem bf_anti {r : List (List Int)} (nd : r.Nodup) {S T : List Int} (h : Bf r S T) (k : Bf r T S) : False := by
  obtain ⟨i, j, ij, e1, e2⟩ := h
  obtain ⟨i', j', ij', e1', e2'⟩ := k
  have := bf_ix nd e1 e2'
  have := bf_ix nd e2 e1'
  omega
theorem bf_pw {r : List (List Int)} : r.Pairwise (Bf r) := by
  rw [List.pairwise_iff_getElem]
  exact fun i j hi hj ij => ⟨i, j, ij, List.getElem?_eq_getElem hi, List.getElem?_eq_getElem hj⟩
def XofR (r : List (List Int)) : Int × Int → Prop := fun x => ∃ S T, Bf r S T ∧ x.1 ∈ S ∧ x.2 ∈ T
theorem crs_all (nI : I.Nodup) (pt : PartI I Is) (h : SetsI ts false I Is) : CntP (CrsP ts Is) (factT Is.length) := by
  have di := pt.disI nI
  have ndI := pt.nods nI
  have tie : ∀ S ∈ Is, ∀ T ∈ Is, S ≠ T → ∀ x ∈ S, ∀ y ∈ T, adjB ts x y = true := fun S hS T hT ne x hx y hy => by
    cases e : adjB ts x y with
    | true => rfl
    | false => exact absurd (pt.dis nI S hS T hT y (h.clo S hS x hx y (pt.sub hT y hy) e) hy) ne
  have bfI : ∀ {r : List (List Int)} {S T : List Int}, r.Perm Is → Bf r S T → S ∈ Is ∧ T ∈ Is ∧ S ≠ T := fun {r S T} p ⟨i, j, ij, e1, e2⟩ => ⟨p.mem_iff.mp (List.mem_of_getElem? e1), p.mem_iff.mp (List.mem_of_getElem? e2), fun z => by
    subst z
    have := bf_ix (p.nodup_iff.mpr ndI) e1 e2
    omega⟩
  have tot : ∀ {r : List (List Int)} {S T : List Int}, r.Perm Is → S ∈ Is → T ∈ Is → S ≠ T → Bf r S T ∨ Bf r T S := fun {r S T} p hS hT ne => by
    obtain ⟨i, ei⟩ := List.getElem?_of_mem (p.mem_iff.mpr hS)
    obtain ⟨j, ej⟩ := List.getElem?_of_mem (p.mem_iff.mpr hT)
    rcases Nat.lt_trichotomy i j with z | z | z
    · exact .inl ⟨i, j, z, ei, ej⟩
    · subst z
      rw [ei] at ej
      exact absurd (Option.some.inj ej) ne
    · exact .inr ⟨j, i, z, ej, ei⟩
  -- what the pattern of a row says of two parts
  have xat : ∀ {r : List (List Int)} {S T : List Int} {a b : Int}, r.Perm Is → S ∈ Is → T ∈ Is → a ∈ S → b ∈ T → (XofR r (a, b) ↔ Bf r S T) := fun {r S T a b} p hS hT aS bT => by
    constructor
    · rintro ⟨S', T', k, a', b'⟩
      obtain ⟨hS', hT', _⟩ := bfI p k
      rw [di S hS S' hS' a aS a', di T hT T' hT' b bT b']
      exact k
    · exact fun k => ⟨S, T, k, aS, bT⟩
  refine CntP.map (P := fun r => r.Perm Is) XofR (fun X => ⟨fun hX => ?_, ?_⟩) (fun r r' p p' e => ?_) (cnt_perm ndI)
  · obtain ⟨r, p, pw⟩ := ord_ex (R := fun S T => S ∈ Is ∧ T ∈ Is ∧ S ≠ T ∧ ∃ a ∈ S, ∃ b ∈ T, X (a, b)) (l := Is) (fun S hS T hT ne => by
        obtain ⟨a, aS⟩ := List.exists_mem_of_ne_nil _ (pt.ne S hS)
        obtain ⟨b, bT⟩ := List.exists_mem_of_ne_nil _ (pt.ne T hT)
        rcases hX.one S hS T hT ne a aS b bT (tie S hS T hT ne a aS b bT) with k | k
        · exact .inl ⟨hS, hT, ne, a, aS, b, bT, k⟩
        · exact .inr ⟨hT, hS, fun z => ne z.symm, b, bT, a, aS, k⟩) (fun S hS T hT U hU ⟨_, _, ne, a, aS, b, bT, k⟩ ⟨_, _, ne', b', bT', c, cU, k'⟩ => by
        have k2 := hX.con T hT U hU ne' b' bT' b bT c cU c cU k'
        have SU : S ≠ U := fun z => by
          subst z
          exact hX.anti a b k (hX.con T hT S hS (fun z => ne z.symm) b bT b bT c cU a aS k2)
        exact ⟨hS, hU, SU, a, aS, c, cU, hX.tr a b c k k2 fun A hA a1 a2 => SU ((di S hS A hA a aS a1).trans (di A hA U hU c a2 cU))⟩) ndI
    refine ⟨r, p, funext fun x => propext ⟨fun hx => ?_, ?_⟩⟩
    · obtain ⟨e, S, hS, T, hT, ne, aS, bT⟩ := hX.ar x.1 x.2 hx
      rcases tot p hS hT ne with k | k
      · exact ⟨S, T, k, aS, bT⟩
      · exfalso
        obtain ⟨i, j, ij, e1, e2⟩ := k
        obtain ⟨hi, e1⟩ := List.getElem?_eq_some_iff.mp e1
        obtain ⟨hj, e2⟩ := List.getElem?_eq_some_iff.mp e2
        have := List.pairwise_iff_getElem.mp pw i j hi hj ij
        rw [e1, e2] at this
        obtain ⟨_, _, _, b, bT', a, aS', k⟩ := this
        exact hX.anti x.1 x.2 hx (hX.con T hT S hS (fun z => ne z.symm) b bT' x.2 bT a aS' x.1 aS k)
    · rintro ⟨S, T, ⟨i, j, ij, e1, e2⟩, aS, bT⟩
      obtain ⟨hi, e1⟩ := List.getElem?_eq_some_iff.mp e1
      obtain ⟨hj, e2⟩ := List.getElem?_eq_some_iff.mp e2
      have := List.pairwise_iff_getElem.mp pw i j hi hj ij
      rw [e1, e2] at this
      obtain ⟨hS, hT, ne, a, aS', b, bT', k⟩ := this
      exact hX.con S hS T hT ne a aS' x.1 aS b bT' x.2 bT k
  · rintro ⟨r, p, rfl⟩
    have nr : r.Nodup := p.nodup_iff.mpr ndI
    refine ⟨?_, ?_, ?_, ?_, ?_⟩
    · rintro a b ⟨S, T, k, aS, bT⟩
      obtain ⟨hS, hT, ne⟩ := bfI p k
      exact ⟨tie S hS T hT ne a aS b bT, S, hS, T, hT, ne, aS, bT⟩
    · intro S hS T hT ne a ha b hb _
      rcases tot p hS hT ne with k | k
      · exact .inl ⟨S, T, k, ha, hb⟩
      · exact .inr ⟨T, S, k, hb, ha⟩
    · rintro a b ⟨S, T, k, aS, bT⟩ k'
      obtain ⟨hS, hT, _⟩ := bfI p k
      exact bf_anti nr k ((xat p hT hS bT aS).mp k')
    · intro S hS T hT ne a ha a' ha' b hb b' hb' k
      exact (xat p hS hT ha' hb').mpr ((xat p hS hT ha hb).mp k)
    · rintro a b c ⟨S, T, ⟨i, j, ij, e1, e2⟩, aS, bT⟩ ⟨T', U, ⟨j', l, jl, e3, e4⟩, bT', cU⟩ _
      have hT := p.mem_iff.mp (List.mem_of_getElem? e2)
      have hT' := p.mem_iff.mp (List.mem_of_getElem? e3)
      have := di T hT T' hT' b bT bT'
      subst this
      have := bf_ix nr e2 e3
      subst this
      exact ⟨S, U, ⟨i, l, by omega, e1, e4⟩, aS, cU⟩
  · have nr : r.Nodup := p.nodup_iff.mpr ndI
    refine ord_uni (R := Bf r) (fun S T k k' => bf_anti nr k k') (p.trans p'.symm) bf_pw ?_
    refine bf_pw.imp fun {S T} k => ?_
    obtain ⟨hS, hT, _⟩ := bfI p' k
    obtain ⟨a, aS⟩ := List.exists_mem_of_ne_nil _ (pt.ne S hS)
    obtain ⟨b, bT⟩ := List.exists_mem_of_ne_nil _ (pt.ne T hT)
    refine (xat p hS hT aS bT).mp ?_
    rw [e]
    exact (xat p' hS hT aS bT).mpr k
end
/-! ### the count of the tree is the number of led pointings -/
theorem prod_nat : ∀ {ys : List Int}, (∀ y ∈ ys, 0 ≤ y) → (((ys.map Int.toNat).foldr (· * ·) 1 : Nat) : Int) = prodI ys
  | [], _ => rfl
  | y :: ys, h => by
    show ((y.toNat * (ys.map Int.toNat).foldr (· * ·) 1 : Nat) : Int) = y * prodI ys
    rw [Int.natCast_mul, prod_nat fun z hz => h z (List.mem_cons_of_mem _ hz), Int.toNat_of_nonneg (h y List.mem_cons_self)]
theorem kind_con {ts : List Ar} {I : List Int} {w : Str} {Is : List (List Int)} (ir : ∀ x, adjB ts x x = false) (r : I.Pairwise (· < ·)) (l2 : 2 ≤ I.length) (kd : KindX ts I w Is) : ConL ts I Is := by
  have nI : I.Nodup := r.imp fun h => Int.ne_of_lt h
  have pt := kd.part r l2
  rcases kd with ⟨rfl, f1, f2⟩ | ⟨rfl, _, f1, f2⟩ | ⟨rfl, ⟨F1, a1, a2⟩, ⟨F2, b1, b2⟩, f1⟩
  · exact con_apart nI pt f1
  · exact con_all ir nI pt f1
  · exact con_close ir nI pt (closeN ir r l2 (whl_of a1 b1 a2 b2) f1 pt)
theorem cwI_cnt {ts : List Ar} (ir : ∀ x, adjB ts x x = false) : ∀ {m : Nat} {I : List Int} {c : Int}, CwI ts m I c → (∃ O, LedI ts I O) → ∃ N : Nat, c = (N : Int) ∧ CntP (LedI ts I) N
  | 0, _, _, h, _ => h.elim
  | m + 1, I, c, h, ⟨O, hO⟩ => by
    rcases h with ⟨i, rfl, rfl⟩ | ⟨w, Is, ys, kd, ⟨r, l2⟩, yl, ky, rfl⟩
    · refine ⟨1, rfl, [fun _ => False], by simp, rfl, fun O => ?_⟩
      have no : ∀ a b, ¬ TI ts [i] a b := fun a b ⟨ha, hb, e⟩ => by
        rw [List.mem_singleton.mp ha, List.mem_singleton.mp hb, ir] at e
        cases e
      rw [List.mem_singleton]
      constructor
      · rintro rfl
        exact ⟨fun x h => h.elim, fun a b t => absurd t (no a b), fun a b h => h.elim, fun a b c h => h.elim⟩
      · intro h
        exact funext fun x => propext ⟨fun z => no _ _ (h.ar x z), fun z => z.elim⟩
    · have nI : I.Nodup := r.imp fun h => Int.ne_of_lt h
      have pt := kd.part r l2
      have co := kind_con ir r l2 kd
      have kids : ∀ (i : Nat) (S : List Int) (y : Int), Is[i]? = some S → ys[i]? = some y → 0 ≤ y ∧ CntP (LedI ts S) y.toNat := fun i S y e1 e2 => by
        obtain ⟨N, rfl, h⟩ := cwI_cnt ir (ky i S y e1 e2) ⟨_, ledI_sub (pt.sub (List.mem_of_getElem? e1)) hO⟩
        exact ⟨by omega, by rw [Int.toNat_natCast]; exact h⟩
      have y0 : ∀ y ∈ ys, 0 ≤ y := fun y hy => by
        obtain ⟨i, e⟩ := List.getElem?_of_mem hy
        have il : i < Is.length := by have := (List.getElem?_eq_some_iff.mp e).1; omega
        exact (kids i _ y (List.getElem?_eq_getElem il) e).1
      obtain ⟨X, W, hX, _⟩ := (led_node pt nI co O).mp hO
      have hk : ∃ k : Nat, cbN w Is.length = (k : Int) ∧ CntP (CrsP ts Is) k := by
        rcases kd with ⟨rfl, f1, f2⟩ | ⟨rfl, _, f1, f2⟩ | ⟨rfl, ⟨F1, a1, a2⟩, ⟨F2, b1, b2⟩, f1⟩
        · exact ⟨1, rfl, crs_apart nI pt f1⟩
        · refine ⟨factT Is.length, ?_, crs_all nI pt f1⟩
          rw [factT_N]
          unfold cbN
          rw [if_pos rfl]
        · refine ⟨2, ?_, crs_close ir nI pt (closeN ir r l2 (whl_of a1 b1 a2 b2) f1 pt) ⟨X, hX⟩⟩
          unfold cbN
          rw [if_neg (by decide), if_pos rfl]; rfl
      obtain ⟨k, ek, hk⟩ := hk
      refine ⟨k * (ys.map Int.toNat).foldr (· * ·) 1, ?_, cnt_node pt nI co hk (by rw [List.length_map, yl]) fun i S j e1 e2 => ?_⟩
      · rw [Int.natCast_mul, prod_nat y0, ek]
      · rw [List.getElem?_map] at e2
        obtain ⟨y, ey, rfl⟩ := Option.map_eq_some_iff.mp e2
        exact (kids i S y e1 ey).2
end My

set_option Elab.async false
set_option linter.all false
set_option maxRecDepth 100000
namespace My
open PySem PySem.Spec PyProof.Rows L2 GxR
open PySem.W (dataLt keyToks keyToksAll lex_atom lex_one lex_pre minD alike alikeAll AlikeAll min_list_data)

/-! ### min of a list of data -/
theorem dp_at {K : PySem.W.Frag} {H : Hp} : ∀ {us : List V} {ds : List PyData} {i : Nat} {x : V}, DpAll K H us ds → us[i]? = some x → ∃ d, ds[i]? = some d ∧ Dp K H x d
  | _, _, _, _, .nil, h => by cases h
  | _, _, 0, _, .cons r _, h => by cases h; exact ⟨_, rfl, r⟩
  | _, _, i + 1, _, .cons _ t, h => dp_at (i := i) t h
def rMinD (K : PySem.W.Frag) : List V → Hp → VK → Prop := fun vs H Q => ∃ (a : Addr) (us : List V) (d : PyData) (ds : List PyData), vs = [.ref a] ∧ SqL K H a us ∧ DpAll K H us (d :: ds) ∧ AlikeAll (d :: ds) ∧ PyData.depthAll (d :: ds) ≤ 60 ∧
  ∀ (x : V) (i : Nat), us[i]? = some x → (d :: ds)[i]? = some (minD d ds) → Q x H
section
variable {X : Cx}
theorem cr_minD (hc : X.calm = true) (hu : X.A.units + 65 < cLine) : CallR X (.builtin "min") (rMinD X.K) := by
  rintro pins s σ H vs us Q I r ⟨a, ws, d, ds, rfl, ha, hT, al, dep, q⟩
  obtain ⟨u, rfl, ru⟩ := vals1 r
  obtain rfl : u = Value.ref a := ru
  obtain ⟨its, rv, hl, hz⟩ := I.list ha
  obtain ⟨as, hr⟩ := Dp.readsAll I (d :: ds) ws its hT rv
  refine min_list_data (x := d) (xs := ds) (I.ok.hd hc) hl.isList (by simpa using hr) al (by omega) fun i v h' tk bs hv hrd kp => ?_
  have hv' : its[i]? = some v := by simpa using hv
  obtain ⟨x, hx, rx⟩ := vals_at rv hv'
  obtain ⟨e, he, dx⟩ := dp_at hT hx
  obtain ⟨bs2, r2⟩ := Dp.reads I e x v dx rx
  have ee : minD d ds = e := (reads_det (fun b o h _ => kp b o h) r2 hrd).1
  exact ⟨x, H, I.kept kp, rx, q x i hx (by rw [ee]; exact he)⟩
end
theorem minD_one {u : PyData} : ∀ {ds : List PyData} {d : PyData}, u ∈ d :: ds → (∀ q ∈ d :: ds, q ≠ u → dataLt u q = true ∧ dataLt q u = false) → dataLt u u = false → minD d ds = u
  | [], d, h, _, _ => (List.mem_singleton.mp h).symm
  | y :: ds, d, h, hq, ir => by
    show minD (if dataLt y d then y else d) ds = u
    by_cases e : d = u
    · subst e
      have : dataLt y d = false := by
        by_cases z : y = d
        · rw [z]; exact ir
        · exact (hq y (List.mem_cons_of_mem _ List.mem_cons_self) z).2
      rw [this]
      exact minD_one (d := d) List.mem_cons_self (fun q hq' ne => hq q (by rcases List.mem_cons.mp hq' with z | z; exact absurd z ne; exact List.mem_cons_of_mem _ (List.mem_cons_of_mem _ z)) ne) ir
    · by_cases z : y = u
      · subst z
        rw [(hq d List.mem_cons_self e).1]
        exact minD_one (d := y) List.mem_cons_self (fun q hq' ne => hq q (by rcases List.mem_cons.mp hq' with z | z; exact absurd z ne; exact List.mem_cons_of_mem _ (List.mem_cons_of_mem _ z)) ne) ir
      · have um : u ∈ ds := by
          rcases List.mem_cons.mp h with k | k
          · exact absurd k.symm e
          · rcases List.mem_cons.mp k with k | k
            · exact absurd k.symm z
            · exact k
        refine minD_one (d := if dataLt y d then y else d) (List.mem_cons_of_mem _ um) (fun q hq' ne => hq q ?_ ne) ir
        rcases List.mem_cons.mp hq' with k | k
        · rw [k]
          split
          · exact List.mem_cons_of_mem _ List.mem_cons_self
          · exact List.mem_cons_self
        · exact List.mem_cons_of_mem _ (List.mem_cons_of_mem _ k)
/-! ### tuples of pairs -/
def dP (ps : List (Int × Int)) : PyData := .tuple (ps.map dT)
theorem toks_dP (ps : List (Int × Int)) : keyToks (dP ps) = keyToksAll (ps.map dT) := rfl
theorem lex_dT (s t : Int × Int) (l m : List (Int ⊕ List Nat)) (h : ltT s t) : PyProof.Rows.lexLt itemOrd (keyToks (dT s) ++ l) (keyToks (dT t) ++ m) = true := by
  obtain ⟨a, b⟩ := s
  obtain ⟨c, d⟩ := t
  have one : ∀ x y : Int, PyProof.Rows.lexLt itemOrd [.inl x] [.inl y] = decide (x < y) := fun x y => lex_one _ _
  show PyProof.Rows.lexLt itemOrd (.inl 1 :: .inl a :: .inl 1 :: .inl b :: .inl 0 :: l) (.inl 1 :: .inl c :: .inl 1 :: .inl d :: .inl 0 :: m) = true
  rw [lex_self]
  by_cases h1 : a = c
  · subst h1
    rw [lex_self, lex_self]
    have h2 : b < d := by unfold ltT at h; dsimp only at h; omega
    rw [lex_atom (fun z => by have := Sum.inl.inj z; omega), one]
    exact decide_eq_true h2
  · rw [lex_atom (fun z => h1 (Sum.inl.inj z)), one]
    exact decide_eq_true (by unfold ltT at h; dsimp only at h; omega)
theorem lex_dT' (s t : Int × Int) (l m : List (Int ⊕ List Nat)) (h : ltT s t) : PyProof.Rows.lexLt itemOrd (keyToks (dT t) ++ m) (keyToks (dT s) ++ l) = false := by
  obtain ⟨a, b⟩ := s
  obtain ⟨c, d⟩ := t
  have one : ∀ x y : Int, PyProof.Rows.lexLt itemOrd [.inl x] [.inl y] = decide (x < y) := fun x y => lex_one _ _
  show PyProof.Rows.lexLt itemOrd (.inl 1 :: .inl c :: .inl 1 :: .inl d :: .inl 0 :: m) (.inl 1 :: .inl a :: .inl 1 :: .inl b :: .inl 0 :: l) = false
  rw [lex_self]
  by_cases h1 : a = c
  · subst h1
    rw [lex_self, lex_self]
    have h2 : b < d := by unfold ltT at h; dsimp only at h; omega
    rw [lex_atom (fun z => by have := Sum.inl.inj z; omega), one]
    exact decide_eq_false (by omega)
  · rw [lex_atom (fun z => h1 (Sum.inl.inj z).symm), one]
    exact decide_eq_false (by unfold ltT at h; dsimp only at h; omega)
/-- the first that differ -/
def ltLs : List (Int × Int) → List (Int × Int) → Prop
  | s :: l, t :: m => ltT s t ∨ (s = t ∧ ltLs l m)
  | _, _ => False
theorem dlt_dP : ∀ {ps qs : List (Int × Int)}, ltLs ps qs → dataLt (dP ps) (dP qs) = true ∧ dataLt (dP qs) (dP ps) = false
  | s :: l, t :: m, h => by
    unfold dataLt
    rw [toks_dP, toks_dP]
    show PyProof.Rows.lexLt itemOrd (.inl 1 :: (keyToks (dT s) ++ keyToksAll (l.map dT))) (.inl 1 :: (keyToks (dT t) ++ keyToksAll (m.map dT))) = true ∧ PyProof.Rows.lexLt itemOrd (.inl 1 :: (keyToks (dT t) ++ keyToksAll (m.map dT))) (.inl 1 :: (keyToks (dT s) ++ keyToksAll (l.map dT))) = false
    rw [lex_self, lex_self]
    rcases h with h | ⟨rfl, h⟩
    · exact ⟨lex_dT _ _ _ _ h, lex_dT' _ _ _ _ h⟩
    · rw [lex_pre, lex_pre]
      exact dlt_dP h
theorem dlt_irr (ps : List (Int × Int)) : dataLt (dP ps) (dP ps) = false := lex_irrefl _
theorem dP_inj : ∀ {ps qs : List (Int × Int)}, dP ps = dP qs → ps = qs := fun {ps qs} h => by
  have h' : ps.map dT = qs.map dT := PyData.tuple.inj h
  have key : ∀ (l m : List (Int × Int)), l.map dT = m.map dT → l = m := by
    intro l
    induction l with
    | nil => intro m h; cases m with | nil => rfl | cons _ _ => cases h
    | cons a l ih =>
      intro m h
      cases m with
      | nil => cases h
      | cons b m =>
        rw [List.map_cons, List.map_cons] at h
        have h1 := (List.cons.inj h).1
        have h2 := ih m (List.cons.inj h).2
        obtain ⟨x, y⟩ := a
        obtain ⟨z, w⟩ := b
        unfold dT at h1
        simp at h1
        rw [h2, h1.1, h1.2]
  exact key _ _ h'
theorem alike_dP : ∀ {ps qs : List (Int × Int)}, ps.length = qs.length → alike (dP ps) (dP qs) = true := fun {ps qs} h => by
  show alikeAll (ps.map dT) (qs.map dT) = true
  induction ps generalizing qs with
  | nil => cases qs with | nil => rfl | cons _ _ => cases h
  | cons a l ih =>
    cases qs with
    | nil => cases h
    | cons b m =>
      rw [List.map_cons, List.map_cons, alikeAll, ih (Nat.succ.inj h), alike_dT]; rfl
end My

set_option Elab.async false
set_option linter.all false
set_option maxRecDepth 100000
namespace My
open PySem PySem.Spec PyProof.Rows L2 GxR
theorem led_br' {ps : List Ar} : ledB ps = true ↔ ∀ t : Int × Int × Int, ¬ ((t.1, t.2.1) ∈ ps ∧ (t.2.1, t.2.2) ∈ ps ∧ (t.1, t.2.2) ∉ ps) := by
  unfold ledB
  rw [List.all_eq_true]
  constructor
  · rintro h ⟨a, b, c⟩ ⟨h1, h2, h3⟩
    have := h _ h1
    rw [List.all_eq_true] at this
    have := this _ h2
    unfold okB at this
    rw [decide_eq_false h3, decide_eq_true rfl] at this
    cases this
  · intro h s hs
    rw [List.all_eq_true]
    intro t ht
    unfold okB
    by_cases e : s.2 = t.1
    · by_cases m : (s.1, t.2) ∈ ps
      · rw [decide_eq_true m, Bool.or_true]
      · refine absurd ⟨hs, ?_, m⟩ (h (s.1, s.2, t.2))
        show (s.2, t.2) ∈ ps
        rw [e]; exact ht
    · rw [decide_eq_false e]; rfl
/-! ### all led pointings, as the law's own way makes them -/
def mayS (ts sm : List Ar) (t s : Ar) : Bool := !(decide (s.2 = t.1) && (!nrB ts s.1 t.2 || decide ((t.2, s.1) ∈ sm))) && !(decide (t.2 = s.1) && (!nrB ts t.1 s.2 || decide ((s.2, t.1) ∈ sm)))
def mayB (ts sm : List Ar) (t : Ar) : Bool := sm.all (mayS ts sm t)
def addF (ts : List Ar) (t : Ar) (sm : List Ar) : LL := (if mayB ts sm t = true then [sm ++ [t]] else []) ++ (if mayB ts sm (sw t) = true then [sm ++ [sw t]] else [])
def allN (ts : List Ar) (t : Ar) (f : LL) : LL := f.flatMap (addF ts t)
def allF (ts l : List Ar) : LL := l.foldl (fun f t => allN ts t f) [[]]
theorem allF_step (ts l : List Ar) (t : Ar) : allF ts (l ++ [t]) = allN ts t (allF ts l) := by unfold allF; rw [List.foldl_append]; rfl
def allL (ts : List Ar) : LL := (allF ts ts).filter ledB
theorem addF_len (ts : List Ar) (t : Ar) (sm : List Ar) : (addF ts t sm).length ≤ 2 := by
  unfold addF
  split <;> split <;> simp
theorem allN_len (ts : List Ar) (t : Ar) (f : LL) : (allN ts t f).length ≤ 2 * f.length := by
  unfold allN
  induction f with
  | nil => exact Nat.le_refl _
  | cons a l ih =>
    rw [List.flatMap_cons, List.length_append, List.length_cons]
    have := addF_len ts t a
    omega
theorem allF_len (ts l : List Ar) : (allF ts l).length ≤ 2 ^ l.length := by
  induction l using snoc_ind with
  | h0 => exact Nat.le_refl _
  | hs l x ih =>
    rw [allF_step, List.length_append]
    have := allN_len ts x (allF ts l)
    show _ ≤ 2 ^ (l.length + 1)
    rw [Nat.pow_succ]
    omega
theorem addF_mem {ts sm : List Ar} {t : Ar} {ps : List Ar} : ps ∈ addF ts t sm ↔ (mayB ts sm t = true ∧ ps = sm ++ [t]) ∨ (mayB ts sm (sw t) = true ∧ ps = sm ++ [sw t]) := by
  unfold addF
  rw [List.mem_append]
  constructor
  · rintro (h | h)
    · split at h
      · rename_i e; exact .inl ⟨e, List.mem_singleton.mp h⟩
      · exact absurd h List.not_mem_nil
    · split at h
      · rename_i e; exact .inr ⟨e, List.mem_singleton.mp h⟩
      · exact absurd h List.not_mem_nil
  · rintro (⟨e, rfl⟩ | ⟨e, rfl⟩)
    · rw [if_pos e]; exact .inl (List.mem_singleton.mpr rfl)
    · rw [if_pos e]; exact .inr (List.mem_singleton.mpr rfl)
theorem allF_pts {n : Nat} {ts : List Ar} (hW : WOk n ts) : ∀ l : List Ar, (∀ t ∈ l, t ∈ ts) → ∀ ps ∈ allF ts l, Pts l ps := by
  intro l
  induction l using snoc_ind with
  | h0 => intro _ ps h; rw [List.mem_singleton.mp h]; rfl
  | hs l x ih =>
    intro hl ps h
    rw [allF_step] at h
    unfold allN at h
    obtain ⟨sm, hs, h⟩ := List.mem_flatMap.mp h
    have hp := ih (fun t ht => hl t (List.mem_append_left _ ht)) sm hs
    have hb := hW.2 x (hl x (List.mem_append_right _ (List.mem_singleton.mpr rfl)))
    unfold Pts at *
    rcases addF_mem.mp h with ⟨_, rfl⟩ | ⟨_, rfl⟩
    · rw [List.map_append, hp]; exact congrArg (fun z => l ++ [z]) (nrm_t hb.2.1)
    · rw [List.map_append, hp]; exact congrArg (fun z => l ++ [z]) (nrm_sw hb.2.1)
def chs (O : Ar → Bool) (t : Ar) : Ar := if O t = true then t else sw t
theorem allF_has {n : Nat} {ts : List Ar} (hW : WOk n ts) {O : Ar → Bool} (L : Tr.Led (TB ts) (fun x => O x = true)) : ∀ l : List Ar, (∀ t ∈ l, t ∈ ts) → l.map (chs O) ∈ allF ts l := by
  intro l
  induction l using snoc_ind with
  | h0 => intro _; exact List.mem_singleton.mpr rfl
  | hs l x ih =>
    intro hl
    have hx := hl x (List.mem_append_right _ (List.mem_singleton.mpr rfl))
    have hl' : ∀ t ∈ l, t ∈ ts := fun t ht => hl t (List.mem_append_left _ ht)
    have inO : ∀ t ∈ ts, O (chs O t) = true := fun t ht => by
      unfold chs
      by_cases e : O t = true
      · rw [if_pos e]; exact e
      · rw [if_neg e]; exact (L.one t.1 t.2 ((ar_iff hW).mp (ar_t hW ht))).resolve_left e
    have smO : ∀ y ∈ l.map (chs O), O y = true := fun y hy => by
      obtain ⟨t, ht, rfl⟩ := List.mem_map.mp hy
      exact inO t (hl' t ht)
    have ok : ∀ z : Ar, O z = true → mayB ts (l.map (chs O)) z = true := fun z hz => by
      unfold mayB
      rw [List.all_eq_true]
      intro s hs
      have hsO := smO s hs
      unfold mayS
      rw [Bool.and_eq_true]
      constructor
      · by_cases e : s.2 = z.1
        · have h1 : O (s.1, z.2) = true := L.tr s.1 s.2 z.2 hsO (by rw [e]; exact hz)
          have h2 : (z.2, s.1) ∉ l.map (chs O) := fun k => L.anti _ _ h1 (smO _ k)
          rw [decide_eq_false h2, show nrB ts s.1 z.2 = true from L.ar _ h1, Bool.or_false, Bool.and_comm]; rfl
        · rw [decide_eq_false e]; rfl
      · by_cases e : z.2 = s.1
        · have h1 : O (z.1, s.2) = true := L.tr z.1 z.2 s.2 hz (by rw [e]; exact hsO)
          have h2 : (s.2, z.1) ∉ l.map (chs O) := fun k => L.anti _ _ h1 (smO _ k)
          rw [decide_eq_false h2, show nrB ts z.1 s.2 = true from L.ar _ h1, Bool.or_false, Bool.and_comm]; rfl
        · rw [decide_eq_false e]; rfl
    rw [allF_step, List.map_append]
    unfold allN
    refine List.mem_flatMap.mpr ⟨_, ih hl', addF_mem.mpr ?_⟩
    show (_ ∧ l.map (chs O) ++ [chs O x] = _) ∨ (_ ∧ l.map (chs O) ++ [chs O x] = _)
    have ho := inO x hx
    unfold chs at ho ⊢
    by_cases e : O x = true
    · rw [if_pos e] at ho ⊢
      exact .inl ⟨ok x ho, rfl⟩
    · rw [if_neg e] at ho ⊢
      exact .inr ⟨ok _ ho, rfl⟩
/-! ### pointings as sets -/
theorem pts_map {n : Nat} {ts ps : List Ar} (hW : WOk n ts) (h : Pts ts ps) : ps = ts.map fun t => if t ∈ ps then t else sw t := by
  have e : (ts.map fun t => if t ∈ ps then t else sw t) = ps.map fun p => if nrm p ∈ ps then nrm p else sw (nrm p) := by
    have := congrArg (List.map fun t => if t ∈ ps then t else sw t) h
    rw [List.map_map] at this
    exact this.symm
  rw [e]
  have inj : ∀ p ∈ ps, ∀ q ∈ ps, nrm p = nrm q → p = q := fun p hp q hq z => by
    have nd : (ps.map nrm).Nodup := by rw [h]; exact nd_pw hW.1
    obtain ⟨i, hi⟩ := List.mem_iff_getElem?.mp hp
    obtain ⟨j, hj⟩ := List.mem_iff_getElem?.mp hq
    have h1 : (ps.map nrm)[i]? = some (nrm p) := by rw [List.getElem?_map, hi]; rfl
    have h2 : (ps.map nrm)[j]? = some (nrm p) := by rw [List.getElem?_map, hj, z]; rfl
    obtain ⟨l1, e1⟩ := List.getElem?_eq_some_iff.mp h1
    obtain ⟨l2, e2⟩ := List.getElem?_eq_some_iff.mp h2
    have pwn := List.pairwise_iff_getElem.mp (List.nodup_iff_pairwise_ne.mp nd)
    have : i = j := by
      rcases Nat.lt_trichotomy i j with q | q | q
      · exact absurd (e1.trans e2.symm) (pwn _ _ l1 l2 q)
      · exact q
      · exact absurd (e2.trans e1.symm) (pwn _ _ l2 l1 q)
    subst this
    rw [hi] at hj
    exact Option.some.inj hj
  refine (List.map_id ps).symm.trans (List.map_congr_left fun p hp => ?_)
  show p = if nrm p ∈ ps then nrm p else sw (nrm p)
  have ne := pts_ne hW h hp
  by_cases z : p.1 < p.2
  · rw [nrm_t z, if_pos hp]
  · have e2 : nrm p = sw p := if_neg z
    rw [e2, if_neg]
    · rfl
    · intro k
      have := inj p hp _ k (by rw [nrm_sw' p ne])
      exact ne (congrArg Prod.fst this)
theorem mem_pts {n : Nat} {ts ps : List Ar} (hW : WOk n ts) (h : Pts ts ps) {x : Ar} (hx : x ∈ ps) : x ∈ arS n ts := by
  have : nrm x ∈ ts := by rw [← h]; exact List.mem_map.mpr ⟨x, hx, rfl⟩
  rw [mem_arS hW]
  unfold nrm at this
  split at this
  · exact .inl this
  · exact .inr this
theorem pts_anti {n : Nat} {ts ps : List Ar} (hW : WOk n ts) (h : Pts ts ps) {x : Ar} (hx : x ∈ ps) : sw x ∉ ps := fun k => by
  have ne := pts_ne hW h hx
  have key : ∀ y : Ar, y ∈ ps → y.1 < y.2 → sw y ∉ ps := fun y hy z hs => by
    have e := pts_map hW h
    rw [e] at hs
    obtain ⟨t, ht, q⟩ := List.mem_map.mp hs
    have tb := (hW.2 t ht).2.1
    by_cases m : t ∈ ps
    · rw [if_pos m] at q
      rw [q] at tb
      dsimp only [sw] at tb
      omega
    · rw [if_neg m] at q
      have : t = y := by have := congrArg sw q; exact this
      rw [this] at m
      exact m hy
  rcases Int.lt_or_gt_of_ne ne with z | z
  · exact key x hx z k
  · exact key (sw x) k z hx
theorem pts_led {n : Nat} {ts ps : List Ar} (hW : WOk n ts) (h : Pts ts ps) (l : ledB ps = true) : Tr.Led (TB ts) (fun x => x ∈ ps) where
  ar := fun x hx => (ar_iff hW).mp (mem_pts hW h hx)
  one := fun a b t => by
    have key : ∀ s ∈ ts, s ∈ ps ∨ sw s ∈ ps := fun s hs => by
      have : s ∈ ps.map nrm := by rw [h]; exact hs
      obtain ⟨p, hp, e⟩ := List.mem_map.mp this
      unfold nrm at e
      split at e
      · exact .inl (e ▸ hp)
      · exact .inr (by rw [← e]; exact hp)
    rcases (mem_arS hW).mp ((ar_iff hW (x := (a, b))).mpr t) with k | k
    · exact key _ k
    · exact (key _ k).symm
  anti := fun a b hx hy => pts_anti hW h hx hy
  tr := fun a b c h1 h2 => Classical.byContradiction fun z => led_br'.mp l (a, b, c) ⟨h1, h2, z⟩
theorem led_nb {n : Nat} {ts ps : List Ar} (hW : WOk n ts) (h : Pts ts ps) (l : ledB ps = true) : Nb n ts := tr_nb hW ((pts_led hW h l).nb (gr hW))
theorem up_pts {n : Nat} {ts : List Ar} (hW : WOk n ts) (h : Nb n ts) : Pts ts (upP ts) := first_pts hW (first_up hW h)
theorem up_ledB {n : Nat} {ts : List Ar} (hW : WOk n ts) (h : Nb n ts) : ledB (upP ts) = true := led_br'.mpr fun ⟨a, b, c⟩ ⟨h1, h2, h3⟩ => h3 ((mem_upP hW h).mpr ((up_led' hW h).tr a b c ((mem_upP hW h).mp h1) ((mem_upP hW h).mp h2)))
theorem up_first {n : Nat} {ts ps : List Ar} (hW : WOk n ts) (hP : Pts ts ps) (l : ledB ps = true) : ps = upP ts ∨ ltLs (upP ts) ps := by
  have nb := led_nb hW hP l
  have L := pts_led hW hP l
  have U := up_led' hW nb
  have em := pts_map hW hP
  have eu := pts_map hW (up_pts hW nb)
  generalize hf : (fun t => if t ∈ upP ts then t else sw t) = f at eu
  generalize hg : (fun t => if t ∈ ps then t else sw t) = g at em
  have key : ∀ (r pre : List Ar), ts = pre ++ r → (∀ s ∈ pre, f s = g s) → r.map g = r.map f ∨ ltLs (r.map f) (r.map g) := by
    intro r
    induction r with
    | nil => exact fun _ _ _ => .inl rfl
    | cons t r ih =>
      intro pre e hp
      by_cases z : f t = g t
      · rcases ih (pre ++ [t]) (by rw [List.append_assoc]; exact e) (fun s hs => (List.mem_append.mp hs).elim (hp s) fun k => by rw [List.mem_singleton.mp k]; exact z) with k | k
        · left; rw [List.map_cons, List.map_cons, k, z]
        · right; exact .inr ⟨z, k⟩
      · right
        refine .inl ?_
        have ht : t ∈ ts := by rw [e]; exact List.mem_append_right _ List.mem_cons_self
        have tb := hW.2 t ht
        have fe : f t = if t ∈ upP ts then t else sw t := by rw [← hf]
        have ge : g t = if t ∈ ps then t else sw t := by rw [← hg]
        by_cases u : t ∈ upP ts
        · rw [if_pos u] at fe
          by_cases v : t ∈ ps
          · rw [if_pos v] at ge; exact absurd (fe.trans ge.symm) z
          · rw [if_neg v] at ge
            rw [fe, ge]
            exact .inl tb.2.1
        · rw [if_neg u] at fe
          by_cases v : t ∈ ps
          · exfalso
            obtain ⟨m, mt, lt, rm, um⟩ := up_least hW nb ht (fun k => u ((mem_upP hW nb).mpr k))
            have mp : m ∈ pre := by
              rw [e] at mt
              rcases List.mem_append.mp mt with k | k
              · exact k
              · exfalso
                have hW' := hW.1
                rw [e] at hW'
                have := List.pairwise_append.mp hW'
                rcases List.mem_cons.mp k with k | k
                · subst k; exact ltT_irr lt
                · exact ltT_irr (ltT_tr lt ((List.pairwise_cons.mp this.2.1).1 m k))
            have fm : f m = m := by rw [← hf]; exact if_pos ((mem_upP hW nb).mpr um)
            have gm := hp m mp
            rw [fm] at gm
            have mps : m ∈ ps := by
              rw [← hg] at gm
              dsimp only at gm
              by_cases q : m ∈ ps
              · exact q
              · rw [if_neg q] at gm
                have := (hW.2 m (by rw [e]; exact List.mem_append_left _ mp)).2.1
                have := congrArg Prod.fst gm
                dsimp only [sw] at this
                omega
            have sA := arS_sw hW (ar_t hW ht)
            exact L.anti t.1 t.2 v (L.clR (gr hW) mps ((rch_iff hW (rm.ar sA)).mp (rm.symm sA)))
          · rw [if_neg v] at ge; exact absurd (fe.trans ge.symm) z
  rcases key ts [] rfl (fun s hs => absurd hs List.not_mem_nil) with k | k
  · left; rw [em, eu]; exact k
  · right; rw [em, eu]; exact k
theorem mem_allL {n : Nat} {ts ps : List Ar} (hW : WOk n ts) : ps ∈ allL ts ↔ Pts ts ps ∧ ledB ps = true := by
  unfold allL
  rw [List.mem_filter]
  constructor
  · rintro ⟨h1, h2⟩
    exact ⟨allF_pts hW ts (fun _ h => h) ps h1, h2⟩
  · rintro ⟨h1, h2⟩
    refine ⟨?_, h2⟩
    have L := pts_led hW h1 h2
    have := allF_has hW (O := fun x => decide (x ∈ ps)) ⟨fun x hx => L.ar x (of_decide_eq_true hx), fun a b t => (L.one a b t).imp decide_eq_true decide_eq_true, fun a b hx hy => L.anti a b (of_decide_eq_true hx) (of_decide_eq_true hy), fun a b c hx hy => decide_eq_true (L.tr a b c (of_decide_eq_true hx) (of_decide_eq_true hy))⟩ ts fun _ h => h
    rw [show ts.map (chs fun x => decide (x ∈ ps)) = ps from ?_] at this
    · exact this
    · refine Eq.trans (List.map_congr_left fun t _ => ?_) (pts_map hW h1).symm
      unfold chs
      by_cases z : t ∈ ps
      · rw [if_pos (decide_eq_true z), if_pos z]
      · rw [if_neg (fun k => z (of_decide_eq_true k)), if_neg z]
end My

set_option Elab.async false
set_option linter.all false
set_option maxRecDepth 100000
set_option maxHeartbeats 4000000
set_option pp.maxSteps 400
namespace My
open PySem PySem.Spec PyProof.Rows L2 GxR
/-- a tuple of arrows -/
def TupT (H : Hp) (v : V) (ps : List Ar) : Prop := ∃ q us, v = .ref q ∧ H q = some (.tup us) ∧ Ties H us ps
theorem TupT.mono {H H' : Hp} {v : V} {ps : List Ar} (t : Tst H H') (h : TupT H v ps) : TupT H' v ps := by
  obtain ⟨q, us, e, h1, h2⟩ := h
  exact ⟨q, us, e, t _ _ h1, h2.mono t⟩
def bA (ts sm : List Ar) (t s : Ar) : Bool := decide (s.2 = t.1) && (!nrB ts s.1 t.2 || decide ((t.2, s.1) ∈ sm))
def bB (ts sm : List Ar) (t s : Ar) : Bool := decide (t.2 = s.1) && (!nrB ts t.1 s.2 || decide ((s.2, t.1) ∈ sm))
theorem mayS_eq (ts sm : List Ar) (t s : Ar) : mayS ts sm t s = (!bA ts sm t s && !bB ts sm t s) := rfl
theorem addF_eq (ts : List Ar) (t : Ar) (sm : List Ar) : addF ts t sm = ([t, sw t].filter (mayB ts sm)).map fun x => sm ++ [x] := by
  unfold addF
  by_cases h1 : mayB ts sm t = true <;> by_cases h2 : mayB ts sm (sw t) = true <;> simp [h1, h2, List.filter_cons]
theorem all2_mem {α : Type} {R : V → α → Prop} {vs : List V} {ts : List α} {t : α} (h : All2 R vs ts) (ht : t ∈ ts) : ∃ (i : Nat) (v : V), vs[i]? = some v ∧ ts[i]? = some t ∧ R v t := by
  obtain ⟨i, hi⟩ := List.mem_iff_getElem?.mp ht
  obtain ⟨v, hv, r⟩ := h.at' hi
  exact ⟨i, v, hv, hi, r⟩
section
variable {P : Program} {w : World} {K : PySem.W.Frag} {mg : Str → Option Value} {base : Heap}
end
end My

set_option Elab.async false
set_option linter.all false
set_option maxRecDepth 100000
namespace My
open PySem PySem.Spec PyProof.Rows L2 GxR
theorem ex_first {P : Ar → Prop} : ∀ {l : List Ar}, l.Pairwise ltT → (∃ t ∈ l, P t) → ∃ t ∈ l, P t ∧ ∀ s ∈ l, ltT s t → ¬ P s
  | [], _, ⟨t, h, _⟩ => absurd h List.not_mem_nil
  | a :: l, pw, ⟨t, ht, pt⟩ => by
    have pw' := List.pairwise_cons.mp pw
    by_cases pa : P a
    · refine ⟨a, List.mem_cons_self, pa, fun s hs k => ?_⟩
      rcases List.mem_cons.mp hs with z | z
      · subst z; exact absurd k ltT_irr
      · exact absurd (ltT_tr k (pw'.1 s z)) ltT_irr
    · have tl : t ∈ l := (List.mem_cons.mp ht).resolve_left fun z => by subst z; exact pa pt
      obtain ⟨u, hu, pu, lu⟩ := ex_first pw'.2 ⟨t, tl, pt⟩
      refine ⟨u, List.mem_cons_of_mem _ hu, pu, fun s hs k => ?_⟩
      rcases List.mem_cons.mp hs with z | z
      · subst z; exact pa
      · exact lu s z k
theorem rnd_ex {n : Nat} {ts : List Ar} (hW : WOk n ts) (h : ¬ Nb n ts) : ∃ t, RndT n ts t := by
  have : ∃ x, x ∈ arS n ts ∧ Rch n ts x (sw x) := Classical.byContradiction fun z => h fun x hx r => z ⟨x, hx, r⟩
  obtain ⟨x, hx, r⟩ := this
  have : ∃ t ∈ ts, Rch n ts t (sw t) := by
    rcases (mem_arS hW).mp hx with k | k
    · exact ⟨x, k, r⟩
    · exact ⟨_, k, Rch.sw (arS_inR hx) r⟩
  obtain ⟨t, ht, pt, lt⟩ := ex_first hW.1 this
  exact ⟨t, ht, pt, lt⟩
/-- what pointed tells: of the whole -/
theorem pd_cases {n : Nat} {ts : List Ar} (hW : WOk n ts) : (Nb n ts ∧ firstF n ts = some (upP ts)) ∨ (firstF n ts = none ∧ ¬ Nb n ts ∧ ∃ t l, RndT n ts t ∧ wayO n ts t (sw t) = some l) := by
  by_cases h : Nb n ts
  · exact .inl ⟨h, first_up hW h⟩
  · refine .inr ⟨?_, h, ?_⟩
    · cases e : firstF n ts with
      | none => rfl
      | some ps => exact absurd ((first_none hW).mp ⟨ps, e⟩) h
    · obtain ⟨t, ht⟩ := rnd_ex hW h
      obtain ⟨l, hl⟩ := rnd_way hW ht
      exact ⟨t, l, ht, hl⟩
theorem pair_eqd {H : Hp} {s t p q : Addr} {x : Str} {us vs : List V} {ps : List Ar} (hs : H s = some (.tup [.str x, .ref p])) (ht : H t = some (.tup [.str x, .ref q])) (hp : H p = some (.tup us)) (hq : H q = some (.tup vs)) (h1 : Ties H us ps) (h2 : Ties H vs ps) (l : ps.length ≤ 10000) : Eqd 3 H (.ref s) (.ref t) := by
  refine .inr ⟨s, t, _, _, rfl, rfl, .inl ⟨hs, ht⟩, rfl, by show 2 ≤ 10000; decide, fun i v u e f => ?_⟩
  match i, e, f with
  | 0, e, f => cases e; cases f; exact .inl ⟨rfl, .inr (.inr (.inr ⟨x, rfl⟩))⟩
  | 1, e, f => cases e; cases f; exact tup_eqd hp hq h1 h2 l
theorem lst2_eqd {H : Hp} {s t : Addr} {x y u v : V} {m : Nat} (hs : H s = some (.lst [x, y])) (ht : H t = some (.lst [u, v])) (h1 : Eqd m H x u) (h2 : Eqd m H y v) : Eqd (m + 1) H (.ref s) (.ref t) := by
  refine .inr ⟨s, t, _, _, rfl, rfl, .inr ⟨hs, ht⟩, rfl, by show 2 ≤ 10000; decide, fun i v u e f => ?_⟩
  match i, e, f with
  | 0, e, f => cases e; cases f; exact h1
  | 1, e, f => cases e; cases f; exact h2
theorem dp_tups {K : PySem.W.Frag} {H : Hp} : ∀ {us : List V} {fs : LL}, All2 (TupT H) us fs → DpAll K H us (fs.map dP)
  | [], [], _ => .nil
  | _ :: _, _ :: _, ⟨⟨q, us, e, h1, h2⟩, t⟩ => by subst e; exact .cons (.tup (SqT.of h1) h2.dp) (dp_tups t)
  | [], _ :: _, h => h.elim
  | _ :: _, [], h => h.elim
theorem dep_tups : ∀ fs : LL, PyData.depthAll (fs.map dP) ≤ 2
  | [] => Nat.zero_le _
  | f :: fs => by
    have h1 := dep_ties f
    have h2 := dep_tups fs
    rw [List.map_cons, PyData.depthAll]
    have : (dP f).depth ≤ 2 := by
      unfold dP
      rw [PyData.depth]; omega
    omega
/-- the least of all led pointings is the first one -/
theorem min_led {n : Nat} {ts : List Ar} (hW : WOk n ts) (h : Nb n ts) : ∃ f fs, allL ts = f :: fs ∧ PySem.W.AlikeAll ((f :: fs).map dP) ∧ PySem.W.minD (dP f) (fs.map dP) = dP (upP ts) := by
  have um : upP ts ∈ allL ts := (mem_allL hW).mpr ⟨up_pts hW h, up_ledB hW h⟩
  cases e : allL ts with
  | nil => rw [e] at um; exact absurd um List.not_mem_nil
  | cons f fs =>
    rw [e] at um
    have mem : ∀ q ∈ f :: fs, Pts ts q ∧ ledB q = true := fun q hq => (mem_allL hW).mp (by rw [e]; exact hq)
    refine ⟨f, fs, rfl, ⟨fun x hx y hy => ?_, fun x hx => ?_⟩, ?_⟩
    · obtain ⟨s, hs, rfl⟩ := List.mem_map.mp hx
      obtain ⟨t, ht, rfl⟩ := List.mem_map.mp hy
      exact alike_dP ((pts_len (mem s hs).1).trans (pts_len (mem t ht).1).symm)
    · obtain ⟨s, hs, rfl⟩ := List.mem_map.mp hx
      exact fun z => by cases z
    · refine minD_one (by rw [← List.map_cons]; exact List.mem_map.mpr ⟨_, um, rfl⟩) (fun q hq ne => ?_) (dlt_irr _)
      rw [← List.map_cons] at hq
      obtain ⟨s, hs, rfl⟩ := List.mem_map.mp hq
      rcases up_first hW (mem s hs).1 (mem s hs).2 with z | z
      · exact absurd (congrArg dP z) ne
      · exact dlt_dP z
theorem shaped_dP (ps : List Ar) : SeqAt.shaped (dP ps) = true := shaped_tup ps
theorem eqv_dP (ps : List Ar) : PyData.eqv (dP ps) (dP ps) = true := eqv_tiesT ps
end My

set_option Elab.async false
set_option linter.all false
set_option maxRecDepth 100000
namespace My
open PySem PySem.Spec PyProof.Rows L2 GxR
/-! ### what arrows settle -/
def Has (ts as : List Ar) (O : Ar → Prop) : Prop := Tr.Led (TB ts) O ∧ ∀ x ∈ as, O x
def Feas (ts as : List Ar) : Prop := ∃ O, Has ts as O
def Stl (ts as : List Ar) (x : Ar) : Prop := ∀ O, Has ts as O → O x
theorem kn_cld {n : Nat} {ts C : List Ar} (hW : WOk n ts) (h : KnC n ts C) (f : Feas ts C) : Tr.Cld (TB ts) (fun x => x ∈ C) where
  ar := fun x hx => (ar_iff hW).mp (h.ar x hx)
  anti := fun a b hx hy => by
    obtain ⟨O, o, i⟩ := f
    exact o.anti a b (i _ hx) (i _ hy)
  cl := fun x y hx fc => h.cl x hx y ((fc_iff hW (h.ar x hx)).mp fc)
  tr := fun a b c hx hy => h.tr (a, b) hx (b, c) hy rfl
theorem has_nb {n : Nat} {ts as : List Ar} (hW : WOk n ts) {O : Ar → Prop} (h : Has ts as O) : Nb n ts := tr_nb hW (h.1.nb (gr hW))
theorem kn_ext {n : Nat} {ts C : List Ar} (hW : WOk n ts) (h : KnC n ts C) (f : Feas ts C) {t : Ar} (tA : t ∈ arS n ts) (ns : sw t ∉ C) : ∃ O, Over ts C t O := by
  obtain ⟨O1, o1⟩ := id f
  obtain ⟨O, o, i, ot⟩ := Tr.Cld.ext (gr hW) (up n) (tb_fin hW) (nb_tr hW (has_nb hW o1)) (kn_cld hW h f) (a := t.1) (b := t.2) ((ar_iff hW).mp tA) ns
  exact ⟨O, o, i, ot⟩
theorem kn_stl {n : Nat} {ts as C : List Ar} (hW : WOk n ts) (h : KnC n ts C) (f : Feas ts C) (sub : ∀ x ∈ as, x ∈ C) (low : ∀ O, Has ts as O → ∀ x ∈ C, O x) (x : Ar) : x ∈ C ↔ Stl ts as x := by
  constructor
  · exact fun hx O o => low O o x hx
  · intro hx
    refine Classical.byContradiction fun nx => ?_
    obtain ⟨O1, o1⟩ := id f
    have xO : O1 x := hx O1 ⟨o1.1, fun y hy => o1.2 y (sub y hy)⟩
    have xA : x ∈ arS n ts := (ar_iff hW).mpr (o1.1.ar x xO)
    obtain ⟨O, o, i, ot⟩ := kn_ext hW h f (t := sw x) (arS_sw hW xA) nx
    exact o.anti x.1 x.2 (hx O ⟨o, fun y hy => i y (sub y hy)⟩) ot
theorem feas_nil {n : Nat} {ts : List Ar} (hW : WOk n ts) (h : Nb n ts) : Feas ts [] := ⟨UpA ts, up_led' hW h, fun _ z => absurd z List.not_mem_nil⟩
open Classical in
noncomputable def stlS (n : Nat) (ts as : List Ar) : List Ar := (arS n ts).filter fun x => decide (Stl ts as x)
theorem stlS_pw (n : Nat) (ts as : List Ar) : (stlS n ts as).Pairwise ltT := (arS_pw n ts).sublist List.filter_sublist
theorem stlS_len (n : Nat) (ts as : List Ar) : (stlS n ts as).length ≤ n * n := Nat.le_trans (List.length_filter_le _ _) arS_len
open Classical in
theorem mem_stlS {n : Nat} {ts as : List Ar} (hW : WOk n ts) (f : Feas ts as) {x : Ar} : x ∈ stlS n ts as ↔ Stl ts as x := by
  unfold stlS
  rw [List.mem_filter, decide_eq_true_eq]
  refine ⟨fun h => h.2, fun h => ⟨?_, h⟩⟩
  obtain ⟨O, o⟩ := f
  exact (ar_iff hW).mpr (o.1.ar x (h O o))
theorem stl_eq {n : Nat} {ts as C fs : List Ar} (hW : WOk n ts) (f : Feas ts as) (mc : ∀ x, x ∈ C ↔ Stl ts as x) (nd : C.Nodup) (pm : fs.Perm C) (pw : fs.Pairwise (fun s t => ¬ ltT t s)) : fs = stlS n ts as :=
  srt_eq pm nd pw (stlS_pw n ts as) fun x => (mc x).trans (mem_stlS hW f).symm
/-- the first led pointing with these arrows, as a set: what it takes to be that -/
structure Fst (ts as : List Ar) (O : Ar → Prop) : Prop where
  has : Has ts as O
  low : ∀ t ∈ ts, ¬ O t → ∀ O', Has ts as O' → (∀ s ∈ ts, ltT s t → (O' s ↔ O s)) → ¬ O' t
end My

set_option Elab.async false
set_option linter.all false
set_option maxRecDepth 100000
namespace My
open PySem PySem.Spec PyProof.Rows L2 GxR
/-! ### dict(d) of a dict that is empty or has tuples for keys -/
section
variable {prog : Program} {w : World} {A : Around} {E : Value → Shared → Prop} {s : Shared}
theorem kt_call_dictH {o : Addr} {more : List (List Key × Addr × Value)} {Q : Value → Shared → Prop} (hu : A.units + 65 < cLine) (hoS : (o == sysModules) = false) (ho : s.heap.DictOfH (tupleKind (mixKind prog w)) o more) (hap : (more.map fun x => (tupleKind (mixKind prog w)).hash x.1).Nodup) (hsz : more.length ≤ sizeLine)
    (h : ∀ h', h'.DictOfH (tupleKind (mixKind prog w)) s.heap.objs.size more → Heap.SameBut s.heap.objs.size (s.heap.push { cls := .type "dict", data := .dict #[] }) h' → Q (.ref s.heap.objs.size) { s with heap := h' }) :
    wpAny (model prog w) A (call (.type "dict") [.ref o]) Q E s := by
  refine callType_codes (Q₁ := fun obj s₁ => obj = .ref s.heap.objs.size ∧ s₁ = { s with heap := s.heap.push { cls := .type "dict", data := .dict #[] } }) F.kt_called_dict (F.kt_typeCall_dict_1 _) F.entry_dict_init (kt_code_dict_new _ ⟨rfl, rfl⟩) ?_
  rintro obj s₁ ⟨rfl, rfl⟩
  have hnew : (s.heap.push { cls := .type "dict", data := .dict #[] }).DictOfH (tupleKind (mixKind prog w)) s.heap.objs.size [] := Heap.DictOfH.new s.heap
  have ho' : (s.heap.push { cls := .type "dict", data := .dict #[] }).DictOfH (tupleKind (mixKind prog w)) o more := by
    obtain ⟨q, es, ep, h1, h2, h3, h4, h5, h6⟩ := id ho
    refine ⟨q, es, ep, Heap.get?_push_of_some _ h1, h2, h3, h4, fun x hx => ?_, h6⟩
    obtain ⟨q', items, n, e1, e2, e3, e4⟩ := h5 x hx
    exact ⟨q', items, n, Heap.get?_push_of_some _ e1, e2, e3, e4⟩
  have hdo : s.heap.objs.size ≠ o := by
    obtain ⟨_, _, _, hg, _⟩ := ho
    exact fun e => absurd (Heap.lt_size hg) (by rw [e]; exact Nat.lt_irrefl _)
  have hn : (more.map (·.1)).Nodup := ho.nodup
  refine ⟨hnew.typeIs, F.args_dict_init_2 _ _, ?_⟩
  unfold Builtin.«dict.__init__»
  refine wpAny_bind ?_
  unfold Builtin.Dict.selfAndRest
  refine wpAny_bind (wpAny_notOrdered_dict hnew.typeIs ?_)
  show wpAny _ _ (pure (s.heap.objs.size, [Value.ref o])) _ _ _
  refine wpAny_pure ?_
  show wpAny _ _ (Builtin.Dict.updateFrom "dict.__init__" s.heap.objs.size (.ref o) [] .none) _ _ _
  unfold Builtin.Dict.updateFrom
  refine wpAny_bind (wpAny_typeOf ho'.typeIs ?_)
  rw [if_neg (by decide)]
  refine wpAny_bind ?_
  unfold Builtin.Dict.merge
  refine wpAny_bind ?_
  unfold Builtin.Dict.readDirectly
  refine wpAny_bind (wpAny_isInstance ho'.typeIs isSubtype_dict_dict ?_)
  simp only [Bool.not_true, Bool.false_eq_true, if_false]
  refine wpAny_bind (wpAny_specialOf ho'.typeIs F.slot_dict_iter.lookup (wpAny_pure ?_))
  simp only [beq_self_eq_true, if_true]
  refine wpAny_bind (wpAny_pure ?_)
  refine wpAny_mergeDict_heap (hsz := by simpa using hsz) ?room hdo hoS hnew ho' (.inr ⟨fun y hy => ?_, hap⟩) fun h' hd' _ hs' => ?_
  case room => exact tupleKind_room_in1 (by show A.units + 1 + 1 < cLine; omega)
  · obtain ⟨q, es, ep, _, _, _, _, his, _⟩ := ho'
    obtain ⟨o', items, n, e1, e2, _⟩ := his y hy
    exact ⟨o', e1, e2⟩
  · show wpAny _ _ (Builtin.Dict.addKeywords s.heap.objs.size [] >>= _) _ _ _
    rw [storedAllH_nil_of_nodup more hn] at hd'
    exact wpAny_bind (wpAny_pure (wpAny_pure ⟨rfl, h h' hd' hs'⟩))
end
def rDictC (w : World) : List V → Hp → VK → Prop := fun xs H Q => ∃ (a : Addr), xs = [.ref a] ∧ ((Rd H a (.dK []) ∧ ∀ p, H p = none → Q (.ref p) (upd H p (.dT []))) ∨ ∃ kvs, H a = some (.dT kvs) ∧ Apart w kvs ∧ ∀ p, H p = none → Q (.ref p) (upd H p (.dT kvs)))
theorem call_dictC {X : Cx} (hu : X.A.units + 65 < cLine) : CallR X (.type "dict") (rDictC X.w) := by
  intro pins s σ H xs us Q I r q
  obtain ⟨a, ex, q⟩ := q
  subst ex
  obtain ⟨u, eu, rx⟩ := vals1 r
  subst eu
  cases rx
  have hm : (s.heap.objs.size == sysModules) = false := beq_eq_false_iff_ne.mpr (Nat.ne_of_gt I.big)
  rcases q with ⟨hd, q⟩ | ⟨kvs, ea, hap, q⟩
  · obtain ⟨z, lo, vs, rel, dd⟩ := dk_rd I.hok hd
    refine kt_call_dict lo dd (by rw [← rel.length]; exact z) fun h' d' hs => ?_
    have v0 : vs = [] := List.length_eq_zero_iff.mp rel.length.symm
    subst v0
    obtain ⟨o, es, ep, h1, h2, h3, h4, h5, h6⟩ := d'
    have e0 : es.toList = [] := by
      cases h : es.toList with
      | nil => rfl
      | cons a l => rw [h] at h5; cases h5
    exact ⟨.ref s.heap.objs.size, upd H s.heap.objs.size (.dT []), I.laid (t' := s.toks) (fun b u e => (hs.2 b (Nat.ne_of_lt (Heap.lt_size e))).trans (Heap.get?_push_of_some _ e)) (Nat.le_refl _)
      (show ObjOk X.prog X.w _ _ _ (.dT []) from ⟨Nat.zero_le _, hm, [], .nil, o, es, ep, h1, h2, h3, e0, List.nodup_nil⟩), rfl, q _ (I.hok.fresh (Nat.le_refl _))⟩
  · obtain ⟨za, ha, xa, ra, da⟩ := dt_of I.hok ea
    have la : xa.length = kvs.length := (Paired.length ra).symm
    refine kt_call_dictH hu ha da (by rw [kt_hash ra]; exact hap) (by omega) fun h' dd' hs => ?_
    obtain ⟨q', es, ep, hq', h2, h3, h4, _, h5⟩ := dd'
    refine ⟨.ref s.heap.objs.size, upd H s.heap.objs.size (.dT kvs), I.laid (t' := s.toks) (fun b u e => (hs.2 b (Nat.ne_of_lt (Heap.lt_size e))).trans (Heap.get?_push_of_some _ e)) (Nat.le_refl _) ⟨za, hm, xa, ra.keeps fun c ys ec => ?_, q', es, ep, hq', h2, h3, h4, h5⟩, rfl, q _ (I.hok.fresh (Nat.le_refl _))⟩
    rw [upd_ne (ne_of_none ec (I.hok.fresh (Nat.le_refl _)))]; exact ec
/-! ### closed by forcings, and by thirds where there is a tie -/
def ntA (ts C : List Ar) (o : Ar) : List Ar := (C.filter fun (x : Ar) => decide (x.1 = o.2) && nrB ts o.1 x.2).map fun x => (o.1, x.2)
def ntB (ts C : List Ar) (o : Ar) : List Ar := (C.filter fun (x : Ar) => decide (x.2 = o.1) && nrB ts x.1 o.2).map fun x => (x.1, o.2)
theorem ntA_step (ts C : List Ar) (o x : Ar) : ntA ts (C ++ [x]) o = ntA ts C o ++ (if (decide (x.1 = o.2) && nrB ts o.1 x.2) = true then [(o.1, x.2)] else []) := by
  unfold ntA
  rw [List.filter_append, List.map_append]
  by_cases h : (decide (x.1 = o.2) && nrB ts o.1 x.2) = true
  · rw [if_pos h, List.filter_cons_of_pos (p := fun (x : Ar) => decide (x.1 = o.2) && nrB ts o.1 x.2) h]; rfl
  · rw [if_neg h, List.filter_cons_of_neg (p := fun (x : Ar) => decide (x.1 = o.2) && nrB ts o.1 x.2) h]; rfl
theorem ntB_step (ts C : List Ar) (o x : Ar) : ntB ts (C ++ [x]) o = ntB ts C o ++ (if (decide (x.2 = o.1) && nrB ts x.1 o.2) = true then [(x.1, o.2)] else []) := by
  unfold ntB
  rw [List.filter_append, List.map_append]
  by_cases h : (decide (x.2 = o.1) && nrB ts x.1 o.2) = true
  · rw [if_pos h, List.filter_cons_of_pos (p := fun (x : Ar) => decide (x.2 = o.1) && nrB ts x.1 o.2) h]; rfl
  · rw [if_neg h, List.filter_cons_of_neg (p := fun (x : Ar) => decide (x.2 = o.1) && nrB ts x.1 o.2) h]; rfl
theorem ntA_len (ts C : List Ar) (o : Ar) : (ntA ts C o).length ≤ C.length := by unfold ntA; rw [List.length_map]; exact List.length_filter_le _ _
theorem ntB_len (ts C : List Ar) (o : Ar) : (ntB ts C o).length ≤ C.length := by unfold ntB; rw [List.length_map]; exact List.length_filter_le _ _
theorem mem_ntA {ts C : List Ar} {o y : Ar} : y ∈ ntA ts C o ↔ ∃ x ∈ C, x.1 = o.2 ∧ nrB ts o.1 x.2 = true ∧ y = (o.1, x.2) := by
  unfold ntA
  rw [List.mem_map]
  constructor
  · rintro ⟨x, hx, rfl⟩
    obtain ⟨h1, h2⟩ := List.mem_filter.mp hx
    rw [Bool.and_eq_true, decide_eq_true_eq] at h2
    exact ⟨x, h1, h2.1, h2.2, rfl⟩
  · rintro ⟨x, hx, e, n, rfl⟩
    exact ⟨x, List.mem_filter.mpr ⟨hx, by rw [Bool.and_eq_true, decide_eq_true_eq]; exact ⟨e, n⟩⟩, rfl⟩
theorem mem_ntB {ts C : List Ar} {o y : Ar} : y ∈ ntB ts C o ↔ ∃ x ∈ C, x.2 = o.1 ∧ nrB ts x.1 o.2 = true ∧ y = (x.1, o.2) := by
  unfold ntB
  rw [List.mem_map]
  constructor
  · rintro ⟨x, hx, rfl⟩
    obtain ⟨h1, h2⟩ := List.mem_filter.mp hx
    rw [Bool.and_eq_true, decide_eq_true_eq] at h2
    exact ⟨x, h1, h2.1, h2.2, rfl⟩
  · rintro ⟨x, hx, e, n, rfl⟩
    exact ⟨x, List.mem_filter.mpr ⟨hx, by rw [Bool.and_eq_true, decide_eq_true_eq]; exact ⟨e, n⟩⟩, rfl⟩
structure GInv (n : Nat) (ts as C W : List Ar) : Prop where
  nd : C.Nodup
  ar : ∀ x ∈ C, x ∈ arS n ts
  wa : ∀ x ∈ W, x ∈ arS n ts
  sub : ∀ x ∈ as, x ∈ C ∨ x ∈ W
  cl : ∀ x ∈ C, ∀ y ∈ frcS n ts x, y ∈ C ∨ y ∈ W
  tr : ∀ x ∈ C, ∀ y ∈ C, x.2 = y.1 → nrB ts x.1 y.2 = true → (x.1, y.2) ∈ C ∨ (x.1, y.2) ∈ W
  inO : ∀ O, Has ts as O → (∀ x ∈ C, O x) ∧ ∀ x ∈ W, O x
theorem ginv_start {n : Nat} {ts as C0 : List Ar} (hC : KnC n ts C0) (h : ∀ x ∈ as, x ∈ arS n ts) : GInv n ts (C0 ++ as) C0 as :=
  ⟨hC.nd, hC.ar, h, fun x hx => List.mem_append.mp hx, fun x hx y hy => .inl (hC.cl x hx y hy), fun x hx y hy e _ => .inl (hC.tr x hx y hy e), fun O o => ⟨fun x hx => o.2 x (List.mem_append_left _ hx), fun x hx => o.2 x (List.mem_append_right _ hx)⟩⟩
theorem knc_nil {n : Nat} {ts : List Ar} : KnC n ts [] := ⟨List.nodup_nil, fun _ h => absurd h List.not_mem_nil, fun _ h => absurd h List.not_mem_nil, fun _ h => absurd h List.not_mem_nil⟩
/-- what is settled is closed -/
theorem stl_knc {n : Nat} {ts as C : List Ar} (hW : WOk n ts) (f : Feas ts as) (nd : C.Nodup) (mc : ∀ x, x ∈ C ↔ Stl ts as x) : KnC n ts C where
  nd := nd
  ar := fun x hx => by
    obtain ⟨O, o⟩ := f
    exact (ar_iff hW).mpr (o.1.ar x ((mc x).mp hx O o))
  cl := fun x hx y hy => (mc y).mpr fun O o => by
    have ox := (mc x).mp hx O o
    exact o.1.cl (gr hW) ox ((fc_iff hW ((ar_iff hW).mpr (o.1.ar x ox))).mpr hy)
  tr := fun x hx y hy e => (mc _).mpr fun O o => o.1.tr x.1 x.2 y.2 ((mc x).mp hx O o) (by rw [e]; exact (mc y).mp hy O o)
theorem ginv_skip {n : Nat} {ts as C W : List Ar} {w : Ar} (h : GInv n ts as C (W ++ [w])) (hw : w ∈ C) : GInv n ts as C W := by
  have k : ∀ {y : Ar}, y ∈ C ∨ y ∈ W ++ [w] → y ∈ C ∨ y ∈ W := fun {y} z => z.elim .inl fun z => (List.mem_append.mp z).elim .inr fun z => .inl (by rw [List.mem_singleton.mp z]; exact hw)
  exact ⟨h.nd, h.ar, fun x hx => h.wa x (List.mem_append_left _ hx), fun x hx => k (h.sub x hx), fun x hx y hy => k (h.cl x hx y hy), fun x hx y hy e t => k (h.tr x hx y hy e t), fun O o => ⟨(h.inO O o).1, fun x hx => (h.inO O o).2 x (List.mem_append_left _ hx)⟩⟩
theorem ginv_add {n : Nat} {ts as C W : List Ar} {w : Ar} (hW : WOk n ts) (h : GInv n ts as C (W ++ [w])) (hw : w ∉ C) : GInv n ts as (C ++ [w]) (((W ++ frcS n ts w) ++ ntA ts (C ++ [w]) w) ++ ntB ts (C ++ [w]) w) := by
  have wA := h.wa w (List.mem_append_right _ (List.mem_singleton.mpr rfl))
  have k : ∀ {y : Ar}, y ∈ C ∨ y ∈ W ++ [w] → y ∈ C ++ [w] ∨ y ∈ ((W ++ frcS n ts w) ++ ntA ts (C ++ [w]) w) ++ ntB ts (C ++ [w]) w := fun {y} z =>
    z.elim (fun z => .inl (List.mem_append_left _ z)) fun z => (List.mem_append.mp z).elim (fun z => .inr (List.mem_append_left _ (List.mem_append_left _ (List.mem_append_left _ z)))) fun z => .inl (List.mem_append_right _ z)
  refine ⟨nd_add h.nd hw, fun x hx => ?_, fun x hx => ?_, fun x hx => k (h.sub x hx), fun x hx y hy => ?_, fun x hx y hy e t => ?_, fun O o => ?_⟩
  · rcases List.mem_append.mp hx with z | z
    · exact h.ar x z
    · rw [List.mem_singleton.mp z]; exact wA
  · rcases List.mem_append.mp hx with z | z
    · rcases List.mem_append.mp z with z | z
      · rcases List.mem_append.mp z with z | z
        · exact h.wa x (List.mem_append_left _ z)
        · exact frcS_ar (arS_inR wA) z
      · obtain ⟨y, _, _, t, rfl⟩ := mem_ntA.mp z
        exact (ar_iff hW).mpr t
    · obtain ⟨y, _, _, t, rfl⟩ := mem_ntB.mp z
      exact (ar_iff hW).mpr t
  · rcases List.mem_append.mp hx with z | z
    · exact k (h.cl x z y hy)
    · rw [List.mem_singleton.mp z] at hy
      exact .inr (List.mem_append_left _ (List.mem_append_left _ (List.mem_append_right _ hy)))
  · rcases List.mem_append.mp hx with z | z
    · rcases List.mem_append.mp hy with z2 | z2
      · exact k (h.tr x z y z2 e t)
      · rw [List.mem_singleton.mp z2] at e t ⊢
        exact .inr (List.mem_append_right _ (mem_ntB.mpr ⟨x, hx, e, t, rfl⟩))
    · rw [List.mem_singleton.mp z] at e t ⊢
      exact .inr (List.mem_append_left _ (List.mem_append_right _ (mem_ntA.mpr ⟨y, hy, e.symm, t, rfl⟩)))
  · obtain ⟨o1, o2⟩ := h.inO O o
    have ow : O w := o2 w (List.mem_append_right _ (List.mem_singleton.mpr rfl))
    have oC : ∀ x ∈ C ++ [w], O x := fun x hx => (List.mem_append.mp hx).elim (o1 x) fun z => by rw [List.mem_singleton.mp z]; exact ow
    refine ⟨oC, fun x hx => ?_⟩
    rcases List.mem_append.mp hx with z | z
    · rcases List.mem_append.mp z with z | z
      · rcases List.mem_append.mp z with z | z
        · exact o2 x (List.mem_append_left _ z)
        · exact o.1.cl (gr hW) ow ((fc_iff hW wA).mpr z)
      · obtain ⟨y, hy, e, _, rfl⟩ := mem_ntA.mp z
        exact o.1.tr w.1 w.2 y.2 ow (by rw [← e]; exact oC y hy)
    · obtain ⟨y, hy, e, _, rfl⟩ := mem_ntB.mp z
      exact o.1.tr y.1 y.2 w.2 (oC y hy) (by rw [e]; exact ow)
theorem ginv_none {n : Nat} {ts as C : List Ar} (h : GInv n ts as C []) {x : Ar} (hx : x ∈ C) (hs : sw x ∈ C) : ¬ Feas ts as := fun ⟨O, o⟩ => o.1.anti x.1 x.2 ((h.inO O o).1 x hx) ((h.inO O o).1 _ hs)
theorem ginv_end {n : Nat} {ts as C : List Ar} (hW : WOk n ts) (nb : Nb n ts) (h : GInv n ts as C []) (hn : ∀ x ∈ C, sw x ∉ C) : Feas ts as ∧ ∀ x, x ∈ C ↔ Stl ts as x := by
  have k : ∀ {y : Ar}, y ∈ C ∨ y ∈ ([] : List Ar) → y ∈ C := fun {y} z => z.elim id fun z => absurd z List.not_mem_nil
  have kc : KnC n ts C := by
    refine ⟨h.nd, h.ar, fun x hx y hy => k (h.cl x hx y hy), fun x hx y hy e => ?_⟩
    by_cases t : nrB ts x.1 y.2 = true
    · exact k (h.tr x hx y hy e t)
    · exfalso
      have xA := h.ar x hx
      have yA := (ar_iff hW).mp (h.ar y hy)
      by_cases z : x.1 = y.2
      · refine hn x hx ?_
        have : sw x = y := Prod.ext e (by show x.1 = y.2; exact z)
        rw [this]; exact hy
      · refine hn y hy (k (h.cl x hx (sw y) ((fc_iff hW xA).mp ⟨(gr hW).sy yA, .inr ⟨e, z, t⟩⟩)))
  have fe : Feas ts C := by
    cases C with
    | nil => exact feas_nil hW nb
    | cons x l =>
      have cld : Tr.Cld (TB ts) (fun y => y ∈ x :: l) := ⟨fun y hy => (ar_iff hW).mp (kc.ar y hy), fun a b h1 h2 => hn (a, b) h1 h2, fun y z hy fc => kc.cl y hy z ((fc_iff hW (kc.ar y hy)).mp fc), fun a b c h1 h2 => kc.tr (a, b) h1 (b, c) h2 rfl⟩
      obtain ⟨O, o, i, _⟩ := Tr.Cld.ext (gr hW) (up n) (tb_fin hW) (nb_tr hW nb) cld (a := x.1) (b := x.2) ((ar_iff hW).mp (kc.ar x List.mem_cons_self)) (hn x List.mem_cons_self)
      exact ⟨O, o, i⟩
  refine ⟨?_, kn_stl hW kc fe (fun x hx => k (h.sub x hx)) (fun O o => (h.inO O o).1)⟩
  obtain ⟨O, o⟩ := fe
  exact ⟨O, o.1, fun x hx => o.2 x (k (h.sub x hx))⟩
end My

set_option Elab.async false
set_option linter.all false
set_option maxRecDepth 100000
namespace My
open PySem PySem.Spec PyProof.Rows L2 GxR
/-! ### the first led pointing that has some arrows -/
theorem led_list' {n : Nat} {ts : List Ar} (hW : WOk n ts) {O : Ar → Prop} (L : Tr.Led (TB ts) O) : ∃ ps, Pts ts ps ∧ ledB ps = true ∧ ∀ x, x ∈ ps ↔ O x := by
  haveI : DecidablePred O := fun x => Classical.propDecidable (O x)
  have mem : ∀ x, x ∈ (ts.map fun t => if O t then t else sw t) ↔ O x := fun x => by
    rw [List.mem_map]
    constructor
    · rintro ⟨t, ht, rfl⟩
      by_cases e : O t
      · rw [if_pos e]; exact e
      · rw [if_neg e]
        exact (L.one t.1 t.2 ((ar_iff hW).mp (ar_t hW ht))).resolve_left e
    · intro hx
      rcases (mem_arS hW).mp ((ar_iff hW).mpr (L.ar x hx)) with k | k
      · exact ⟨x, k, if_pos hx⟩
      · refine ⟨sw x, k, ?_⟩
        rw [if_neg (show ¬ O (sw x) from fun z => L.anti x.1 x.2 hx z)]; rfl
  refine ⟨ts.map fun t => if O t then t else sw t, ?_, ?_, mem⟩
  · unfold Pts
    rw [List.map_map]
    refine (List.map_congr_left (g := id) fun t ht => ?_).trans (List.map_id ts)
    have b := (hW.2 t ht).2.1
    show nrm (if O t then t else sw t) = t
    split
    · exact nrm_t b
    · exact nrm_sw b
  · exact led_br'.mpr fun ⟨a, b, c⟩ ⟨h1, h2, h3⟩ => h3 ((mem _).mpr (L.tr a b c ((mem _).mp h1) ((mem _).mp h2)))
theorem ltLs_tr : ∀ {a b c : List Ar}, ltLs a b → ltLs b c → ltLs a c
  | x :: a, y :: b, z :: c, h, k => by
    rcases h with h | ⟨rfl, h⟩
    · rcases k with k | ⟨rfl, k⟩
      · exact .inl (ltT_tr h k)
      · exact .inl h
    · rcases k with k | ⟨rfl, k⟩
      · exact .inl k
      · exact .inr ⟨rfl, ltLs_tr h k⟩
theorem ltLs_irr : ∀ {a : List Ar}, ¬ ltLs a a
  | x :: a, h => by
    rcases h with h | ⟨_, h⟩
    · exact ltT_irr h
    · exact ltLs_irr h
theorem ltLs_tri : ∀ {a b : List Ar}, a.length = b.length → ltLs a b ∨ a = b ∨ ltLs b a
  | [], [], _ => .inr (.inl rfl)
  | x :: a, y :: b, h => by
    rcases ltT_tri x y with k | k | k
    · exact .inl (.inl k)
    · subst k
      rcases ltLs_tri (a := a) (b := b) (Nat.succ.inj h) with k | k | k
      · exact .inl (.inr ⟨rfl, k⟩)
      · exact .inr (.inl (by rw [k]))
      · exact .inr (.inr (.inr ⟨rfl, k⟩))
    · exact .inr (.inr (.inl k))
/-- ps is the first led pointing that has these -/
structure IsFst (ts as ps : List Ar) : Prop where
  pts : Pts ts ps
  led : ledB ps = true
  has : ∀ a ∈ as, a ∈ ps
  low : ∀ qs, Pts ts qs → ledB qs = true → (∀ a ∈ as, a ∈ qs) → qs = ps ∨ ltLs ps qs
theorem IsFst.uni {ts as ps qs : List Ar} (h : IsFst ts as ps) (k : IsFst ts as qs) : ps = qs := by
  rcases h.low qs k.pts k.led k.has with z | z
  · exact z.symm
  · rcases k.low ps h.pts h.led h.has with y | y
    · exact y
    · exact absurd (ltLs_tr z y) ltLs_irr
theorem ex_least {P : List Ar → Prop} {m : Nat} : ∀ (l : LL), (∀ x ∈ l, x.length = m) → (∃ x ∈ l, P x) → ∃ x ∈ l, P x ∧ ∀ y ∈ l, P y → y = x ∨ ltLs x y
  | [], _, ⟨x, h, _⟩ => absurd h List.not_mem_nil
  | a :: l, hl, ⟨x, hx, px⟩ => by
    have hl' : ∀ x ∈ l, x.length = m := fun x h => hl x (List.mem_cons_of_mem _ h)
    by_cases e : ∃ x ∈ l, P x
    · obtain ⟨b, hb, pb, lb⟩ := ex_least l hl' e
      by_cases pa : P a
      · rcases ltLs_tri (a := a) (b := b) ((hl a List.mem_cons_self).trans (hl' b hb).symm) with k | k | k
        · refine ⟨a, List.mem_cons_self, pa, fun y hy py => ?_⟩
          rcases List.mem_cons.mp hy with z | z
          · exact .inl z
          · rcases lb y z py with q | q
            · exact .inr (q ▸ k)
            · exact .inr (ltLs_tr k q)
        · refine ⟨b, List.mem_cons_of_mem _ hb, pb, fun y hy py => ?_⟩
          rcases List.mem_cons.mp hy with z | z
          · exact .inl (z.trans k)
          · exact lb y z py
        · refine ⟨b, List.mem_cons_of_mem _ hb, pb, fun y hy py => ?_⟩
          rcases List.mem_cons.mp hy with z | z
          · exact .inr (z ▸ k)
          · exact lb y z py
      · refine ⟨b, List.mem_cons_of_mem _ hb, pb, fun y hy py => ?_⟩
        rcases List.mem_cons.mp hy with z | z
        · exact absurd (z ▸ py) pa
        · exact lb y z py
    · have xa : x = a := (List.mem_cons.mp hx).resolve_right fun z => e ⟨x, z, px⟩
      refine ⟨a, List.mem_cons_self, xa ▸ px, fun y hy py => ?_⟩
      rcases List.mem_cons.mp hy with z | z
      · exact .inl z
      · exact absurd ⟨y, z, py⟩ e
theorem fst_ex {n : Nat} {ts as : List Ar} (hW : WOk n ts) (f : Feas ts as) : ∃ ps, IsFst ts as ps := by
  obtain ⟨O, L, i⟩ := f
  obtain ⟨p0, h1, h2, h3⟩ := led_list' hW L
  obtain ⟨ps, hp, pp, low⟩ := ex_least (P := fun ps => ∀ a ∈ as, a ∈ ps) (m := ts.length) (allL ts) (fun x hx => pts_len ((mem_allL hW).mp hx).1) ⟨p0, (mem_allL hW).mpr ⟨h1, h2⟩, fun a ha => (h3 a).mpr (i a ha)⟩
  obtain ⟨q1, q2⟩ := (mem_allL hW).mp hp
  exact ⟨ps, q1, q2, pp, fun qs a b c => low qs ((mem_allL hW).mpr ⟨a, b⟩) c⟩
theorem map_lt {f g : Ar → Ar} : ∀ (pre : List Ar) {t : Ar} {r : List Ar}, (∀ s ∈ pre, f s = g s) → ltT (f t) (g t) → ltLs ((pre ++ t :: r).map f) ((pre ++ t :: r).map g)
  | [], _, _, _, h => .inl h
  | a :: pre, _, _, hp, h => .inr ⟨hp a List.mem_cons_self, map_lt pre (fun s hs => hp s (List.mem_cons_of_mem _ hs)) h⟩
/-- what is filled in next is what the first one has -/
theorem fst_next {n : Nat} {ts as C ps : List Ar} (hW : WOk n ts) (h : IsFst ts as ps) (hs : ∀ x ∈ as, x ∈ C) : ∀ (i : Nat) (t : Ar) (C' : List Ar), ts[i]? = some t → KnC n ts C' → (∀ x ∈ C, x ∈ C') → (∀ x ∈ C', x ∈ ps) → (∀ s ∈ ts.take i, s ∈ C' ∨ sw s ∈ C') → t ∉ C' → sw t ∉ C' → t ∈ ps := by
  intro i t C' et hC' sub inO set n1 n2
  refine Classical.byContradiction fun nt => ?_
  have tm := List.mem_of_getElem? et
  have tA := ar_t hW tm
  have L := pts_led hW h.pts h.led
  obtain ⟨O, o, iO, ot⟩ := kn_ext hW hC' ⟨_, L, inO⟩ tA n2
  obtain ⟨qs, q1, q2, q3⟩ := led_list' hW o
  have hq := h.low qs q1 q2 fun a ha => (q3 a).mpr (iO a (sub a (hs a ha)))
  have tq : t ∈ qs := (q3 t).mpr ot
  have hi : i < ts.length := (List.getElem?_eq_some_iff.mp et).1
  have spl : ts = ts.take i ++ t :: ts.drop (i + 1) := by
    have := List.take_append_drop i ts
    rw [List.drop_eq_getElem_cons hi] at this
    rw [List.getElem?_eq_getElem hi] at et
    rw [Option.some.inj et] at this
    exact this.symm
  have e1 := pts_map hW q1
  have e2 := pts_map hW h.pts
  have lt : ltLs qs ps := by
    rw [e1, e2, spl]
    refine map_lt (f := fun t => if t ∈ qs then t else sw t) (g := fun t => if t ∈ ps then t else sw t) (ts.take i) (fun s hs => ?_) ?_
    · have : (s ∈ qs) ↔ (s ∈ ps) := by
        rcases set s hs with k | k
        · exact ⟨fun _ => inO s k, fun _ => (q3 s).mpr (iO s k)⟩
        · exact ⟨fun z => absurd ((q3 _).mpr (iO _ k)) (pts_anti hW q1 z), fun z => absurd (inO _ k) (pts_anti hW h.pts z)⟩
      show (if s ∈ qs then s else sw s) = (if s ∈ ps then s else sw s)
      by_cases z : s ∈ qs
      · rw [if_pos z, if_pos (this.mp z)]
      · rw [if_neg z, if_neg (fun k => z (this.mpr k))]
    · show ltT (if t ∈ qs then t else sw t) (if t ∈ ps then t else sw t)
      rw [if_pos tq, if_neg nt]
      exact .inl (hW.2 t tm).2.1
  rcases hq with z | z
  · rw [z] at tq; exact nt tq
  · exact ltLs_irr (ltLs_tr lt z)
theorem fst_of {n : Nat} {ts ps C : List Ar} (hW : WOk n ts) (hP : Pts ts ps) (inO : ∀ x ∈ C, x ∈ ps) (set : ∀ t ∈ ts, t ∈ C ∨ sw t ∈ C) : (ts.map fun t => if t ∈ C then t else sw t) = ps := by
  refine Eq.trans (List.map_congr_left fun t ht => ?_) (pts_map hW hP).symm
  by_cases z : t ∈ C
  · rw [if_pos z, if_pos (inO t z)]
  · rw [if_neg z, if_neg (fun k => pts_anti hW hP k (inO _ ((set t ht).resolve_left z)))]
end My

set_option Elab.async false
set_option linter.all false
set_option maxRecDepth 100000
namespace My
open PySem PySem.Spec PyProof.Rows L2 GxR
/-! ### all led pointings in order -/
theorem ltLs_appW : ∀ {a b c d : List Ar}, ltLs a b → ltLs (a ++ c) (b ++ d)
  | _ :: _, _ :: _, _, _, .inl h => .inl h
  | _ :: _, _ :: _, _, _, .inr ⟨e, h⟩ => .inr ⟨e, ltLs_appW h⟩
theorem ltLs_snocW : ∀ {a : List Ar} {x y : Ar}, ltT x y → ltLs (a ++ [x]) (a ++ [y])
  | [], _, _, h => .inl h
  | _ :: a, _, _, h => .inr ⟨rfl, ltLs_snocW (a := a) h⟩
theorem pw_uniL : ∀ {as bs : LL}, as.Pairwise ltLs → bs.Pairwise ltLs → (∀ t, t ∈ as ↔ t ∈ bs) → as = bs
  | [], [], _, _, _ => rfl
  | [], b :: bs, _, _, h => absurd ((h b).mpr List.mem_cons_self) List.not_mem_nil
  | a :: as, [], _, _, h => absurd ((h a).mp List.mem_cons_self) List.not_mem_nil
  | a :: as, b :: bs, ha, hb, h => by
    have ha' := List.pairwise_cons.mp ha
    have hb' := List.pairwise_cons.mp hb
    have e : a = b := by
      rcases List.mem_cons.mp ((h a).mp List.mem_cons_self) with e | m
      · exact e
      · rcases List.mem_cons.mp ((h b).mpr List.mem_cons_self) with e | m'
        · exact e.symm
        · exact absurd (ltLs_tr (ha'.1 b m') (hb'.1 a m)) ltLs_irr
    subst e
    congr 1
    refine pw_uniL ha'.2 hb'.2 fun t => ⟨fun m => ?_, fun m => ?_⟩
    · rcases List.mem_cons.mp ((h t).mp (List.mem_cons_of_mem _ m)) with e | m'
      · subst e; exact absurd (ha'.1 t m) ltLs_irr
      · exact m'
    · rcases List.mem_cons.mp ((h t).mpr (List.mem_cons_of_mem _ m)) with e | m'
      · subst e; exact absurd (hb'.1 t m) ltLs_irr
      · exact m'
theorem allF_pw {n : Nat} {ts : List Ar} (hW : WOk n ts) : ∀ l : List Ar, (∀ t ∈ l, t ∈ ts) → (allF ts l).Pairwise ltLs := by
  intro l
  induction l using snoc_ind with
  | h0 => intro _; exact List.pairwise_singleton _ _
  | hs l x ih =>
    intro hl
    have hx := hl x (List.mem_append_right _ (List.mem_singleton.mpr rfl))
    have i := ih fun t ht => hl t (List.mem_append_left _ ht)
    rw [allF_step]
    unfold allN
    rw [List.pairwise_flatMap]
    have lt : ltT x (sw x) := .inl (hW.2 x hx).2.1
    refine ⟨fun a _ => ?_, i.imp fun {a b} hab y hy z hz => ?_⟩
    · unfold addF
      rw [List.pairwise_append]
      refine ⟨?_, ?_, fun y hy z hz => ?_⟩
      · split
        · exact List.pairwise_singleton _ _
        · exact .nil
      · split
        · exact List.pairwise_singleton _ _
        · exact .nil
      · split at hy
        · split at hz
          · rw [List.mem_singleton.mp hy, List.mem_singleton.mp hz]; exact ltLs_snocW lt
          · exact absurd hz List.not_mem_nil
        · exact absurd hy List.not_mem_nil
    · rcases addF_mem.mp hy with ⟨_, rfl⟩ | ⟨_, rfl⟩ <;> rcases addF_mem.mp hz with ⟨_, rfl⟩ | ⟨_, rfl⟩ <;> exact ltLs_appW hab
theorem allL_pw {n : Nat} {ts : List Ar} (hW : WOk n ts) : (allL ts).Pairwise ltLs := (allF_pw hW ts fun _ h => h).filter _
/-- all led pointings that have C, in order -/
structure WayF (ts C : List Ar) (F : LL) : Prop where
  pw : F.Pairwise ltLs
  mm : ∀ ps, ps ∈ F ↔ (Pts ts ps ∧ ledB ps = true) ∧ ∀ x ∈ C, x ∈ ps
theorem WayF.all {n : Nat} {ts : List Ar} {F : LL} (hW : WOk n ts) (h : WayF ts [] F) : F = allL ts :=
  pw_uniL h.pw (allL_pw hW) fun ps => by
    rw [h.mm ps, mem_allL hW]
    exact ⟨fun z => z.1, fun z => ⟨z, fun x hx => absurd hx List.not_mem_nil⟩⟩
theorem allL_none {n : Nat} {ts : List Ar} (hW : WOk n ts) (h : ¬ Nb n ts) : allL ts = [] := by
  cases e : allL ts with
  | nil => rfl
  | cons a l =>
    have := (mem_allL hW).mp (show a ∈ allL ts by rw [e]; exact List.mem_cons_self)
    exact absurd (led_nb hW this.1 this.2) h
def opn (ts C : List Ar) : List Ar := ts.filter fun t => !decide (t ∈ C) && !decide (sw t ∈ C)
theorem mem_opn {ts C : List Ar} {t : Ar} : t ∈ opn ts C ↔ t ∈ ts ∧ t ∉ C ∧ sw t ∉ C := by
  unfold opn
  rw [List.mem_filter]
  simp only [Bool.and_eq_true, Bool.not_eq_true', decide_eq_false_iff_not]
theorem opn_step (ts C : List Ar) {i : Nat} {t : Ar} (e : ts[i]? = some t) : opn (ts.take (i + 1)) C = opn (ts.take i) C ++ (if (!decide (t ∈ C) && !decide (sw t ∈ C)) = true then [t] else []) := by
  unfold opn
  rw [List.take_add_one, e, List.filter_append]
  congr 1
  show [t].filter _ = _
  split
  · rename_i h; exact List.filter_cons_of_pos h
  · rename_i h; exact List.filter_cons_of_neg h
theorem opn_len (ts C : List Ar) : (opn ts C).length ≤ ts.length := List.length_filter_le _ _
theorem opn_less {ts C C' : List Ar} {t : Ar} {l : List Ar} (e : opn ts C = t :: l) (sub : ∀ x ∈ C, x ∈ C') (h : t ∈ C' ∨ sw t ∈ C') : (opn ts C').length < (opn ts C).length := by
  have a : ((opn ts C).filter fun x => !decide (x ∈ C') && !decide (sw x ∈ C')).length < (opn ts C).length := by
    rw [List.length_filter_lt_length_iff_exists]
    refine ⟨t, by rw [e]; exact List.mem_cons_self, ?_⟩
    rcases h with h | h <;> simp [h]
  have b : opn ts C' = (opn ts C).filter fun x => !decide (x ∈ C') && !decide (sw x ∈ C') := by
    unfold opn
    rw [List.filter_filter]
    refine List.filter_congr fun x _ => ?_
    by_cases h1 : x ∈ C'
    · simp [h1]
    · by_cases h2 : sw x ∈ C'
      · simp [h2]
      · have g1 : x ∉ C := fun z => h1 (sub _ z)
        have g2 : sw x ∉ C := fun z => h2 (sub _ z)
        simp [h1, h2, g1, g2]
  rw [b]; exact a
theorem wf_eq {n : Nat} {ts C ps : List Ar} (hW : WOk n ts) (all : opn ts C = []) (hP : Pts ts ps) (hl : ledB ps = true) (hC : ∀ x ∈ C, x ∈ ps) : (ts.map fun t => if t ∈ C then t else sw t) = ps := by
  refine Eq.trans (List.map_congr_left fun t ht => ?_) (pts_map hW hP).symm
  by_cases h : t ∈ C
  · rw [if_pos h, if_pos (hC t h)]
  · have hs : sw t ∈ C := by
      refine Classical.byContradiction fun k => ?_
      have : t ∈ opn ts C := mem_opn.mpr ⟨ht, h, k⟩
      rw [all] at this; cases this
    have nt : t ∉ ps := fun k => pts_anti hW hP k (hC _ hs)
    rw [if_neg h, if_neg nt]
theorem wf_done {n : Nat} {ts C : List Ar} (hW : WOk n ts) (all : opn ts C = []) (f : Feas ts C) : WayF ts C [ts.map fun t => if t ∈ C then t else sw t] := by
  obtain ⟨O, L, i⟩ := f
  obtain ⟨p0, h1, h2, h3⟩ := led_list' hW L
  have e0 := wf_eq hW all h1 h2 fun x hx => (h3 x).mpr (i x hx)
  refine ⟨List.pairwise_singleton _ _, fun ps => ?_⟩
  rw [List.mem_singleton]
  constructor
  · intro e
    rw [e, e0]
    exact ⟨⟨h1, h2⟩, fun x hx => (h3 x).mpr (i x hx)⟩
  · rintro ⟨⟨a, b⟩, c⟩
    exact (wf_eq hW all a b c).symm
theorem wf_split {n : Nat} {ts C C1 C2 : List Ar} {F1 F2 : LL} {t : Ar} {l : List Ar} (hW : WOk n ts) (e : opn ts C = t :: l) (s1 : ∀ x ∈ C, x ∈ C1) (m1 : t ∈ C1) (o1 : ∀ O, Over ts C t O → ∀ x ∈ C1, O x)
    (s2 : ∀ x ∈ C, x ∈ C2) (m2 : sw t ∈ C2) (o2 : ∀ O, Over ts C (sw t) O → ∀ x ∈ C2, O x) (w1 : WayF ts C1 F1) (w2 : WayF ts C2 F2) : WayF ts C (F1 ++ F2) := by
  have tm : t ∈ ts := (mem_opn.mp (show t ∈ opn ts C by rw [e]; exact List.mem_cons_self)).1
  have tb := (hW.2 t tm).2.1
  constructor
  · rw [List.pairwise_append]
    refine ⟨w1.pw, w2.pw, fun p hp q hq => ?_⟩
    obtain ⟨⟨a1, a2⟩, a3⟩ := (w1.mm p).mp hp
    obtain ⟨⟨b1, b2⟩, b3⟩ := (w2.mm q).mp hq
    -- the first place where they differ
    obtain ⟨pre, r, spl, hpre⟩ : ∃ pre r, ts = pre ++ t :: r ∧ ∀ s ∈ pre, s ∈ C ∨ sw s ∈ C := by
      have key : ∀ us : List Ar, opn us C = t :: l → ∃ pre r, us = pre ++ t :: r ∧ ∀ s ∈ pre, s ∈ C ∨ sw s ∈ C := by
        intro us
        induction us with
        | nil => intro h; cases h
        | cons u us ih =>
          intro h
          by_cases hu : (!decide (u ∈ C) && !decide (sw u ∈ C)) = true
          · have : opn (u :: us) C = u :: opn us C := List.filter_cons_of_pos hu
            rw [this] at h
            exact ⟨[], us, by rw [(List.cons.inj h).1]; rfl, fun s hs => absurd hs List.not_mem_nil⟩
          · have : opn (u :: us) C = opn us C := List.filter_cons_of_neg hu
            rw [this] at h
            obtain ⟨pre, r, h1, h2⟩ := ih h
            refine ⟨u :: pre, r, by rw [h1]; rfl, fun s hs => ?_⟩
            rcases List.mem_cons.mp hs with z | z
            · subst z
              by_cases h3 : s ∈ C
              · exact .inl h3
              · refine .inr (Classical.byContradiction fun h4 => hu ?_)
                rw [decide_eq_false h3, decide_eq_false h4]; rfl
            · exact h2 s z
      exact key ts e
    have ep := pts_map hW a1
    have eq := pts_map hW b1
    rw [ep, eq, spl]
    refine map_lt pre (fun s hs => ?_) ?_
    · rcases hpre s hs with h | h
      · rw [if_pos (a3 _ (s1 _ h)), if_pos (b3 _ (s2 _ h))]
      · rw [if_neg (fun z => pts_anti hW a1 z (a3 _ (s1 _ h))), if_neg (fun z => pts_anti hW b1 z (b3 _ (s2 _ h)))]
    · rw [if_pos (a3 _ m1), if_neg (fun z => pts_anti hW b1 z (b3 _ m2))]
      exact .inl tb
  · intro ps
    rw [List.mem_append, w1.mm, w2.mm]
    constructor
    · rintro (⟨h1, h2⟩ | ⟨h1, h2⟩)
      · exact ⟨h1, fun x hx => h2 x (s1 x hx)⟩
      · exact ⟨h1, fun x hx => h2 x (s2 x hx)⟩
    · rintro ⟨⟨h1, h2⟩, h3⟩
      have L := pts_led hW h1 h2
      rcases L.one t.1 t.2 ((ar_iff hW).mp (ar_t hW tm)) with k | k
      · exact .inl ⟨⟨h1, h2⟩, o1 _ ⟨L, h3, k⟩⟩
      · exact .inr ⟨⟨h1, h2⟩, o2 _ ⟨L, h3, k⟩⟩
/-! ### how many they are at most -/
def perms : Nat → List (List Int)
  | 0 => [[]]
  | n + 1 => (perms n).flatMap fun l => (List.range (n + 1)).map fun k => l.take k ++ (n : Int) :: l.drop k
theorem mem_perms : ∀ (n : Nat) (r : List Int), r.Perm (up n) → r ∈ perms n
  | 0, r, h => by
    have : r = [] := List.eq_nil_of_length_eq_zero (by have := h.length_eq; rw [up_len] at this; exact this)
    rw [this]; exact List.mem_singleton.mpr rfl
  | n + 1, r, h => by
    rw [up_succ] at h
    have m : (n : Int) ∈ r := h.mem_iff.mpr (List.mem_append_right _ (List.mem_singleton.mpr rfl))
    obtain ⟨s, t, rfl⟩ := List.append_of_mem m
    have p : (s ++ t).Perm (up n) := by
      have h1 : ((n : Int) :: (s ++ t)).Perm ((n : Int) :: up n) := (List.perm_middle.symm.trans h).trans (List.perm_append_comm (l₁ := up n) (l₂ := [(n : Int)]))
      exact h1.cons_inv
    have i := mem_perms n _ p
    have sl : s.length ≤ n := by
      have := p.length_eq
      rw [up_len, List.length_append] at this
      omega
    refine List.mem_flatMap.mpr ⟨s ++ t, i, List.mem_map.mpr ⟨s.length, List.mem_range.mpr (by omega), ?_⟩⟩
    rw [List.take_left', List.drop_left'] <;> rfl
theorem perms_few : ∀ n : Nat, n < 7 → (perms n).length ≤ 720 := by decide +kernel
def rowP (ts : List Ar) (r : List Int) : List Ar := ts.map fun t => if r.idxOf t.1 < r.idxOf t.2 then t else sw t
theorem led_row {n : Nat} {ts ps : List Ar} (hW : WOk n ts) (hP : Pts ts ps) (hl : ledB ps = true) : ∃ r, r.Perm (up n) ∧ ps = rowP ts r := by
  have L := pts_led hW hP hl
  obtain ⟨f, f1, f2⟩ := Tr.ex_rank (fun x y => (x, y) ∈ ps) L.tr (fun a h => L.anti a a h h) (up n).length (up n) (Nat.le_refl _)
  refine ⟨(up n).mergeSort fun a b => decide (f a ≤ f b), List.mergeSort_perm _ _, ?_⟩
  have pm := List.mergeSort_perm (up n) fun a b => decide (f a ≤ f b)
  have pw := List.pairwise_mergeSort (le := fun a b => decide (f a ≤ f b)) (fun a b c h1 h2 => decide_eq_true (Nat.le_trans (of_decide_eq_true h1) (of_decide_eq_true h2))) (fun a b => by
    rcases Nat.le_total (f a) (f b) with h | h
    · rw [decide_eq_true h]; rfl
    · rw [decide_eq_true h, Bool.or_true]) (up n)
  generalize (up n).mergeSort (fun a b => decide (f a ≤ f b)) = r at pm pw ⊢
  have inU : ∀ {a b : Int}, (a, b) ∈ ps → a ∈ up n ∧ b ∈ up n := fun {a b} h => ⟨tb_fin hW _ _ (L.ar _ h), tb_fin hW _ _ ((gr hW).sy (L.ar _ h))⟩
  have bef : ∀ {a b : Int}, (a, b) ∈ ps → r.idxOf a < r.idxOf b := fun {a b} h => by
    obtain ⟨ha, hb⟩ := inU h
    have lt := f2 a b ha hb h
    have ma := pm.mem_iff.mpr ha
    have mb := pm.mem_iff.mpr hb
    have la := List.idxOf_lt_length_of_mem ma
    have lb := List.idxOf_lt_length_of_mem mb
    rcases Nat.lt_trichotomy (r.idxOf a) (r.idxOf b) with z | z | z
    · exact z
    · exfalso
      have e1 : r[r.idxOf a] = a := List.getElem_idxOf la
      have e2 : r[r.idxOf b] = b := List.getElem_idxOf lb
      have : a = b := by rw [← e1, ← e2]; congr 1
      subst this; exact absurd lt (Nat.lt_irrefl _)
    · exfalso
      have := (List.pairwise_iff_getElem.mp pw) _ _ lb la z
      rw [List.getElem_idxOf la, List.getElem_idxOf lb] at this
      have := of_decide_eq_true this
      omega
  unfold rowP
  refine (pts_map hW hP).trans (List.map_congr_left fun t ht => ?_)
  by_cases h : t ∈ ps
  · rw [if_pos h, if_pos (bef h)]
  · have hs : sw t ∈ ps := (L.one t.1 t.2 ((ar_iff hW).mp (ar_t hW ht))).resolve_left h
    have := bef (a := t.2) (b := t.1) hs
    rw [if_neg h, if_neg (by omega)]
theorem allL_few {n : Nat} {ts : List Ar} (hW : WOk n ts) (h : ts.length ≤ 12 ∨ n < 7) : (allL ts).length ≤ 10000 := by
  rcases h with h | h
  · have h1 := allF_len ts ts
    have h2 : 2 ^ ts.length ≤ 2 ^ 12 := Nat.pow_le_pow_right (by decide) h
    have h3 : (allL ts).length ≤ (allF ts ts).length := List.length_filter_le _ _
    have h4 : 2 ^ 12 ≤ 10000 := by decide
    omega
  · have nd : (allL ts).Nodup := (allL_pw hW).imp fun h e => by subst e; exact ltLs_irr h
    have := nd_len (m := (perms n).map (rowP ts)) nd fun ps hps => by
      obtain ⟨h1, h2⟩ := (mem_allL hW).mp hps
      obtain ⟨r, hr, e⟩ := led_row hW h1 h2
      exact List.mem_map.mpr ⟨r, mem_perms n r hr, e.symm⟩
    rw [List.length_map] at this
    have := perms_few n h
    omega
theorem led_all {n : Nat} {ts : List Ar} {F : LL} (hW : WOk n ts) (h : WayF ts [] F) (k : ts.length ≤ 12 ∨ n < 7) : F.length ≤ 10000 := by rw [h.all hW]; exact allL_few hW k
/-- as many as are told are few -/
theorem wf_len {n : Nat} {ts C : List Ar} {F : LL} (hW : WOk n ts) (tl : ts.length ≤ 15) (h : WayF ts C F) : F.length ≤ 40000 := by
  have nd : F.Nodup := h.pw.imp fun h e => by subst e; exact ltLs_irr h
  have a := nd_len (m := allL ts) nd fun ps hps => (mem_allL hW).mpr ((h.mm ps).mp hps).1
  have h1 := allF_len ts ts
  have h2 : 2 ^ ts.length ≤ 2 ^ 15 := Nat.pow_le_pow_right (by decide) tl
  have h3 : (allL ts).length ≤ (allF ts ts).length := List.length_filter_le _ _
  have h4 : 2 ^ 15 ≤ 40000 := by decide
  omega
end My

set_option Elab.async false
set_option linter.all false
set_option maxRecDepth 100000
set_option pp.maxSteps 600
namespace My
open PySem PySem.Spec PyProof.Rows L2 GxR
theorem tb_ti {n : Nat} {ts : List Ar} (hW : WOk n ts) : TB ts = TI ts (up n) := funext fun a => funext fun b => propext (by
  unfold TB TI
  rw [nrB_adj hW]
  constructor
  · intro h
    have l := nrB_lt hW (a := a) (b := b) (by rw [nrB_adj hW]; exact h)
    exact ⟨mem_up.mpr ⟨l.1, l.2.1⟩, mem_up.mpr ⟨l.2.2.1, l.2.2.2.1⟩, h⟩
  · exact fun h => h.2.2)
theorem adj_irG {n : Nat} {ts : List Ar} (hW : WOk n ts) (x : Int) : adjB ts x x = false := by
  cases e : adjB ts x x with
  | false => rfl
  | true =>
    rw [← nrB_adj hW] at e
    exact absurd rfl (nrB_lt hW e).2.2.2.2
theorem allL_nd {n : Nat} {ts : List Ar} (hW : WOk n ts) : (allL ts).Nodup := List.nodup_iff_pairwise_ne.mpr ((allL_pw hW).imp fun {a b} h e => by rw [e] at h; exact ltLs_irr h)
/-- the led pointings, as sets of arrows -/
theorem cnt_allL {n : Nat} {ts : List Ar} (hW : WOk n ts) : CntP (LedI ts (up n)) (allL ts).length := by
  have e := tb_ti hW
  refine CntP.map (P := fun ps => ps ∈ allL ts) (fun ps x => x ∈ ps) (fun O => ⟨fun hO => ?_, ?_⟩) (fun ps qs hp hq z => ?_) ⟨allL ts, allL_nd hW, rfl, fun _ => Iff.rfl⟩
  · change Tr.Led (TI ts (up n)) O at hO
    rw [← e] at hO
    haveI : ∀ x, Decidable (O x) := fun x => Classical.propDecidable _
    have L : Tr.Led (TB ts) (fun x => decide (O x) = true) := by
      rw [show (fun x => decide (O x) = true) = O from funext fun x => decide_eq_true_eq]
      exact hO
    have h1 := allF_has hW (O := fun x => decide (O x)) L ts fun _ h => h
    have h2 := allF_pts hW ts (fun _ h => h) _ h1
    have mem : ∀ x, x ∈ ts.map (chs fun x => decide (O x)) ↔ O x := fun x => by
      rw [List.mem_map]
      constructor
      · rintro ⟨t, ht, rfl⟩
        have tt : TB ts t.1 t.2 := (ar_iff hW).mp (ar_t hW ht)
        unfold chs
        by_cases k : O t
        · rw [if_pos (decide_eq_true k)]; exact k
        · rw [if_neg (fun z => k (of_decide_eq_true z))]
          exact (hO.one t.1 t.2 tt).resolve_left k
      · intro k
        rcases (mem_arS hW).mp ((ar_iff hW).mpr (hO.ar x k)) with m | m
        · exact ⟨x, m, by unfold chs; rw [if_pos (decide_eq_true k)]⟩
        · refine ⟨sw x, m, ?_⟩
          have ns : ¬ O (sw x) := hO.anti x.1 x.2 k
          show (if decide (O (sw x)) = true then sw x else sw (sw x)) = x
          rw [if_neg (fun z => ns (of_decide_eq_true z))]; rfl
    refine ⟨_, (mem_allL hW).mpr ⟨h2, led_br'.mpr fun ⟨a, b, c⟩ ⟨k1, k2, k3⟩ => k3 ((mem _).mpr (hO.tr a b c ((mem _).mp k1) ((mem _).mp k2)))⟩, funext fun x => propext (mem x).symm⟩
  · rintro ⟨ps, hp, rfl⟩
    obtain ⟨h1, h2⟩ := (mem_allL hW).mp hp
    have := pts_led hW h1 h2
    rw [e] at this
    exact this
  · have h1 := pts_map hW ((mem_allL hW).mp hp).1
    have h2 := pts_map hW ((mem_allL hW).mp hq).1
    have k : ∀ t, (t ∈ ps) = (t ∈ qs) := fun t => congrFun z t
    rw [h1, h2]
    refine List.map_congr_left fun t _ => ?_
    by_cases m : t ∈ ps
    · rw [if_pos m, if_pos (by rw [← k t]; exact m)]
    · rw [if_neg m, if_neg (by rw [← k t]; exact m)]
/-- what count_ways tells is how many led pointings there are -/
theorem count_all {n : Nat} {ts : List Ar} {c : Int} (hW : WOk n ts) (h : (n = 0 ∧ c = 1) ∨ (0 < n ∧ Nb n ts ∧ CwI ts 12 (up n) c) ∨ (0 < n ∧ ¬ Nb n ts ∧ c = 0)) : c = ((allL ts).length : Int) := by
  rcases h with ⟨rfl, rfl⟩ | ⟨n0, nb, h⟩ | ⟨n0, nb, rfl⟩
  · have t0 : ts = [] := by
      cases ts with
      | nil => rfl
      | cons t ts => have := hW.2 t List.mem_cons_self; omega
    subst t0; rfl
  · obtain ⟨N, rfl, k⟩ := cwI_cnt (adj_irG hW) h ((nb_led hW).mp nb)
    rw [k.uniq (cnt_allL hW)]
  · rw [allL_none hW nb]; rfl
/-! ### the web of the first places of the parts -/
theorem part_adj {n : Nat} {ts : List Ar} {pl : List Int} (hp : Ris n pl) (hW : WOk n ts) {i j : Nat} {a b : Int} (ea : pl[i]? = some a) (eb : pl[j]? = some b) : adjB (partL ts pl) (i : Int) (j : Int) = adjB ts a b := by
  have key : ∀ {i j : Nat} {a b : Int}, pl[i]? = some a → pl[j]? = some b → (((i : Int), (j : Int)) ∈ partL ts pl ↔ (a, b) ∈ ts) := fun {i j a b} ea eb => by
    rw [mem_part hp.nodup]
    constructor
    · rintro ⟨i', j', a', b', e, e1, e2, h⟩
      have i1 := congrArg Prod.fst e
      have j1 := congrArg Prod.snd e
      dsimp only at i1 j1
      have i2 : i = i' := by omega
      have j2 : j = j' := by omega
      subst i2; subst j2
      rw [ea] at e1
      rw [eb] at e2
      cases e1; cases e2
      exact h
    · exact fun h => ⟨i, j, a, b, rfl, ea, eb, h⟩
  have hw' := part_wok hp hW
  unfold adjB
  refine decide_eq_decide.mpr ?_
  rw [tieO_tied hw', tieO_tied hW, key ea eb, key eb ea]
theorem mod_two {ts : List Ar} {I : List Int} {Is : List (List Int)} (pt : PartI I Is) (nI : I.Nodup) (md : ∀ S ∈ Is, ModI ts I S) {S T : List Int} (hS : S ∈ Is) (hT : T ∈ Is) (ne : S ≠ T) {x x' y y' : Int} (xS : x ∈ S) (xS' : x' ∈ S) (yT : y ∈ T) (yT' : y' ∈ T) : adjB ts x y = adjB ts x' y' := by
  have h1 := md S hS y (pt.sub hT y yT) (fun z => ne (pt.dis nI S hS T hT y z yT)) x xS x' xS'
  have h2 := md T hT x' (pt.sub hS x' xS') (fun z => ne (pt.dis nI S hS T hT x' xS' z)) y yT y' yT'
  rw [adj_comm, h1, adj_comm, h2]
theorem crs_ex {n : Nat} {ts : List Ar} {I : List Int} {Is : List (List Int)} (hW : WOk n ts) (hr : Ris n (hds Is)) (pt : PartI I Is) (nI : I.Nodup) (md : ∀ S ∈ Is, ModI ts I S) : (∃ X, CrsP ts Is X) ↔ Nb (hds Is).length (partL ts (hds Is)) := by
  have di := pt.disI nI
  have ndI := pt.nods nI
  have hl : (hds Is).length = Is.length := List.length_map _
  have hat : ∀ {i : Nat} {S : List Int}, Is[i]? = some S → (hds Is)[i]? = some (S.headD 0) ∧ S ∈ Is ∧ S.headD 0 ∈ S := fun {i S} e => ⟨by unfold hds; rw [List.getElem?_map, e]; rfl, List.mem_of_getElem? e, hd_mem (pt.ne S (List.mem_of_getElem? e))⟩
  have inU : ∀ {i : Nat} {S : List Int}, Is[i]? = some S → (i : Int) ∈ up (hds Is).length := fun {i S} e => by
    have := (List.getElem?_eq_some_iff.mp e).1
    exact mem_up.mpr ⟨by omega, by omega⟩
  have ix : ∀ {i j : Nat} {S : List Int}, Is[i]? = some S → Is[j]? = some S → i = j := fun {i j S} e f => bf_ix ndI e f
  have adj : ∀ {i j : Nat} {S T : List Int} {x y : Int}, Is[i]? = some S → Is[j]? = some T → S ≠ T → x ∈ S → y ∈ T → adjB (partL ts (hds Is)) (i : Int) (j : Int) = adjB ts x y := fun {i j S T x y} e f ne xS yT => by
    rw [part_adj hr hW (hat e).1 (hat f).1]
    exact mod_two pt nI md (hat e).2.1 (hat f).2.1 ne (hat e).2.2 xS (hat f).2.2 yT
  have uix : ∀ x ∈ up (hds Is).length, ∃ (i : Nat) (S : List Int), x = (i : Int) ∧ Is[i]? = some S := fun x hx => by
    have := mem_up.mp hx
    have h1 := this.1
    have h2 := this.2
    exact ⟨x.toNat, _, by omega, List.getElem?_eq_getElem (by omega)⟩
  rw [nb_led (part_wok hr hW)]
  constructor
  · rintro ⟨X, hX⟩
    refine ⟨fun z => ∃ (i j : Nat) (S T : List Int), z = ((i : Int), (j : Int)) ∧ Is[i]? = some S ∧ Is[j]? = some T ∧ X (S.headD 0, T.headD 0), ?_, ?_, ?_, ?_⟩
    · rintro _ ⟨i, j, S, T, rfl, e, f, h⟩
      have ne : S ≠ T := fun z => by
        subst z; exact crs_far di hX h S (hat e).2.1 (hat e).2.2 (hat f).2.2
      exact ⟨inU e, inU f, by dsimp only; rw [adj e f ne (hat e).2.2 (hat f).2.2]; exact (hX.ar _ _ h).1⟩
    · rintro x y ⟨hx, hy, e⟩
      obtain ⟨i, S, rfl, eS⟩ := uix x hx
      obtain ⟨j, T, rfl, eT⟩ := uix y hy
      have ne : S ≠ T := fun z => by
        subst z
        obtain rfl := ix eS eT
        rw [adj_irG (part_wok hr hW)] at e; cases e
      rw [adj eS eT ne (hat eS).2.2 (hat eT).2.2] at e
      rcases hX.one S (hat eS).2.1 T (hat eT).2.1 ne _ (hat eS).2.2 _ (hat eT).2.2 e with k | k
      · exact .inl ⟨i, j, S, T, rfl, eS, eT, k⟩
      · exact .inr ⟨j, i, T, S, rfl, eT, eS, k⟩
    · rintro x y ⟨i, j, S, T, e0, e, f, h⟩ ⟨i', j', S', T', e0', e', f', h'⟩
      have q1 := congrArg Prod.fst e0
      have q2 := congrArg Prod.snd e0
      have q3 := congrArg Prod.fst e0'
      have q4 := congrArg Prod.snd e0'
      dsimp only at q1 q2 q3 q4
      have : i = j' := by omega
      subst this
      have : j = i' := by omega
      subst this
      rw [e] at f'
      rw [f] at e'
      cases f'; cases e'
      exact hX.anti _ _ h h'
    · rintro x y z ⟨i, j, S, T, e0, e, f, h⟩ ⟨i', j', S', T', e0', e', f', h'⟩
      have q1 := congrArg Prod.fst e0
      have q2 := congrArg Prod.snd e0
      have q3 := congrArg Prod.fst e0'
      have q4 := congrArg Prod.snd e0'
      dsimp only at q1 q2 q3 q4
      have : j = i' := by omega
      subst this
      rw [f] at e'
      cases e'
      refine ⟨i, j', S, T', by rw [q1, q4], e, f', hX.tr _ _ _ h h' fun A hA a1 a2 => ?_⟩
      have s1 := di S (hat e).2.1 A hA _ (hat e).2.2 a1
      have s2 := di T' (hat f').2.1 A hA _ (hat f').2.2 a2
      have : S = T' := s1.trans s2.symm
      subst this
      exact hX.anti _ _ h h'
  · rintro ⟨O, hO⟩
    have far : ∀ {i j : Nat} {S T : List Int}, Is[i]? = some S → Is[j]? = some T → O ((i : Int), (j : Int)) → S ≠ T := fun {i j S T} e f h z => by
      subst z
      obtain rfl := ix e f
      exact hO.anti _ _ h h
    have ofx : ∀ {x : Int} {S T : List Int} {i j : Nat}, Is[i]? = some S → Is[j]? = some T → x ∈ S → x ∈ T → i = j ∧ S = T := fun {x S T i j} e f xS xT => by
      have := di S (hat e).2.1 T (hat f).2.1 x xS xT
      subst this
      exact ⟨ix e f, rfl⟩
    refine ⟨fun z => ∃ (i j : Nat) (S T : List Int), Is[i]? = some S ∧ Is[j]? = some T ∧ z.1 ∈ S ∧ z.2 ∈ T ∧ O ((i : Int), (j : Int)), ?_, ?_, ?_, ?_, ?_⟩
    · rintro a b ⟨i, j, S, T, e, f, aS, bT, h⟩
      have ne := far e f h
      exact ⟨by rw [← adj e f ne aS bT]; exact (hO.ar _ h).2.2, S, (hat e).2.1, T, (hat f).2.1, ne, aS, bT⟩
    · intro S hS T hT ne a aS b bT k
      obtain ⟨i, e⟩ := List.getElem?_of_mem hS
      obtain ⟨j, f⟩ := List.getElem?_of_mem hT
      rw [← adj e f ne aS bT] at k
      rcases hO.one _ _ ⟨inU e, inU f, k⟩ with o | o
      · exact .inl ⟨i, j, S, T, e, f, aS, bT, o⟩
      · exact .inr ⟨j, i, T, S, f, e, bT, aS, o⟩
    · rintro a b ⟨i, j, S, T, e, f, aS, bT, h⟩ ⟨i', j', S', T', e', f', bS, aT, h'⟩
      dsimp only at aS bT bS aT
      obtain ⟨q1, _⟩ := ofx e f' aS aT
      obtain ⟨q2, _⟩ := ofx f e' bT bS
      subst q1; subst q2
      exact hO.anti _ _ h h'
    · rintro S hS T hT ne a aS a' aS' b bT b' bT' ⟨i, j, S1, T1, e, f, a1, b1, h⟩
      dsimp only at a1 b1
      obtain ⟨k, eS⟩ := List.getElem?_of_mem hS
      obtain ⟨l, eT⟩ := List.getElem?_of_mem hT
      obtain ⟨q1, _⟩ := ofx e eS a1 aS
      obtain ⟨q2, _⟩ := ofx f eT b1 bT
      subst q1; subst q2
      exact ⟨i, j, S, T, eS, eT, aS', bT', h⟩
    · rintro a b c ⟨i, j, S, T, e, f, aS, bT, h⟩ ⟨i', j', S', T', e', f', bS, cT, h'⟩ _
      dsimp only at aS bT bS cT
      obtain ⟨q1, _⟩ := ofx f e' bT bS
      subst q1
      exact ⟨i, j', S, T', e, f', aS, cT, hO.tr _ _ _ h h'⟩
/-- a node's own number of patterns -/
theorem kind_crs {n : Nat} {ts : List Ar} {I : List Int} {w : Str} {Is : List (List Int)} (hW : WOk n ts) (hr : Ris n (hds Is)) (r : I.Pairwise (· < ·)) (l2 : 2 ≤ I.length) (kd : KindX ts I w Is) :
    (w = "apart" ∧ CntP (CrsP ts Is) 1) ∨ (w = "all" ∧ CntP (CrsP ts Is) (factT Is.length)) ∨ (w = "close" ∧ (Nb (hds Is).length (partL ts (hds Is)) → CntP (CrsP ts Is) 2) ∧ (¬ Nb (hds Is).length (partL ts (hds Is)) → CntP (CrsP ts Is) 0)) := by
  have ir := adj_irG hW
  have nI : I.Nodup := r.imp fun h => Int.ne_of_lt h
  have pt := kd.part r l2
  rcases kd with ⟨rfl, f1, f2⟩ | ⟨rfl, _, f1, f2⟩ | ⟨rfl, ⟨F1, a1, a2⟩, ⟨F2, b1, b2⟩, f1⟩
  · exact .inl ⟨rfl, crs_apart nI pt f1⟩
  · exact .inr (.inl ⟨rfl, crs_all nI pt f1⟩)
  · have cn := closeN ir r l2 (whl_of a1 b1 a2 b2) f1 pt
    have ex := crs_ex hW hr pt nI cn.md
    exact .inr (.inr ⟨rfl, fun h => crs_close ir nI pt cn (ex.mpr h), fun h => crs_none (X0 := True) fun z => h (ex.mp z)⟩)
theorem cnt_one {ts : List Ar} (ir : ∀ x, adjB ts x x = false) (i : Int) : CntP (LedI ts [i]) 1 := by
  refine ⟨[fun _ => False], by simp, rfl, fun O => ?_⟩
  have no : ∀ a b, ¬ TI ts [i] a b := fun a b ⟨ha, hb, e⟩ => by
    rw [List.mem_singleton.mp ha, List.mem_singleton.mp hb, ir] at e
    cases e
  rw [List.mem_singleton]
  constructor
  · rintro rfl
    exact ⟨fun x h => h.elim, fun a b t => absurd t (no a b), fun a b h => h.elim, fun a b c h => h.elim⟩
  · intro h
    exact funext fun x => propext ⟨fun z => no _ _ (h.ar x z), fun z => z.elim⟩
theorem kind_ord {ts : List Ar} {I : List Int} {w : Str} {Is : List (List Int)} (r : I.Pairwise (· < ·)) (l2 : 2 ≤ I.length) (kd : KindX ts I w Is) : Is.Pairwise HdLt := by
  rcases kd with ⟨rfl, f1, f2⟩ | ⟨rfl, _, f1, f2⟩ | ⟨rfl, ⟨F1, a1, a2⟩, ⟨F2, b1, b2⟩, f1⟩
  · exact f1.ord r
  · exact f1.ord r
  · exact f1.ord (whl_of a1 b1 a2 b2) r (two_of r l2)
theorem kind_ris {n : Nat} {ts : List Ar} {I : List Int} {w : Str} {Is : List (List Int)} (r : I.Pairwise (· < ·)) (b : ∀ x ∈ I, 0 ≤ x ∧ x < (n : Int)) (l2 : 2 ≤ I.length) (kd : KindX ts I w Is) : Ris n (hds Is) := by
  have pt := kd.part r l2
  refine ⟨hds_rise pt (kind_ord r l2 kd), fun p hp => ?_⟩
  unfold hds at hp
  obtain ⟨S, hS, rfl⟩ := List.mem_map.mp hp
  exact b _ (pt.sub hS _ (hd_mem (pt.ne S hS)))
/-- there is a number of led pointings of each part of the tree -/
theorem cnt_ex {n : Nat} {ts : List Ar} {H : Hp} (hW : WOk n ts) : ∀ {m : Nat} {v : V} {I : List Int}, TrX ts H m v I → (∀ x ∈ I, 0 ≤ x ∧ x < (n : Int)) → ∃ N, CntP (LedI ts I) N
  | 0, _, _, h, _ => h.elim
  | m + 1, v, I, h, b => by
    rcases h with ⟨p, i, _, _, rfl⟩ | ⟨p, q, w, vs, Is, _, _, ⟨r, l2⟩, kd, _, ch⟩
    · exact ⟨1, cnt_one (adj_irG hW) i⟩
    · have nI : I.Nodup := r.imp fun h => Int.ne_of_lt h
      have pt := kd.part r l2
      have key : ∀ (vs : List V) (Js : List (List Int)), All2 (TrX ts H m) vs Js → (∀ S ∈ Js, S ∈ Is) → ∃ ns : List Nat, ns.length = Js.length ∧ ∀ (i : Nat) (S : List Int) (k : Nat), Js[i]? = some S → ns[i]? = some k → CntP (LedI ts S) k := fun vs => by
        induction vs with
        | nil =>
          intro Js h _
          cases Js with
          | nil => exact ⟨[], rfl, fun i S k e => by cases e⟩
          | cons S Js => exact h.elim
        | cons v vs ih =>
          intro Js h sb
          cases Js with
          | nil => exact h.elim
          | cons S Js =>
            obtain ⟨N, hN⟩ := cnt_ex hW h.1 fun x hx => b x (pt.sub (sb S List.mem_cons_self) x hx)
            obtain ⟨ns, l, k⟩ := ih Js h.2 fun T hT => sb T (List.mem_cons_of_mem _ hT)
            refine ⟨N :: ns, by rw [List.length_cons, List.length_cons, l], fun i S' y' e f => ?_⟩
            cases i with
            | zero => cases e; cases f; exact hN
            | succ i => exact k i S' y' e f
      obtain ⟨ns, l, k⟩ := key vs Is ch fun _ h => h
      have co := kind_con (adj_irG hW) r l2 kd
      obtain ⟨c, hc⟩ : ∃ c, CntP (CrsP ts Is) c := by
        rcases kind_crs hW (kind_ris r b l2 kd) r l2 kd with ⟨_, h⟩ | ⟨_, h⟩ | ⟨_, h1, h2⟩
        · exact ⟨_, h⟩
        · exact ⟨_, h⟩
        · by_cases nb : Nb (hds Is).length (partL ts (hds Is))
          · exact ⟨_, h1 nb⟩
          · exact ⟨_, h2 nb⟩
      exact ⟨_, cnt_node pt nI co hc l k⟩
end My

set_option Elab.async false
set_option linter.all false
set_option maxRecDepth 100000
set_option pp.maxSteps 600
namespace My
open PySem PySem.Spec PyProof.Rows L2 GxR
def TrXE (ts : List Ar) (H : Hp) (v : V) (J : List Int) : Prop := ∃ m, m ≤ 13 ∧ TrX ts H m v J
theorem TrXE.mono {ts : List Ar} {H H' : Hp} {v : V} {J : List Int} (h : TrXE ts H v J) (t : Tst H H') : TrXE ts H' v J := by
  obtain ⟨m, a, b⟩ := h
  exact ⟨m, a, b.mono t⟩
theorem TrXE.tre {ts : List Ar} {H : Hp} {v : V} {J : List Int} (h : TrXE ts H v J) : TrE H v J := by
  obtain ⟨m, a, b⟩ := h
  exact ⟨m, by omega, b.at⟩
/-- a part of the tree and how many led pointings it has -/
def NumT (ts : List Ar) (H : Hp) (v : V) (x : List Int × Nat) : Prop := TrXE ts H v x.1 ∧ CntP (LedI ts x.1) x.2
theorem NumT.mono {ts : List Ar} {H H' : Hp} {v : V} {x : List Int × Nat} (t : Tst H H') (h : NumT ts H v x) : NumT ts H' v x := ⟨h.1.mono t, h.2⟩
def prodN (l : List Nat) : Nat := l.foldr (· * ·) 1
theorem prodN_app : ∀ (a b : List Nat), prodN (a ++ b) = prodN a * prodN b
  | [], b => by show prodN b = 1 * prodN b; rw [Nat.one_mul]
  | x :: a, b => by
    show x * prodN (a ++ b) = x * prodN a * prodN b
    rw [prodN_app a b, Nat.mul_assoc]
theorem prodN_one (x : Nat) : prodN [x] = x := Nat.mul_one x
def exS (Ks : List (List Int)) : Nat := (Ks.map fun K => K.length - 1).sum
theorem exS_app (a b : List (List Int)) : exS (a ++ b) = exS a + exS b := by unfold exS; rw [List.map_append, List.sum_append]
theorem exS_one (K : List Int) : exS [K] = K.length - 1 := by unfold exS; simp
theorem exS_flat : ∀ {Ks : List (List Int)}, (∀ K ∈ Ks, K ≠ []) → exS Ks + Ks.length = Ks.flatten.length
  | [], _ => rfl
  | K :: Ks, h => by
    have i := exS_flat (Ks := Ks) fun L hL => h L (List.mem_cons_of_mem _ hL)
    have := List.length_pos_iff.mpr (h K List.mem_cons_self)
    have e : exS (K :: Ks) = (K.length - 1) + exS Ks := by unfold exS; rw [List.map_cons, List.sum_cons]
    rw [e, List.flatten_cons, List.length_append, List.length_cons]; omega
theorem num_all {n : Nat} {ts : List Ar} {H : Hp} (hW : WOk n ts) {m : Nat} (m13 : m ≤ 13) : ∀ {us : List V} {Is : List (List Int)}, All2 (TrX ts H m) us Is → (∀ S ∈ Is, ∀ x ∈ S, 0 ≤ x ∧ x < (n : Int)) → ∃ L : List (List Int × Nat), L.map (·.1) = Is ∧ All2 (NumT ts H) us L
  | [], [], _, _ => ⟨[], rfl, by exact trivial⟩
  | [], _ :: _, h, _ => h.elim
  | _ :: _, [], h, _ => h.elim
  | u :: us, S :: Is, h, b => by
    obtain ⟨N, hN⟩ := cnt_ex hW h.1 (b S List.mem_cons_self)
    obtain ⟨L, e, k⟩ := num_all hW m13 h.2 fun T hT => b T (List.mem_cons_of_mem _ hT)
    exact ⟨(S, N) :: L, by rw [List.map_cons, e], ⟨⟨m, m13, h.1⟩, hN⟩, k⟩
theorem fact12 : ∀ k : Nat, k < 13 → 1 ≤ k → factT k ≤ 12 ^ (k - 1) := by decide +kernel
theorem pow12 : ∀ k : Nat, 1 ≤ 12 ^ k
  | 0 => Nat.le_refl _
  | k + 1 => by
    rw [Nat.pow_succ]
    have := pow12 k
    omega
/-- one node told: its own number, and what is left of it -/
theorem num_node {n : Nat} {ts : List Ar} {H : Hp} {I : List Int} {w : Str} {Is : List (List Int)} {us : List V} {L : List (List Int × Nat)} {c : Nat} (hW : WOk n ts) (r : I.Pairwise (· < ·)) (b : ∀ x ∈ I, 0 ≤ x ∧ x < (n : Int)) (l2 : 2 ≤ I.length) (hn : n ≤ 12) (kd : KindX ts I w Is) (eL : L.map (·.1) = Is) (hL : All2 (NumT ts H) us L) (hc : CntP (LedI ts I) c) :
    ∃ k, c = k * prodN (L.map (·.2)) ∧ k * 12 ^ exS Is ≤ 12 ^ (I.length - 1) ∧ ((w = "apart" ∧ k = 1) ∨ (w = "all" ∧ k = factT Is.length) ∨ (w = "close" ∧ k = if firstF (hds Is).length (partL ts (hds Is)) = none then 0 else 2)) := by
  have nI : I.Nodup := r.imp fun h => Int.ne_of_lt h
  have pt := kd.part r l2
  have co := kind_con (adj_irG hW) r l2 kd
  have Il : I.length ≤ 12 := by
    have := nd_len (m := up n) nI fun x hx => mem_up.mpr (b x hx)
    rw [up_len] at this; omega
  have ptl := pt.len
  have two := pt.two
  have ex := exS_flat pt.ne
  rw [pt.perm.length_eq] at ex
  have node : ∀ {k : Nat}, CntP (CrsP ts Is) k → c = k * prodN (L.map (·.2)) := fun {k} hk => by
    show c = k * (L.map (·.2)).foldr (· * ·) 1
    refine hc.uniq (cnt_node pt nI co hk (ns := L.map (·.2)) (by rw [← eL, List.length_map, List.length_map]) fun i S j e1 e2 => ?_)
    rw [← eL, List.getElem?_map] at e1
    rw [List.getElem?_map] at e2
    obtain ⟨x, ex, rfl⟩ := Option.map_eq_some_iff.mp e1
    rw [ex] at e2
    cases e2
    obtain ⟨v, _, hv⟩ := hL.at' ex
    exact hv.2
  have bnd : ∀ {k : Nat}, k ≤ 12 ^ (Is.length - 1) → k * 12 ^ exS Is ≤ 12 ^ (I.length - 1) := fun {k} h => by
    have h1 := Nat.mul_le_mul_right (12 ^ exS Is) h
    rw [← Nat.pow_add, show Is.length - 1 + exS Is = I.length - 1 by omega] at h1
    exact h1
  have hr := kind_ris r b l2 kd
  have fn : firstF (hds Is).length (partL ts (hds Is)) = none ↔ ¬ Nb (hds Is).length (partL ts (hds Is)) := by
    have hw' := part_wok hr hW
    constructor
    · intro e nb
      rw [first_up hw' nb] at e; cases e
    · intro nb
      cases e : firstF (hds Is).length (partL ts (hds Is)) with
      | none => rfl
      | some ps => exact absurd ((first_none hw').mp ⟨ps, e⟩) nb
  rcases kind_crs hW hr r l2 kd with ⟨e, h⟩ | ⟨e, h⟩ | ⟨e, h1, h2⟩
  · exact ⟨1, node h, bnd (pow12 _), .inl ⟨e, rfl⟩⟩
  · exact ⟨_, node h, bnd (fact12 _ (by omega) (by omega)), .inr (.inl ⟨e, rfl⟩)⟩
  · by_cases nb : Nb (hds Is).length (partL ts (hds Is))
    · refine ⟨2, node (h1 nb), bnd ?_, .inr (.inr ⟨e, by rw [if_neg (fun z => fn.mp z nb)]⟩)⟩
      obtain ⟨k, e⟩ : ∃ k, Is.length - 1 = k + 1 := ⟨Is.length - 2, by omega⟩
      rw [e, Nat.pow_succ]
      have := pow12 k
      omega
    · exact ⟨0, node (h2 nb), bnd (Nat.zero_le _), .inr (.inr ⟨e, by rw [if_pos (fn.mpr nb)]⟩)⟩
end My

set_option Elab.async false
set_option linter.all false
set_option maxRecDepth 100000
set_option pp.maxSteps 600
namespace My
open PySem PySem.Spec PyProof.Rows L2 GxR
/-! ### nodes told by what stands between their parts -/
def CrossT (ts : List Ar) (Is : List (List Int)) : Prop := ∀ S ∈ Is, ∀ T ∈ Is, S ≠ T → ∀ x ∈ S, ∀ y ∈ T, adjB ts x y = true
def CrossN (ts : List Ar) (Is : List (List Int)) : Prop := ∀ S ∈ Is, ∀ T ∈ Is, S ≠ T → ∀ x ∈ S, ∀ y ∈ T, adjB ts x y = false
/-- gaps join S -/
def GapC (ts : List Ar) (I S : List Int) : Prop := ∀ A : Int → Prop, ClR ts false I A → ∀ x ∈ S, A x → ∀ y ∈ S, A y
section
variable {ts : List Ar} {I : List Int} {Is : List (List Int)}
theorem con_allT (ir : ∀ x, adjB ts x x = false) (nI : I.Nodup) (pt : PartI I Is) (hc : CrossT ts Is) (gc : ∀ S ∈ Is, GapC ts I S) : ConL ts I Is := fun O hO S hS T hT ne a ha a' ha' b hb b' hb' o => by
  have G := giI (ts := ts) (I := I) ir
  have tie : ∀ x ∈ S, ∀ y ∈ T, TI ts I x y := fun x hx y hy => ⟨pt.sub hS x hx, pt.sub hT y hy, hc S hS T hT ne x hx y hy⟩
  have clo : ∀ {U : List Int}, U ∈ Is → ∀ {x y : Int}, x ∈ U → y ∈ I → adjB ts x y = false → y ∈ U := fun {U} hU {x y} xU yI e => by
    obtain ⟨V', hV, yV⟩ := pt.own yI
    by_cases z : U = V'
    · rw [z]; exact yV
    · rw [hc U hU V' hV z x xU y yV] at e; cases e
  have o1 : O (a', b) := by
    have cA : ClR ts false I (fun y => y ∈ S ∧ O (y, b)) := fun x hx y hy ⟨xS, ox⟩ e => by
      have yS := clo hS xS hy e
      by_cases xy : x = y
      · subst xy; exact ⟨xS, ox⟩
      · exact ⟨yS, hO.cl G ox ⟨tie y yS b hb, .inr ⟨rfl, xy, fun z => by have := z.2.2; dsimp only at this; rw [e] at this; cases this⟩⟩⟩
    exact (gc S hS _ cA a ha ⟨ha, o⟩ a' ha').2
  have cA : ClR ts false I (fun y => y ∈ T ∧ O (a', y)) := fun x hx y hy ⟨xT, ox⟩ e => by
    have yT := clo hT xT hy e
    by_cases xy : x = y
    · subst xy; exact ⟨xT, ox⟩
    · exact ⟨yT, hO.cl G ox ⟨tie a' ha' y yT, .inl ⟨rfl, xy, fun z => by have := z.2.2; dsimp only at this; rw [e] at this; cases this⟩⟩⟩
  exact (gc T hT _ cA b hb ⟨hb, o1⟩ b' hb').2
theorem con_noT (nI : I.Nodup) (pt : PartI I Is) (no : CrossN ts Is) : ConL ts I Is := fun O hO S hS T hT ne a ha a' ha' b hb b' hb' o => by
  have t := hO.ar _ o
  have no' := no S hS T hT ne a ha b hb
  rw [show adjB ts a b = true from t.2.2] at no'
  cases no'
theorem crs_noT (nn : CrossN ts Is) : CntP (CrsP ts Is) 1 := by
  have no : ∀ S ∈ Is, ∀ T ∈ Is, S ≠ T → ∀ a ∈ S, ∀ b ∈ T, adjB ts a b = true → False := fun S hS T hT ne a ha b hb e => by
    rw [nn S hS T hT ne a ha b hb] at e; cases e
  refine ⟨[fun _ => False], by simp, rfl, fun X => ?_⟩
  rw [List.mem_singleton]
  constructor
  · rintro rfl
    exact ⟨fun a b h => h.elim, fun S hS T hT ne a ha b hb e => (no S hS T hT ne a ha b hb e).elim, fun a b h => h.elim, fun S hS T hT ne a ha a' ha' b hb b' hb' h => h.elim, fun a b c h => h.elim⟩
  · intro hX
    funext x
    refine propext ⟨fun z => ?_, fun z => z.elim⟩
    obtain ⟨e, S, hS, T, hT, ne, aS, bT⟩ := hX.ar x.1 x.2 z
    exact no S hS T hT ne _ aS _ bT e
theorem crs_allT (nI : I.Nodup) (pt : PartI I Is) (tie : CrossT ts Is) : CntP (CrsP ts Is) (factT Is.length) := by
  have di := pt.disI nI
  have ndI := pt.nods nI
  have bfI : ∀ {r : List (List Int)} {S T : List Int}, r.Perm Is → Bf r S T → S ∈ Is ∧ T ∈ Is ∧ S ≠ T := fun {r S T} p ⟨i, j, ij, e1, e2⟩ => ⟨p.mem_iff.mp (List.mem_of_getElem? e1), p.mem_iff.mp (List.mem_of_getElem? e2), fun z => by
    subst z
    have := bf_ix (p.nodup_iff.mpr ndI) e1 e2
    omega⟩
  have tot : ∀ {r : List (List Int)} {S T : List Int}, r.Perm Is → S ∈ Is → T ∈ Is → S ≠ T → Bf r S T ∨ Bf r T S := fun {r S T} p hS hT ne => by
    obtain ⟨i, ei⟩ := List.getElem?_of_mem (p.mem_iff.mpr hS)
    obtain ⟨j, ej⟩ := List.getElem?_of_mem (p.mem_iff.mpr hT)
    rcases Nat.lt_trichotomy i j with z | z | z
    · exact .inl ⟨i, j, z, ei, ej⟩
    · subst z
      rw [ei] at ej
      exact absurd (Option.some.inj ej) ne
    · exact .inr ⟨j, i, z, ej, ei⟩
  -- what the pattern of a row says of two parts
  have xat : ∀ {r : List (List Int)} {S T : List Int} {a b : Int}, r.Perm Is → S ∈ Is → T ∈ Is → a ∈ S → b ∈ T → (XofR r (a, b) ↔ Bf r S T) := fun {r S T a b} p hS hT aS bT => by
    constructor
    · rintro ⟨S', T', k, a', b'⟩
      obtain ⟨hS', hT', _⟩ := bfI p k
      rw [di S hS S' hS' a aS a', di T hT T' hT' b bT b']
      exact k
    · exact fun k => ⟨S, T, k, aS, bT⟩
  refine CntP.map (P := fun r => r.Perm Is) XofR (fun X => ⟨fun hX => ?_, ?_⟩) (fun r r' p p' e => ?_) (cnt_perm ndI)
  · obtain ⟨r, p, pw⟩ := ord_ex (R := fun S T => S ∈ Is ∧ T ∈ Is ∧ S ≠ T ∧ ∃ a ∈ S, ∃ b ∈ T, X (a, b)) (l := Is) (fun S hS T hT ne => by
        obtain ⟨a, aS⟩ := List.exists_mem_of_ne_nil _ (pt.ne S hS)
        obtain ⟨b, bT⟩ := List.exists_mem_of_ne_nil _ (pt.ne T hT)
        rcases hX.one S hS T hT ne a aS b bT (tie S hS T hT ne a aS b bT) with k | k
        · exact .inl ⟨hS, hT, ne, a, aS, b, bT, k⟩
        · exact .inr ⟨hT, hS, fun z => ne z.symm, b, bT, a, aS, k⟩) (fun S hS T hT U hU ⟨_, _, ne, a, aS, b, bT, k⟩ ⟨_, _, ne', b', bT', c, cU, k'⟩ => by
        have k2 := hX.con T hT U hU ne' b' bT' b bT c cU c cU k'
        have SU : S ≠ U := fun z => by
          subst z
          exact hX.anti a b k (hX.con T hT S hS (fun z => ne z.symm) b bT b bT c cU a aS k2)
        exact ⟨hS, hU, SU, a, aS, c, cU, hX.tr a b c k k2 fun A hA a1 a2 => SU ((di S hS A hA a aS a1).trans (di A hA U hU c a2 cU))⟩) ndI
    refine ⟨r, p, funext fun x => propext ⟨fun hx => ?_, ?_⟩⟩
    · obtain ⟨e, S, hS, T, hT, ne, aS, bT⟩ := hX.ar x.1 x.2 hx
      rcases tot p hS hT ne with k | k
      · exact ⟨S, T, k, aS, bT⟩
      · exfalso
        obtain ⟨i, j, ij, e1, e2⟩ := k
        obtain ⟨hi, e1⟩ := List.getElem?_eq_some_iff.mp e1
        obtain ⟨hj, e2⟩ := List.getElem?_eq_some_iff.mp e2
        have := List.pairwise_iff_getElem.mp pw i j hi hj ij
        rw [e1, e2] at this
        obtain ⟨_, _, _, b, bT', a, aS', k⟩ := this
        exact hX.anti x.1 x.2 hx (hX.con T hT S hS (fun z => ne z.symm) b bT' x.2 bT a aS' x.1 aS k)
    · rintro ⟨S, T, ⟨i, j, ij, e1, e2⟩, aS, bT⟩
      obtain ⟨hi, e1⟩ := List.getElem?_eq_some_iff.mp e1
      obtain ⟨hj, e2⟩ := List.getElem?_eq_some_iff.mp e2
      have := List.pairwise_iff_getElem.mp pw i j hi hj ij
      rw [e1, e2] at this
      obtain ⟨hS, hT, ne, a, aS', b, bT', k⟩ := this
      exact hX.con S hS T hT ne a aS' x.1 aS b bT' x.2 bT k
  · rintro ⟨r, p, rfl⟩
    have nr : r.Nodup := p.nodup_iff.mpr ndI
    refine ⟨?_, ?_, ?_, ?_, ?_⟩
    · rintro a b ⟨S, T, k, aS, bT⟩
      obtain ⟨hS, hT, ne⟩ := bfI p k
      exact ⟨tie S hS T hT ne a aS b bT, S, hS, T, hT, ne, aS, bT⟩
    · intro S hS T hT ne a ha b hb _
      rcases tot p hS hT ne with k | k
      · exact .inl ⟨S, T, k, ha, hb⟩
      · exact .inr ⟨T, S, k, hb, ha⟩
    · rintro a b ⟨S, T, k, aS, bT⟩ k'
      obtain ⟨hS, hT, _⟩ := bfI p k
      exact bf_anti nr k ((xat p hT hS bT aS).mp k')
    · intro S hS T hT ne a ha a' ha' b hb b' hb' k
      exact (xat p hS hT ha' hb').mpr ((xat p hS hT ha hb).mp k)
    · rintro a b c ⟨S, T, ⟨i, j, ij, e1, e2⟩, aS, bT⟩ ⟨T', U, ⟨j', l, jl, e3, e4⟩, bT', cU⟩ _
      have hT := p.mem_iff.mp (List.mem_of_getElem? e2)
      have hT' := p.mem_iff.mp (List.mem_of_getElem? e3)
      have := di T hT T' hT' b bT bT'
      subst this
      have := bf_ix nr e2 e3
      subst this
      exact ⟨S, U, ⟨i, l, by omega, e1, e4⟩, aS, cU⟩
  · have nr : r.Nodup := p.nodup_iff.mpr ndI
    refine ord_uni (R := Bf r) (fun S T k k' => bf_anti nr k k') (p.trans p'.symm) bf_pw ?_
    refine bf_pw.imp fun {S T} k => ?_
    obtain ⟨hS, hT, _⟩ := bfI p' k
    obtain ⟨a, aS⟩ := List.exists_mem_of_ne_nil _ (pt.ne S hS)
    obtain ⟨b, bT⟩ := List.exists_mem_of_ne_nil _ (pt.ne T hT)
    refine (xat p hS hT aS bT).mp ?_
    rw [e]
    exact (xat p' hS hT aS bT).mpr k
end
end My

set_option Elab.async false
set_option linter.all false
set_option maxRecDepth 100000
set_option pp.maxSteps 600
namespace My
open PySem PySem.Spec PyProof.Rows L2 GxR
/-! ### two webs beside one another -/
theorem tiC {ts ts' : List Ar} {S : List Int} (h : ∀ a ∈ S, ∀ b ∈ S, adjB ts a b = adjB ts' a b) : TI ts S = TI ts' S := funext fun a => funext fun b => propext ⟨fun ⟨x, y, z⟩ => ⟨x, y, by rw [← h a x b y]; exact z⟩, fun ⟨x, y, z⟩ => ⟨x, y, by rw [h a x b y]; exact z⟩⟩
theorem ledC {ts ts' : List Ar} {S : List Int} {N : Nat} (h : ∀ a ∈ S, ∀ b ∈ S, adjB ts a b = adjB ts' a b) (k : CntP (LedI ts S) N) : CntP (LedI ts' S) N := by
  have e := tiC h
  show CntP (Tr.Led (TI ts' S)) N
  rw [← e]; exact k
def shI (k : Int) (S : List Int) : List Int := S.map (· + k)
theorem mem_shI {k x : Int} {S : List Int} : x ∈ shI k S ↔ x - k ∈ S := by
  unfold shI
  rw [List.mem_map]
  constructor
  · rintro ⟨y, hy, rfl⟩
    rw [Int.add_sub_cancel]; exact hy
  · exact fun h => ⟨x - k, h, Int.sub_add_cancel x k⟩
theorem ledS {ts ts' : List Ar} {S : List Int} {N : Nat} {k : Int} (h : ∀ a ∈ S, ∀ b ∈ S, adjB ts' (a + k) (b + k) = adjB ts a b) (c : CntP (LedI ts S) N) : CntP (LedI ts' (shI k S)) N := by
  have up' : ∀ {O : Int × Int → Prop}, LedI ts S O → LedI ts' (shI k S) (fun x => O (x.1 - k, x.2 - k)) := fun {O} hO => by
    refine ⟨fun x hx => ?_, fun a b t => ?_, fun a b h1 h2 => hO.anti _ _ h1 h2, fun a b c h1 h2 => hO.tr _ _ _ h1 h2⟩
    · obtain ⟨p, q, e⟩ := hO.ar _ hx
      refine ⟨mem_shI.mpr p, mem_shI.mpr q, ?_⟩
      have := h _ p _ q
      rw [Int.sub_add_cancel, Int.sub_add_cancel] at this
      rw [this]; exact e
    · obtain ⟨p, q, e⟩ := t
      have p' := mem_shI.mp p
      have q' := mem_shI.mp q
      have := h _ p' _ q'
      rw [Int.sub_add_cancel, Int.sub_add_cancel] at this
      exact hO.one _ _ ⟨p', q', by rw [← this]; exact e⟩
  refine CntP.map (P := LedI ts S) (fun O x => O (x.1 - k, x.2 - k)) (fun O => ⟨fun hO => ?_, ?_⟩) (fun O O' _ _ e => ?_) c
  · refine ⟨fun x => O (x.1 + k, x.2 + k), ?_, funext fun x => by show O x = O (x.1 - k + k, x.2 - k + k); rw [Int.sub_add_cancel, Int.sub_add_cancel]⟩
    have m : ∀ {a : Int}, a ∈ S ↔ a + k ∈ shI k S := fun {a} => by rw [mem_shI, Int.add_sub_cancel]
    refine ⟨fun x hx => ?_, fun a b t => ?_, fun a b h1 h2 => hO.anti _ _ h1 h2, fun a b c h1 h2 => hO.tr _ _ _ h1 h2⟩
    · obtain ⟨p, q, e⟩ := hO.ar _ hx
      exact ⟨m.mpr p, m.mpr q, by rw [← h _ (m.mpr p) _ (m.mpr q)]; exact e⟩
    · obtain ⟨p, q, e⟩ := t
      exact hO.one _ _ ⟨m.mp p, m.mp q, by rw [h _ p _ q]; exact e⟩
  · rintro ⟨O', h', rfl⟩
    exact up' h'
  · funext x
    have := congrFun e (x.1 + k, x.2 + k)
    dsimp only at this
    rw [Int.add_sub_cancel, Int.add_sub_cancel] at this
    exact this
theorem up_add (n m : Nat) : up n ++ shI (n : Int) (up m) = up (n + m) := by
  unfold up shI
  rw [List.range_add, List.map_append, List.map_map, List.map_map]
  congr 1
  refine List.map_congr_left fun i _ => ?_
  show ((i : Nat) : Int) + (n : Int) = ((n + i : Nat) : Int)
  omega
theorem shI_rise {k : Int} {S : List Int} (h : S.Pairwise (· < ·)) : (shI k S).Pairwise (· < ·) := by
  unfold shI
  rw [List.pairwise_map]
  exact h.imp fun z => by omega
/-- how the two lie in one -/
structure TwoW (n m : Nat) (ts is rs : List Ar) (b : Bool) : Prop where
  one : ∀ x ∈ up n, ∀ y ∈ up n, adjB rs x y = adjB ts x y
  two : ∀ x ∈ up m, ∀ y ∈ up m, adjB rs (x + (n : Int)) (y + (n : Int)) = adjB is x y
  btw : ∀ x ∈ up n, ∀ y ∈ up m, adjB rs x (y + (n : Int)) = b
theorem up_ne {n : Nat} (h : 0 < n) : up n ≠ [] := fun z => by
  have := up_len n
  rw [z] at this
  simp at this
  omega
theorem two_union {n m : Nat} {ts is rs : List Ar} (hn : 0 < n) (hm : 0 < m) (hW : WOk n ts) (hI : WOk m is) (hR : WOk (n + m) rs) (h : TwoW n m ts is rs false) : (allL rs).length = (allL ts).length * (allL is).length := by
  have nI : (up (n + m)).Nodup := (ris_up (n + m)).1.imp fun h => Int.ne_of_lt h
  have pt : PartI (up (n + m)) [up n, shI (n : Int) (up m)] := by
    refine ⟨?_, fun S hS => ?_, fun S hS => ?_, Nat.le_refl _⟩
    · rw [List.flatten_cons, List.flatten_cons, List.flatten_nil, List.append_nil, up_add]
    · rcases List.mem_cons.mp hS with z | z
      · rw [z]; exact up_ne hn
      · rw [List.mem_singleton.mp z]
        unfold shI
        exact fun z => up_ne hm (List.map_eq_nil_iff.mp z)
    · rcases List.mem_cons.mp hS with z | z
      · rw [z]; exact (ris_up n).1
      · rw [List.mem_singleton.mp z]; exact shI_rise (ris_up m).1
  have no : CrossN rs [up n, shI (n : Int) (up m)] := fun S hS T hT ne x hx y hy => by
    rcases List.mem_cons.mp hS with z | z <;> rcases List.mem_cons.mp hT with u | u
    · exact absurd (z.trans u.symm) ne
    · rw [z] at hx
      rw [List.mem_singleton.mp u] at hy
      have := h.btw x hx _ (mem_shI.mp hy)
      rw [Int.sub_add_cancel] at this; exact this
    · rw [u] at hy
      rw [List.mem_singleton.mp z] at hx
      have := h.btw y hy _ (mem_shI.mp hx)
      rw [Int.sub_add_cancel] at this
      rw [adj_comm]; exact this
    · exact absurd ((List.mem_singleton.mp z).trans (List.mem_singleton.mp u).symm) ne
  have c1 : CntP (LedI rs (up n)) (allL ts).length := ledC (fun a ha b hb => (h.one a ha b hb).symm) (cnt_allL hW)
  have c2 : CntP (LedI rs (shI (n : Int) (up m))) (allL is).length := ledS h.two (cnt_allL hI)
  have := cnt_node pt nI (con_noT nI pt no) (crs_noT no) (ns := [(allL ts).length, (allL is).length]) rfl fun i S k e f => by
    match i, e, f with
    | 0, e, f => cases e; cases f; exact c1
    | 1, e, f => cases e; cases f; exact c2
    | i + 2, e, f => cases e
  rw [(cnt_allL hR).uniq this]
  show 1 * ((allL ts).length * ((allL is).length * 1)) = _
  rw [Nat.one_mul, Nat.mul_one]
/-- a web told by the sets that its gaps join -/
structure CoP (ts : List Ar) (n : Nat) (F : List (List Int)) : Prop where
  perm : F.flatten.Perm (up n)
  ne : ∀ S ∈ F, S ≠ []
  rise : ∀ S ∈ F, S.Pairwise (· < ·)
  tie : CrossT ts F
  gap : ∀ S ∈ F, GapC ts (up n) S
  cnt : ∀ S ∈ F, ∃ N, CntP (LedI ts S) N
theorem CoP.mem {ts : List Ar} {n : Nat} {F : List (List Int)} (h : CoP ts n F) {S : List Int} (hS : S ∈ F) : ∀ x ∈ S, x ∈ up n := fun x hx => h.perm.mem_iff.mp (List.mem_flatten.mpr ⟨S, hS, hx⟩)
theorem cop_ns {ts : List Ar} : ∀ {F : List (List Int)}, (∀ S ∈ F, ∃ N, CntP (LedI ts S) N) → ∃ ns : List Nat, ns.length = F.length ∧ ∀ (i : Nat) (S : List Int) (k : Nat), F[i]? = some S → ns[i]? = some k → CntP (LedI ts S) k
  | [], _ => ⟨[], rfl, fun i S k e => by cases e⟩
  | S :: F, h => by
    obtain ⟨N, hN⟩ := h S List.mem_cons_self
    obtain ⟨ns, l, k⟩ := cop_ns fun T hT => h T (List.mem_cons_of_mem _ hT)
    refine ⟨N :: ns, by rw [List.length_cons, List.length_cons, l], fun i T j e f => ?_⟩
    cases i with
    | zero => cases e; cases f; exact hN
    | succ i => exact k i T j e f
theorem CoP.num {ts : List Ar} {n : Nat} {F : List (List Int)} (hW : WOk n ts) (h : CoP ts n F) (f0 : F ≠ []) {ns : List Nat} (nl : ns.length = F.length) (hk : ∀ (i : Nat) (S : List Int) (k : Nat), F[i]? = some S → ns[i]? = some k → CntP (LedI ts S) k) : (allL ts).length = factT F.length * prodN ns := by
  have nI : (up n).Nodup := (ris_up n).1.imp fun h => Int.ne_of_lt h
  by_cases l2 : 2 ≤ F.length
  · have pt : PartI (up n) F := ⟨h.perm, h.ne, h.rise, l2⟩
    exact (cnt_allL hW).uniq (cnt_node pt nI (con_allT (adj_irG hW) nI pt h.tie h.gap) (crs_allT nI pt h.tie) nl hk)
  · match F, f0, l2, h, nl, hk with
    | [S], _, _, h, nl, hk =>
      obtain ⟨k, rfl⟩ : ∃ k, ns = [k] := by
        match ns, nl with
        | [k], _ => exact ⟨k, rfl⟩
      have e : S = up n := by
        have p := h.perm
        rw [List.flatten_cons, List.flatten_nil, List.append_nil] at p
        exact rise_ext (h.rise S List.mem_cons_self) (ris_up n).1 fun x => p.mem_iff
      have c := hk 0 S k rfl rfl
      rw [e] at c
      rw [(cnt_allL hW).uniq c]
      show k = 1 * (k * 1)
      omega
    | _ :: _ :: _, _, l2, _, _, _ => exact absurd (by simp) l2
theorem gapc_of {rs ts : List Ar} {n : Nat} {I S : List Int} (sub : ∀ x ∈ S, x ∈ up n) (inI : ∀ x ∈ up n, x ∈ I) (h : ∀ x ∈ up n, ∀ y ∈ up n, adjB rs x y = adjB ts x y) (g : GapC ts (up n) S) : GapC rs I S := fun A cA x hx ax y hy =>
  g A (fun u hu v hv au e => cA u (inI u hu) v (inI v hv) au (by rw [h u hu v hv]; exact e)) x hx ax y hy
theorem gapc_sh {rs is : List Ar} {n m : Nat} {I S : List Int} (inI : ∀ x ∈ up m, x + (n : Int) ∈ I) (h : ∀ x ∈ up m, ∀ y ∈ up m, adjB rs (x + (n : Int)) (y + (n : Int)) = adjB is x y) (g : GapC is (up m) S) : GapC rs I (shI (n : Int) S) := fun A cA x hx ax y hy => by
  have hx' := mem_shI.mp hx
  have hy' := mem_shI.mp hy
  have := g (fun z => A (z + (n : Int))) (fun u hu v hv au e => cA _ (inI u hu) _ (inI v hv) au (by rw [h u hu v hv]; exact e)) _ hx' (by show A (x - n + n); rw [Int.sub_add_cancel]; exact ax) _ hy'
  have this : A (y - n + n) := this
  rwa [Int.sub_add_cancel] at this
theorem two_join {n m : Nat} {ts is rs : List Ar} {F G : List (List Int)} (hn : 0 < n) (hm : 0 < m) (hW : WOk n ts) (hI : WOk m is) (hR : WOk (n + m) rs) (h : TwoW n m ts is rs true) (hF : CoP ts n F) (hG : CoP is m G) (f0 : F ≠ []) (g0 : G ≠ []) :
    (allL rs).length * (factT F.length * factT G.length) = factT (F.length + G.length) * ((allL ts).length * (allL is).length) := by
  have nI : (up (n + m)).Nodup := (ris_up (n + m)).1.imp fun h => Int.ne_of_lt h
  obtain ⟨ns, nl, nk⟩ := cop_ns hF.cnt
  obtain ⟨ms, ml, mk⟩ := cop_ns hG.cnt
  have e1 := hF.num hW f0 nl nk
  have e2 := hG.num hI g0 ml mk
  have fl := List.length_pos_iff.mpr f0
  have gl := List.length_pos_iff.mpr g0
  have flat : ∀ L : List (List Int), (L.map (shI (n : Int))).flatten = shI (n : Int) L.flatten := fun L => by
    induction L with
    | nil => rfl
    | cons S L ih =>
      rw [List.map_cons, List.flatten_cons, List.flatten_cons, ih]
      unfold shI
      rw [List.map_append]
  have inU : ∀ x ∈ up n, x ∈ up (n + m) := fun x hx => by
    have := mem_up.mp hx
    exact mem_up.mpr ⟨this.1, by have := this.2; omega⟩
  have inV : ∀ x ∈ up m, x + (n : Int) ∈ up (n + m) := fun x hx => by
    have := mem_up.mp hx
    exact mem_up.mpr ⟨by have := this.1; omega, by have := this.2; omega⟩
  have pt : PartI (up (n + m)) (F ++ G.map (shI (n : Int))) := by
    refine ⟨?_, fun S hS => ?_, fun S hS => ?_, by rw [List.length_append, List.length_map]; omega⟩
    · rw [List.flatten_append, flat, ← up_add]
      exact hF.perm.append (by unfold shI; exact hG.perm.map _)
    · rcases List.mem_append.mp hS with z | z
      · exact hF.ne S z
      · obtain ⟨T, hT, rfl⟩ := List.mem_map.mp z
        unfold shI
        exact fun z => hG.ne T hT (List.map_eq_nil_iff.mp z)
    · rcases List.mem_append.mp hS with z | z
      · exact hF.rise S z
      · obtain ⟨T, hT, rfl⟩ := List.mem_map.mp z
        exact shI_rise (hG.rise T hT)
  have tie : CrossT rs (F ++ G.map (shI (n : Int))) := fun S hS T hT ne x hx y hy => by
    rcases List.mem_append.mp hS with z | z <;> rcases List.mem_append.mp hT with u | u
    · rw [h.one x (hF.mem z x hx) y (hF.mem u y hy)]
      exact hF.tie S z T u ne x hx y hy
    · obtain ⟨U, hU, rfl⟩ := List.mem_map.mp u
      have := h.btw x (hF.mem z x hx) _ (hG.mem hU _ (mem_shI.mp hy))
      rw [Int.sub_add_cancel] at this; exact this
    · obtain ⟨U, hU, rfl⟩ := List.mem_map.mp z
      have := h.btw y (hF.mem u y hy) _ (hG.mem hU _ (mem_shI.mp hx))
      rw [Int.sub_add_cancel] at this
      rw [adj_comm]; exact this
    · obtain ⟨U, hU, rfl⟩ := List.mem_map.mp z
      obtain ⟨U', hU', rfl⟩ := List.mem_map.mp u
      have hx' := mem_shI.mp hx
      have hy' := mem_shI.mp hy
      have := h.two _ (hG.mem hU _ hx') _ (hG.mem hU' _ hy')
      rw [Int.sub_add_cancel, Int.sub_add_cancel] at this
      rw [this]
      exact hG.tie U hU U' hU' (fun z => ne (by rw [z])) _ hx' _ hy'
  have gap : ∀ S ∈ F ++ G.map (shI (n : Int)), GapC rs (up (n + m)) S := fun S hS => by
    rcases List.mem_append.mp hS with z | z
    · exact gapc_of (hF.mem z) inU h.one (hF.gap S z)
    · obtain ⟨U, hU, rfl⟩ := List.mem_map.mp z
      exact gapc_sh inV h.two (hG.gap U hU)
  have hk := cnt_node pt nI (con_allT (adj_irG hR) nI pt tie gap) (crs_allT nI pt tie) (ns := ns ++ ms) (by rw [List.length_append, List.length_append, List.length_map, nl, ml]) fun i S k e f => by
    by_cases il : i < F.length
    · rw [List.getElem?_append_left il] at e
      rw [List.getElem?_append_left (by omega)] at f
      have c := nk i S k e f
      exact ledC (fun a ha b hb => (h.one a (hF.mem (List.mem_of_getElem? e) a ha) b (hF.mem (List.mem_of_getElem? e) b hb)).symm) c
    · rw [List.getElem?_append_right (by omega), List.getElem?_map] at e
      rw [List.getElem?_append_right (by omega), nl] at f
      obtain ⟨U, eU, rfl⟩ := Option.map_eq_some_iff.mp e
      have c := mk _ U k eU f
      have hU := hG.mem (List.mem_of_getElem? eU)
      exact ledS (fun a ha b hb => h.two a (hU a ha) b (hU b hb)) c
  have e3 : (allL rs).length = factT (F.length + G.length) * (prodN ns * prodN ms) := by
    have := (cnt_allL hR).uniq hk
    rw [List.length_append, List.length_map] at this
    rw [this]
    show _ * prodN (ns ++ ms) = _
    rw [prodN_app]
  rw [e3, e1, e2]
  simp only [Nat.mul_assoc, Nat.mul_comm, Nat.mul_left_comm]
/-- the sets that gaps join, by the tree -/
theorem cop_of {n : Nat} {ts : List Ar} {H : Hp} {m : Nat} {u : V} (hW : WOk n ts) (hn : 0 < n) (h : TrX ts H (m + 1) u (up n)) : (∃ p i, u = .ref p ∧ H p = some (.tup [.str "place", .int i]) ∧ CoP ts n [up n]) ∨
    ∃ (p q : Addr) (w : Str) (vs : List V), u = .ref p ∧ H p = some (.tup [.str w, .ref q]) ∧ H q = some (.tup vs) ∧ ((w = "all" ∧ ∃ F, CoP ts n F ∧ F ≠ [] ∧ F.length = vs.length ∧ F.length ≤ n) ∨ (w ≠ "all" ∧ CoP ts n [up n])) := by
  have ru := (ris_up n).1
  have nI : (up n).Nodup := ru.imp fun h => Int.ne_of_lt h
  have whole : (∀ A : Int → Prop, ClR ts false (up n) A → ∀ x ∈ up n, A x → ∀ y ∈ up n, A y) → CoP ts n [up n] := fun g => by
    refine ⟨?_, fun S hS => ?_, fun S hS => ?_, fun S hS T hT ne => ?_, fun S hS => ?_, fun S hS => ?_⟩
    · rw [List.flatten_cons, List.flatten_nil, List.append_nil]
    · rw [List.mem_singleton.mp hS]; exact up_ne hn
    · rw [List.mem_singleton.mp hS]; exact ru
    · exact absurd ((List.mem_singleton.mp hS).trans (List.mem_singleton.mp hT).symm) ne
    · rw [List.mem_singleton.mp hS]; exact g
    · rw [List.mem_singleton.mp hS]; exact ⟨_, cnt_allL hW⟩
  rcases h with ⟨p, i, e, a, b⟩ | ⟨p, q, w, vs, Is, e, a, ⟨r, l2⟩, kd, c, d⟩
  · refine .inl ⟨p, i, e, a, whole fun A _ x hx ax y hy => ?_⟩
    rw [b] at hx hy
    rw [List.mem_singleton.mp hy, ← List.mem_singleton.mp hx]; exact ax
  · have pt := kd.part r l2
    have dl := d.len
    refine .inr ⟨p, q, w, vs, e, a, c, ?_⟩
    rcases kd with ⟨rfl, f1, f2⟩ | ⟨rfl, _, f1, f2⟩ | ⟨rfl, ⟨F1, a1, a2⟩, ⟨F2, b1, b2⟩, f1⟩
    · refine .inr ⟨by decide, whole fun A cA x hx ax y hy => ?_⟩
      have far : ∀ {S T : List Int} {a b : Int}, S ∈ Is → T ∈ Is → S ≠ T → a ∈ S → b ∈ T → adjB ts a b = false := fun {S T a b} hS hT ne aS bT => by
        cases e : adjB ts a b with
        | false => rfl
        | true => exact absurd (pt.dis nI S hS T hT b (f1.clo S hS a aS b (pt.sub hT b bT) e) bT) ne
      obtain ⟨S, hS, xS⟩ := pt.own hx
      obtain ⟨T, hT, yT⟩ := pt.own hy
      by_cases st : S = T
      · subst st
        obtain ⟨U, hU, ne⟩ := pt.other nI S
        obtain ⟨z, zU⟩ := List.exists_mem_of_ne_nil _ (pt.ne U hU)
        have az := cA x hx z (pt.sub hU z zU) ax (far hS hU (fun k => ne k.symm) xS zU)
        exact cA z (pt.sub hU z zU) y hy az (far hU hS ne zU yT)
      · exact cA x hx y hy ax (far hS hT st xS yT)
    · refine .inl ⟨rfl, Is, ⟨pt.perm, pt.ne, pt.rise, fun S hS T hT ne x hx y hy => ?_, fun S hS A cA x hx ax y hy => f1.con S hS A cA x hx ax y hy, fun S hS => ?_⟩, fun z => ?_, dl.symm, ?_⟩
      · cases e : adjB ts x y with
        | true => rfl
        | false => exact absurd (pt.dis nI S hS T hT y (f1.clo S hS x hx y (pt.sub hT y hy) e) hy) ne
      · obtain ⟨i, ei⟩ := List.getElem?_of_mem hS
        obtain ⟨v, _, hv⟩ := d.at' ei
        exact cnt_ex hW hv fun x hx => mem_up.mp (pt.sub hS x hx)
      · have := pt.two
        rw [z] at this
        exact absurd this (by decide)
      · have := pt.len
        rw [up_len] at this; exact this
    · exact .inr ⟨by decide, whole fun A cA x hx ax y hy => (whl_of a1 b1 a2 b2).con false A cA x hx ax y hy⟩
theorem fact_div : ∀ f, f ≤ 6 → ∀ s, s ≤ 6 → factT (f + s) = factT f * factT s * (factT (f + s) / factT f / factT s) ∧ 0 < factT f * factT s := by decide +kernel
/-- as many as both, times the ways to lay one row into the other -/
theorem join_more {N a f s : Nat} (hf : f ≤ 6) (hs : s ≤ 6) (e : N * (factT f * factT s) = factT (f + s) * a) : N = a * (factT (f + s) / factT f / factT s) := by
  obtain ⟨h, p⟩ := fact_div f hf s hs
  generalize factT (f + s) / factT f / factT s = c at h
  rw [h] at e
  refine Nat.eq_of_mul_eq_mul_right p ?_
  rw [e]
  simp only [Nat.mul_assoc, Nat.mul_comm, Nat.mul_left_comm]
end My

set_option Elab.async false
set_option linter.all false
set_option maxRecDepth 100000
set_option pp.maxSteps 600
namespace My
open PySem PySem.Spec PyProof.Rows L2 GxR
/-! ### known webs: how many led pointings they have, how many sets their gaps join -/
theorem cnt_gap {ts : List Ar} {S : List Int} (h : ∀ a ∈ S, ∀ b ∈ S, adjB ts a b = false) : CntP (LedI ts S) 1 := by
  refine ⟨[fun _ => False], by simp, rfl, fun O => ?_⟩
  rw [List.mem_singleton]
  constructor
  · rintro rfl
    exact ⟨fun x hx => hx.elim, fun a b t => absurd t.2.2 (by rw [h a t.1 b t.2.1]; decide), fun a b h => h.elim, fun a b c h => h.elim⟩
  · intro hO
    funext x
    refine propext ⟨fun z => ?_, fun z => z.elim⟩
    have t := hO.ar _ z
    have := t.2.2
    rw [h _ t.1 _ t.2.1] at this; cases this
/-- places of k colours, tied where the colours are unlike -/
structure ColW (ts : List Ar) (n k : Nat) (key : Int → Nat) : Prop where
  lt : ∀ x ∈ up n, key x < k
  onto : ∀ c, c < k → ∃ x ∈ up n, key x = c
  adj : ∀ x ∈ up n, ∀ y ∈ up n, adjB ts x y = decide (key x ≠ key y)
def colF (n k : Nat) (key : Int → Nat) : List (List Int) := (List.range k).map fun c => (up n).filter fun x => decide (key x = c)
theorem filt_two {p q r : Int → Bool} (h : ∀ x, r x = (p x || q x)) (d : ∀ x, p x = true → q x = false) : ∀ l : List Int, (l.filter p ++ l.filter q).Perm (l.filter r)
  | [] => .refl _
  | a :: l => by
    have ih := filt_two h d l
    have ha := h a
    cases hp : p a with
    | true =>
      have hq := d a hp
      rw [hp, hq] at ha
      rw [List.filter_cons_of_pos hp, List.filter_cons_of_neg (by rw [hq]; decide), List.filter_cons_of_pos (show r a = true from ha)]
      exact ih.cons a
    | false =>
      cases hq : q a with
      | true =>
        rw [hp, hq] at ha
        rw [List.filter_cons_of_neg (by rw [hp]; decide), List.filter_cons_of_pos hq, List.filter_cons_of_pos (show r a = true from ha)]
        exact List.perm_middle.trans (ih.cons a)
      | false =>
        rw [hp, hq] at ha
        rw [List.filter_cons_of_neg (by rw [hp]; decide), List.filter_cons_of_neg (by rw [hq]; decide), List.filter_cons_of_neg (show ¬ r a = true by rw [ha]; decide)]
        exact ih
theorem colF_perm (n : Nat) (key : Int → Nat) : ∀ k, (colF n k key).flatten.Perm ((up n).filter fun x => decide (key x < k))
  | 0 => by
    rw [show (up n).filter (fun x => decide (key x < 0)) = [] from List.filter_eq_nil_iff.mpr fun x _ => by simp]
    exact .refl _
  | k + 1 => by
    unfold colF
    rw [List.range_succ, List.map_append, List.flatten_append]
    show (_ ++ [(up n).filter fun x => decide (key x = k)].flatten).Perm _
    rw [List.flatten_cons, List.flatten_nil, List.append_nil]
    refine ((colF_perm n key k).append_right _).trans (filt_two (fun x => ?_) (fun x h => ?_) _)
    · rw [← Bool.decide_or]
      exact decide_eq_decide.mpr (by omega)
    · have := of_decide_eq_true h
      exact decide_eq_false (by omega)
theorem colF_mem {n k : Nat} {key : Int → Nat} {S : List Int} (h : S ∈ colF n k key) : ∃ c, c < k ∧ S = (up n).filter fun x => decide (key x = c) := by
  unfold colF at h
  obtain ⟨c, hc, rfl⟩ := List.mem_map.mp h
  exact ⟨c, List.mem_range.mp hc, rfl⟩
theorem colF_len (n k : Nat) (key : Int → Nat) : (colF n k key).length = k := by
  unfold colF
  rw [List.length_map, List.length_range]
theorem colF_cnt {ts : List Ar} {n k : Nat} {key : Int → Nat} (h : ColW ts n k key) {S : List Int} (hS : S ∈ colF n k key) : CntP (LedI ts S) 1 := by
  obtain ⟨c, _, rfl⟩ := colF_mem hS
  refine cnt_gap fun a ha b hb => ?_
  obtain ⟨ha, ka⟩ := List.mem_filter.mp ha
  obtain ⟨hb, kb⟩ := List.mem_filter.mp hb
  rw [h.adj a ha b hb]
  exact decide_eq_false fun z => z ((of_decide_eq_true ka).trans (of_decide_eq_true kb).symm)
theorem colF_cop {ts : List Ar} {n k : Nat} {key : Int → Nat} (h : ColW ts n k key) : CoP ts n (colF n k key) := by
  refine ⟨?_, fun S hS => ?_, fun S hS => ?_, fun S hS T hT ne x hx y hy => ?_, fun S hS A cA x hx ax y hy => ?_, fun S hS => ⟨1, colF_cnt h hS⟩⟩
  · refine (colF_perm n key k).trans (.of_eq ?_)
    exact List.filter_eq_self.mpr fun x hx => decide_eq_true (h.lt x hx)
  · obtain ⟨c, hc, rfl⟩ := colF_mem hS
    obtain ⟨x, hx, e⟩ := h.onto c hc
    exact List.ne_nil_of_mem (List.mem_filter.mpr ⟨hx, decide_eq_true e⟩)
  · obtain ⟨c, _, rfl⟩ := colF_mem hS
    exact (ris_up n).1.filter _
  · obtain ⟨c, _, rfl⟩ := colF_mem hS
    obtain ⟨d, _, rfl⟩ := colF_mem hT
    obtain ⟨hx, kx⟩ := List.mem_filter.mp hx
    obtain ⟨hy, ky⟩ := List.mem_filter.mp hy
    rw [h.adj x hx y hy]
    refine decide_eq_true fun z => ne ?_
    rw [of_decide_eq_true kx, of_decide_eq_true ky] at z
    rw [z]
  · obtain ⟨c, _, rfl⟩ := colF_mem hS
    obtain ⟨hx, kx⟩ := List.mem_filter.mp hx
    obtain ⟨hy, ky⟩ := List.mem_filter.mp hy
    refine cA x hx y hy ax ?_
    rw [h.adj x hx y hy]
    exact decide_eq_false fun z => z ((of_decide_eq_true kx).trans (of_decide_eq_true ky).symm)
theorem prodN_ones : ∀ k, prodN (List.replicate k 1) = 1
  | 0 => rfl
  | k + 1 => by
    rw [List.replicate_succ]
    show 1 * prodN (List.replicate k 1) = 1
    rw [prodN_ones k]
/-- what is told of a piece -/
structure PieceOk (m : Nat) (own : List Ar) (N k : Nat) : Prop where
  ok : WOk m own
  cnt : (allL own).length = N
  sets : ∃ F, CoP own m F ∧ F ≠ [] ∧ F.length = k
theorem piece_col {m k : Nat} {own : List Ar} {key : Int → Nat} (hW : WOk m own) (k0 : 0 < k) (h : ColW own m k key) : PieceOk m own (factT k) k := by
  have hC := colF_cop h
  have ne : colF m k key ≠ [] := fun z => by
    have := colF_len m k key
    rw [z] at this
    simp at this
    omega
  refine ⟨hW, ?_, _, hC, ne, colF_len m k key⟩
  rw [hC.num hW ne (ns := List.replicate k 1) (by rw [List.length_replicate, colF_len]) fun i S j e f => ?_, colF_len, prodN_ones, Nat.mul_one]
  rw [List.getElem?_replicate] at f
  split at f
  · cases f
    exact colF_cnt h (List.mem_of_getElem? e)
  · cases f
/-! rows and rings -/
structure AltW (ts : List Ar) (n : Nat) (r : Bool) : Prop where
  big : 4 ≤ n
  adj : ∀ x ∈ up n, ∀ y ∈ up n, adjB ts x y = true ↔ (y = x + 1 ∨ x = y + 1 ∨ (r = true ∧ ((x = 0 ∧ y = (n : Int) - 1) ∨ (y = 0 ∧ x = (n : Int) - 1))))
section
variable {ts : List Ar} {n : Nat} {r : Bool} {O : Int × Int → Prop}
theorem AltW.tie (h : AltW ts n r) {x y : Int} (x0 : 0 ≤ x) (x1 : x < (n : Int)) (y0 : 0 ≤ y) (y1 : y < (n : Int)) (e : y = x + 1 ∨ x = y + 1 ∨ (r = true ∧ ((x = 0 ∧ y = (n : Int) - 1) ∨ (y = 0 ∧ x = (n : Int) - 1)))) : TI ts (up n) x y :=
  ⟨mem_up.mpr ⟨x0, x1⟩, mem_up.mpr ⟨y0, y1⟩, (h.adj x (mem_up.mpr ⟨x0, x1⟩) y (mem_up.mpr ⟨y0, y1⟩)).mpr e⟩
theorem AltW.of (h : AltW ts n r) {x y : Int} (t : TI ts (up n) x y) : (0 ≤ x ∧ x < (n : Int)) ∧ (0 ≤ y ∧ y < (n : Int)) ∧ (y = x + 1 ∨ x = y + 1 ∨ (r = true ∧ ((x = 0 ∧ y = (n : Int) - 1) ∨ (y = 0 ∧ x = (n : Int) - 1)))) :=
  ⟨mem_up.mp t.1, mem_up.mp t.2.1, (h.adj x t.1 y t.2.1).mp t.2.2⟩
theorem alt_run (h : AltW ts n r) (hO : LedI ts (up n) O) (o : O (0, 1)) : ∀ i : Nat, i + 1 < n → (i % 2 = 0 → O ((i : Int), (i : Int) + 1)) ∧ (i % 2 = 1 → O ((i : Int) + 1, (i : Int)))
  | 0, _ => ⟨fun _ => o, fun z => by omega⟩
  | i + 1, hi => by
    have b4 := h.big
    obtain ⟨ih1, ih2⟩ := alt_run h hO o i (by omega)
    have t : TI ts (up n) ((i : Int) + 1) ((i : Int) + 1 + 1) := h.tie (by omega) (by omega) (by omega) (by omega) (.inl rfl)
    have no : ∀ {x y : Int}, O (x, y) → (x = (i : Int) ∧ y = (i : Int) + 1 + 1) ∨ (y = (i : Int) ∧ x = (i : Int) + 1 + 1) → False := fun {x y} z w => by
      have := (h.of (hO.ar _ z)).2.2
      dsimp only at this
      omega
    rw [Int.natCast_succ]
    refine ⟨fun e => ?_, fun e => ?_⟩
    · rcases hO.one _ _ t with z | z
      · exact z
      · exact (no (hO.tr _ _ _ z (ih2 (by omega))) (.inr ⟨rfl, rfl⟩)).elim
    · rcases hO.one _ _ t with z | z
      · exact (no (hO.tr _ _ _ (ih1 (by omega)) z) (.inl ⟨rfl, rfl⟩)).elim
      · exact z
/-- of a ring, the last tie -/
theorem alt_last (h : AltW ts n true) (hO : LedI ts (up n) O) (o : O (0, 1)) : O (0, (n : Int) - 1) := by
  have b4 := h.big
  rcases hO.one 0 ((n : Int) - 1) (h.tie (by omega) (by omega) (by omega) (by omega) (.inr (.inr ⟨rfl, .inl ⟨rfl, rfl⟩⟩))) with z | z
  · exact z
  · have := (h.of (hO.ar _ (hO.tr _ _ _ z o))).2.2
    dsimp only at this
    omega
theorem alt_odd (h : AltW ts n true) (odd : n % 2 = 1) (hO : LedI ts (up n) O) (o : O (0, 1)) : False := by
  have b4 := h.big
  have a := alt_last h hO o
  have b := (alt_run h hO o (n - 2) (by omega)).2 (by omega)
  rw [show ((n - 2 : Nat) : Int) + 1 = (n : Int) - 1 from by omega] at b
  have := (h.of (hO.ar _ (hO.tr _ _ _ a b))).2.2
  dsimp only at this
  omega
def altO (ts : List Ar) (n : Nat) (b : Int) (x : Int × Int) : Prop := TI ts (up n) x.1 x.2 ∧ x.1 % 2 = b
theorem alt_par (h : AltW ts n r) (ev : r = true → n % 2 = 0) {x y : Int} (t : TI ts (up n) x y) : x % 2 + y % 2 = 1 := by
  obtain ⟨a, b, c⟩ := h.of t
  rcases c with c | c | ⟨z, c⟩
  · omega
  · omega
  · have := ev z
    omega
theorem alt_led (h : AltW ts n r) (ev : r = true → n % 2 = 0) {b : Int} (hb : b = 0 ∨ b = 1) : LedI ts (up n) (altO ts n b) := by
  refine ⟨fun x hx => hx.1, fun x y t => ?_, fun x y k l => ?_, fun x y z k l => ?_⟩
  · have p := alt_par h ev t
    by_cases z : x % 2 = b
    · exact .inl ⟨t, z⟩
    · exact .inr ⟨⟨t.2.1, t.1, by rw [adj_comm]; exact t.2.2⟩, by dsimp only; omega⟩
  · have p := alt_par h ev k.1
    have k2 := k.2
    have l2 := l.2
    dsimp only at k2 l2 p
    omega
  · have p := alt_par h ev k.1
    have k2 := k.2
    have l2 := l.2
    dsimp only at k2 l2 p
    omega
theorem alt_one (h : AltW ts n r) (ev : r = true → n % 2 = 0) (hO : LedI ts (up n) O) (o : O (0, 1)) : O = altO ts n 0 := by
  have b4 := h.big
  have sub : ∀ x : Int × Int, altO ts n 0 x → O x := fun ⟨x, y⟩ ⟨t, e⟩ => by
    dsimp only at t e
    obtain ⟨⟨x0, x1⟩, ⟨y0, y1⟩, c⟩ := h.of t
    obtain ⟨i, rfl⟩ : ∃ i : Nat, x = (i : Int) := ⟨x.toNat, by omega⟩
    rcases c with c | c | ⟨z, c⟩
    · subst c
      exact (alt_run h hO o i (by omega)).1 (by omega)
    · have := (alt_run h hO o (i - 1) (by omega)).2 (by omega)
      rw [show ((i - 1 : Nat) : Int) + 1 = (i : Int) from by omega, show ((i - 1 : Nat) : Int) = y from by omega] at this
      exact this
    · subst z
      rcases c with ⟨c1, c2⟩ | ⟨c1, c2⟩
      · rw [c1, c2]; exact alt_last h hO o
      · have := ev rfl
        omega
  funext x
  refine propext ⟨fun z => ?_, sub x⟩
  have t := hO.ar _ z
  have p := alt_par h ev t
  refine ⟨t, Classical.byContradiction fun w => ?_⟩
  have k : altO ts n 0 (x.2, x.1) := ⟨⟨t.2.1, t.1, by rw [adj_comm]; exact t.2.2⟩, by dsimp only; omega⟩
  exact hO.anti _ _ z (sub _ k)
theorem led_rev (h : LedI ts (up n) O) : LedI ts (up n) (fun x => O (x.2, x.1)) :=
  ⟨fun x hx => by
    have t := h.ar _ hx
    exact ⟨t.2.1, t.1, by rw [adj_comm]; exact t.2.2⟩, fun a b t => (h.one a b t).symm, fun a b k l => h.anti _ _ k l, fun a b c k l => h.tr _ _ _ l k⟩
theorem alt_two (h : AltW ts n r) (ev : r = true → n % 2 = 0) : CntP (LedI ts (up n)) 2 := by
  have b4 := h.big
  have t01 : TI ts (up n) 0 1 := h.tie (by omega) (by omega) (by omega) (by omega) (.inl rfl)
  refine ⟨[altO ts n 0, altO ts n 1], ?_, rfl, fun O => ?_⟩
  · rw [List.nodup_cons]
    refine ⟨fun z => ?_, by simp⟩
    have e := congrFun (List.mem_singleton.mp z) (0, 1)
    have := (show altO ts n 1 (0, 1) from e ▸ ⟨t01, rfl⟩).2
    cases this
  · simp only [List.mem_cons, List.not_mem_nil, or_false]
    constructor
    · rintro (rfl | rfl)
      · exact alt_led h ev (.inl rfl)
      · exact alt_led h ev (.inr rfl)
    · intro hO
      rcases hO.one 0 1 t01 with z | z
      · exact .inl (alt_one h ev hO z)
      · refine .inr ?_
        have e := alt_one h ev (led_rev hO) z
        funext x
        have ex := congrFun e (x.2, x.1)
        dsimp only at ex
        rw [ex]
        refine propext ⟨fun ⟨t, k⟩ => ?_, fun ⟨t, k⟩ => ?_⟩
        · have p := alt_par h ev t
          dsimp only at p k t
          exact ⟨⟨t.2.1, t.1, by rw [adj_comm]; exact t.2.2⟩, by omega⟩
        · have p := alt_par h ev t
          exact ⟨⟨t.2.1, t.1, by rw [adj_comm]; exact t.2.2⟩, by dsimp only; omega⟩
theorem alt_none (h : AltW ts n true) (odd : n % 2 = 1) : CntP (LedI ts (up n)) 0 := by
  have b4 := h.big
  have t01 : TI ts (up n) 0 1 := h.tie (by omega) (by omega) (by omega) (by omega) (.inl rfl)
  refine ⟨[], List.nodup_nil, rfl, fun O => ⟨fun z => absurd z List.not_mem_nil, fun hO => ?_⟩⟩
  rcases hO.one 0 1 t01 with z | z
  · exact (alt_odd h odd hO z).elim
  · exact (alt_odd h odd (led_rev hO) z).elim
theorem alt_gap (h : AltW ts n r) (b5 : r = true → 5 ≤ n) : GapC ts (up n) (up n) := fun A cA x hx ax y hy => by
  have b4 := h.big
  have gap : ∀ {u v : Int}, u ∈ up n → v ∈ up n → ¬ (v = u + 1 ∨ u = v + 1 ∨ (r = true ∧ ((u = 0 ∧ v = (n : Int) - 1) ∨ (v = 0 ∧ u = (n : Int) - 1)))) → A u → A v := fun {u v} hu hv ne au => cA u hu v hv au (Bool.eq_false_iff.mpr fun z => ne ((h.adj u hu v hv).mp z))
  have m0 : (0 : Int) ∈ up n := mem_up.mpr ⟨by omega, by omega⟩
  have m2 : (2 : Int) ∈ up n := mem_up.mpr ⟨by omega, by omega⟩
  have m3 : (3 : Int) ∈ up n := mem_up.mpr ⟨by omega, by omega⟩
  have hx' := mem_up.mp hx
  have hy' := mem_up.mp hy
  -- all come to 0, and from 0 to all
  have a0 : A 0 := by
    by_cases x0 : x = 0
    · rw [← x0]; exact ax
    by_cases x1 : x = 1
    · have a3 : A 3 := gap hx m3 (by omega) ax
      exact gap m3 m0 (fun z => by
        rcases z with z | z | ⟨z, w⟩
        · omega
        · omega
        · have := b5 z
          omega) a3
    by_cases xl : r = true ∧ x = (n : Int) - 1
    · have := b5 xl.1
      have a2 : A 2 := gap hx m2 (by omega) ax
      exact gap m2 m0 (by omega) a2
    · exact gap hx m0 (fun z => by
        rcases z with z | z | ⟨z, w⟩
        · omega
        · omega
        · rcases w with w | w
          · omega
          · exact xl ⟨z, w.2⟩) ax
  by_cases y0 : y = 0
  · rw [y0]; exact a0
  by_cases y1 : y = 1
  · have a3 : A 3 := gap m0 m3 (fun z => by
      rcases z with z | z | ⟨z, w⟩
      · omega
      · omega
      · have := b5 z
        omega) a0
    exact gap m3 hy (by omega) a3
  by_cases yl : r = true ∧ y = (n : Int) - 1
  · have := b5 yl.1
    have a2 : A 2 := gap m0 m2 (by omega) a0
    exact gap m2 hy (by omega) a2
  · exact gap m0 hy (fun z => by
      rcases z with z | z | ⟨z, w⟩
      · omega
      · omega
      · rcases w with w | w
        · exact yl ⟨z, w.2⟩
        · omega) a0
end
theorem cop_whole {n : Nat} {ts : List Ar} (hn : 0 < n) (hW : WOk n ts) (g : GapC ts (up n) (up n)) : CoP ts n [up n] := by
  refine ⟨?_, fun S hS => ?_, fun S hS => ?_, fun S hS T hT ne => ?_, fun S hS => ?_, fun S hS => ?_⟩
  · rw [List.flatten_cons, List.flatten_nil, List.append_nil]
  · rw [List.mem_singleton.mp hS]; exact up_ne hn
  · rw [List.mem_singleton.mp hS]; exact (ris_up n).1
  · exact absurd ((List.mem_singleton.mp hS).trans (List.mem_singleton.mp hT).symm) ne
  · rw [List.mem_singleton.mp hS]; exact g
  · rw [List.mem_singleton.mp hS]; exact ⟨_, cnt_allL hW⟩
theorem piece_alt {m : Nat} {own : List Ar} {r : Bool} (hW : WOk m own) (h : AltW own m r) (b5 : r = true → 5 ≤ m) : PieceOk m own (if r = true ∧ m % 2 = 1 then 0 else 2) 1 := by
  have b4 := h.big
  refine ⟨hW, ?_, _, cop_whole (by omega) hW (alt_gap h b5), by simp, rfl⟩
  by_cases z : r = true ∧ m % 2 = 1
  · rw [if_pos z]
    obtain ⟨rfl, odd⟩ := z
    exact (cnt_allL hW).uniq (alt_none h odd)
  · rw [if_neg z]
    exact (cnt_allL hW).uniq (alt_two h fun e => by
      have : ¬ m % 2 = 1 := fun w => z ⟨e, w⟩
      omega)
/-! ties by a rule -/
theorem adj_by {n : Nat} {f : Ar → Bool} {x y : Int} (hx : x ∈ up n) (hy : y ∈ up n) : adjB ((pup n n).filter f) x y = (decide (x ≠ y) && f (tieO x y)) := by
  have hx' := mem_up.mp hx
  have hy' := mem_up.mp hy
  unfold adjB
  rw [← Bool.decide_coe (f (tieO x y)), ← Bool.decide_and]
  refine decide_eq_decide.mpr ?_
  rw [List.mem_filter, mem_pup (Nat.le_refl n)]
  refine and_congr_left fun _ => ?_
  unfold tieO
  split
  · dsimp only; omega
  · dsimp only; omega
theorem by_ok (n : Nat) (f : Ar → Bool) : WOk n ((pup n n).filter f) := wok_sub List.filter_sublist
/-- the two beside one another, with all ties between: told by the sets of both -/
theorem cop_join {n m : Nat} {ts is rs : List Ar} {F G : List (List Int)} (h : TwoW n m ts is rs true) (hF : CoP ts n F) (hG : CoP is m G) : CoP rs (n + m) (F ++ G.map (shI (n : Int))) := by
  have flat : ∀ L : List (List Int), (L.map (shI (n : Int))).flatten = shI (n : Int) L.flatten := fun L => by
    induction L with
    | nil => rfl
    | cons S L ih =>
      rw [List.map_cons, List.flatten_cons, List.flatten_cons, ih]
      unfold shI
      rw [List.map_append]
  have inU : ∀ x ∈ up n, x ∈ up (n + m) := fun x hx => by
    have := mem_up.mp hx
    exact mem_up.mpr ⟨this.1, by have := this.2; omega⟩
  have inV : ∀ x ∈ up m, x + (n : Int) ∈ up (n + m) := fun x hx => by
    have := mem_up.mp hx
    exact mem_up.mpr ⟨by have := this.1; omega, by have := this.2; omega⟩
  refine ⟨?_, fun S hS => ?_, fun S hS => ?_, fun S hS T hT ne x hx y hy => ?_, fun S hS => ?_, fun S hS => ?_⟩
  · rw [List.flatten_append, flat, ← up_add]
    exact hF.perm.append (by unfold shI; exact hG.perm.map _)
  · rcases List.mem_append.mp hS with z | z
    · exact hF.ne S z
    · obtain ⟨T, hT, rfl⟩ := List.mem_map.mp z
      unfold shI
      exact fun z => hG.ne T hT (List.map_eq_nil_iff.mp z)
  · rcases List.mem_append.mp hS with z | z
    · exact hF.rise S z
    · obtain ⟨T, hT, rfl⟩ := List.mem_map.mp z
      exact shI_rise (hG.rise T hT)
  · rcases List.mem_append.mp hS with z | z <;> rcases List.mem_append.mp hT with u | u
    · rw [h.one x (hF.mem z x hx) y (hF.mem u y hy)]
      exact hF.tie S z T u ne x hx y hy
    · obtain ⟨U, hU, rfl⟩ := List.mem_map.mp u
      have := h.btw x (hF.mem z x hx) _ (hG.mem hU _ (mem_shI.mp hy))
      rw [Int.sub_add_cancel] at this; exact this
    · obtain ⟨U, hU, rfl⟩ := List.mem_map.mp z
      have := h.btw y (hF.mem u y hy) _ (hG.mem hU _ (mem_shI.mp hx))
      rw [Int.sub_add_cancel] at this
      rw [adj_comm]; exact this
    · obtain ⟨U, hU, rfl⟩ := List.mem_map.mp z
      obtain ⟨U', hU', rfl⟩ := List.mem_map.mp u
      have hx' := mem_shI.mp hx
      have hy' := mem_shI.mp hy
      have := h.two _ (hG.mem hU _ hx') _ (hG.mem hU' _ hy')
      rw [Int.sub_add_cancel, Int.sub_add_cancel] at this
      rw [this]
      exact hG.tie U hU U' hU' (fun z => ne (by rw [z])) _ hx' _ hy'
  · rcases List.mem_append.mp hS with z | z
    · exact gapc_of (hF.mem z) inU h.one (hF.gap S z)
    · obtain ⟨U, hU, rfl⟩ := List.mem_map.mp z
      exact gapc_sh inV h.two (hG.gap U hU)
  · rcases List.mem_append.mp hS with z | z
    · obtain ⟨N, hN⟩ := hF.cnt S z
      exact ⟨N, ledC (fun a ha b hb => (h.one a (hF.mem z a ha) b (hF.mem z b hb)).symm) hN⟩
    · obtain ⟨U, hU, rfl⟩ := List.mem_map.mp z
      obtain ⟨N, hN⟩ := hG.cnt U hU
      exact ⟨N, ledS (fun a ha b hb => h.two a (hG.mem hU a ha) b (hG.mem hU b hb)) hN⟩
/-- as many sets as places at most -/
theorem CoP.few {n : Nat} {ts : List Ar} {F : List (List Int)} (h : CoP ts n F) : F.length ≤ n := by
  have key : ∀ G : List (List Int), (∀ S ∈ G, S ≠ []) → G.length ≤ G.flatten.length := fun G => by
    induction G with
    | nil => exact fun _ => Nat.zero_le _
    | cons S G ih =>
      intro hg
      have := ih fun T hT => hg T (List.mem_cons_of_mem _ hT)
      have := List.length_pos_iff.mpr (hg S List.mem_cons_self)
      rw [List.length_cons, List.flatten_cons, List.length_append]
      omega
  have := key F h.ne
  rw [h.perm.length_eq, up_len] at this
  exact this
/-- places numbered anew -/
theorem ren_cnt {n : Nat} {ts rs : List Ar} {r s : Int → Int} (hW : WOk n ts) (hR : WOk n rs) (ru : ∀ x ∈ up n, r x ∈ up n ∧ s (r x) = x) (su : ∀ x ∈ up n, s x ∈ up n ∧ r (s x) = x) (h : ∀ x ∈ up n, ∀ y ∈ up n, adjB rs (r x) (r y) = adjB ts x y) : (allL rs).length = (allL ts).length := by
  have hs : ∀ x ∈ up n, ∀ y ∈ up n, adjB ts (s x) (s y) = adjB rs x y := fun x hx y hy => by
    have := h _ (su x hx).1 _ (su y hy).1
    rw [(su x hx).2, (su y hy).2] at this
    exact this.symm
  refine (cnt_allL hR).uniq (CntP.map (P := LedI ts (up n)) (fun O z => z.1 ∈ up n ∧ z.2 ∈ up n ∧ O (s z.1, s z.2)) (fun O => ⟨fun hO => ?_, ?_⟩) (fun O O' hO hO' e => ?_) (cnt_allL hW))
  · refine ⟨fun z => z.1 ∈ up n ∧ z.2 ∈ up n ∧ O (r z.1, r z.2), ?_, funext fun z => propext ⟨fun o => ?_, fun o => ?_⟩⟩
    · refine ⟨fun z o => ?_, fun a b t => ?_, fun a b k l => hO.anti _ _ k.2.2 l.2.2, fun a b c k l => ⟨k.1, l.2.1, hO.tr _ _ _ k.2.2 l.2.2⟩⟩
      · have t := hO.ar _ o.2.2
        exact ⟨o.1, o.2.1, by rw [← h _ o.1 _ o.2.1]; exact t.2.2⟩
      · rcases hO.one (r a) (r b) ⟨(ru a t.1).1, (ru b t.2.1).1, by rw [h _ t.1 _ t.2.1]; exact t.2.2⟩ with z | z
        · exact .inl ⟨t.1, t.2.1, z⟩
        · exact .inr ⟨t.2.1, t.1, z⟩
    · have t := hO.ar _ o
      refine ⟨t.1, t.2.1, (su _ t.1).1, (su _ t.2.1).1, ?_⟩
      dsimp only
      rw [(su _ t.1).2, (su _ t.2.1).2]; exact o
    · obtain ⟨a, b, _, _, c⟩ := o
      dsimp only at c
      rw [(su _ a).2, (su _ b).2] at c; exact c
  · rintro ⟨O', hO', rfl⟩
    refine ⟨fun z o => ?_, fun a b t => ?_, fun a b k l => hO'.anti _ _ k.2.2 l.2.2, fun a b c k l => ⟨k.1, l.2.1, hO'.tr _ _ _ k.2.2 l.2.2⟩⟩
    · have t := hO'.ar _ o.2.2
      exact ⟨o.1, o.2.1, by rw [← hs _ o.1 _ o.2.1]; exact t.2.2⟩
    · rcases hO'.one (s a) (s b) ⟨(su a t.1).1, (su b t.2.1).1, by rw [hs _ t.1 _ t.2.1]; exact t.2.2⟩ with z | z
      · exact .inl ⟨t.1, t.2.1, z⟩
      · exact .inr ⟨t.2.1, t.1, z⟩
  · funext z
    have key : ∀ {O O' : Int × Int → Prop}, LedI ts (up n) O → (fun z : Int × Int => z.1 ∈ up n ∧ z.2 ∈ up n ∧ O (s z.1, s z.2)) = (fun z => z.1 ∈ up n ∧ z.2 ∈ up n ∧ O' (s z.1, s z.2)) → O z → O' z := fun {O O'} hO e o => by
      have t := hO.ar _ o
      have ex := congrFun e (r z.1, r z.2)
      dsimp only at ex
      rw [(ru _ t.1).2, (ru _ t.2.1).2] at ex
      exact (ex.mp ⟨(ru _ t.1).1, (ru _ t.2.1).1, o⟩).2.2
    exact propext ⟨key hO e, key hO' e.symm⟩
end My

set_option Elab.async false
set_option linter.all false
set_option maxRecDepth 100000
set_option pp.maxSteps 500
set_option maxHeartbeats 4000000
namespace My
open PySem PySem.Spec PyProof.Rows L2 GxR
def shA2 (k : Nat) (t : Ar) : Ar := ((k : Int) + t.1, (k : Int) + t.2)
theorem cnt_small {n : Nat} {ts : List Ar} {c : Int} (hn : n ≤ 12) (h : (n = 0 ∧ c = 1) ∨ (0 < n ∧ Nb n ts ∧ CwI ts 12 (up n) c) ∨ (0 < n ∧ ¬ Nb n ts ∧ c = 0)) : 0 ≤ c ∧ c < 2 ^ 60 := by
  rcases h with ⟨_, rfl⟩ | ⟨_, _, h⟩ | ⟨_, _, rfl⟩
  · exact ⟨by decide, by decide⟩
  · obtain ⟨a, b⟩ := h.small (by rw [up_len]; exact hn)
    exact ⟨by omega, b⟩
  · exact ⟨by decide, by decide⟩
theorem tw_of {n m : Nat} {ts is rs : List Ar} {b : Bool} (hW : WOk n ts) (hI : WOk m is) (hR : WOk (n + m) rs) (mem : ∀ t, t ∈ rs ↔ t ∈ ts ∨ (∃ u ∈ is, t = shA2 n u) ∨ (b = true ∧ ∃ x ∈ up n, ∃ y ∈ up m, t = (x, (n : Int) + y))) : TwoW n m ts is rs b := by
  refine ⟨fun x hx y hy => ?_, fun x hx y hy => ?_, fun x hx y hy => ?_⟩
  · have h1 := mem_up.mp hx
    have h2 := mem_up.mp hy
    have h1 := h1.2
    have h2 := h2.2
    unfold adjB
    refine decide_eq_decide.mpr ⟨fun h => ?_, fun h => (mem _).mpr (.inl h)⟩
    have tl : (tieO x y).1 < n ∧ (tieO x y).2 < n := by
      unfold tieO
      split <;> exact ⟨by omega, by omega⟩
    rcases (mem _).mp h with h | ⟨u, hu, e⟩ | ⟨_, u, hu, v, hv, e⟩
    · exact h
    · have := (hI.2 u hu).1
      rw [e] at tl
      unfold shA2 at tl
      dsimp only at tl
      omega
    · have := (mem_up.mp hv).1
      rw [e] at tl
      dsimp only at tl
      omega
  · have h1 := (mem_up.mp hx).1
    have h2 := (mem_up.mp hy).1
    have et : tieO (x + (n : Int)) (y + (n : Int)) = shA2 n (tieO x y) := by
      unfold tieO shA2
      by_cases z : x < y
      · rw [if_pos (by omega), if_pos z]
        exact Prod.ext (Int.add_comm _ _) (Int.add_comm _ _)
      · rw [if_neg (by omega), if_neg z]
        exact Prod.ext (Int.add_comm _ _) (Int.add_comm _ _)
    unfold adjB
    rw [et]
    have lo : 0 ≤ (tieO x y).1 ∧ 0 ≤ (tieO x y).2 := by
      unfold tieO
      split <;> exact ⟨by omega, by omega⟩
    refine decide_eq_decide.mpr ⟨fun h => ?_, fun h => (mem _).mpr (.inr (.inl ⟨_, h, rfl⟩))⟩
    rcases (mem _).mp h with h | ⟨u, hu, e⟩ | ⟨_, u, hu, v, hv, e⟩
    · have := (hW.2 _ h).2.2
      unfold shA2 at this
      dsimp only at this
      omega
    · have e1 := congrArg Prod.fst e
      have e2 := congrArg Prod.snd e
      unfold shA2 at e1 e2
      dsimp only at e1 e2
      have : tieO x y = u := Prod.ext (by omega) (by omega)
      rw [this]; exact hu
    · have e1 := congrArg Prod.fst e
      have := (mem_up.mp hu).2
      unfold shA2 at e1
      dsimp only at e1
      omega
  · have h1 := mem_up.mp hx
    have h2 := mem_up.mp hy
    have h11 := h1.1
    have h12 := h1.2
    have h21 := h2.1
    have et : tieO x (y + (n : Int)) = (x, (n : Int) + y) := by
      unfold tieO
      rw [if_pos (by omega)]
      exact Prod.ext rfl (Int.add_comm _ _)
    unfold adjB
    rw [et]
    cases b with
    | true => exact decide_eq_true ((mem _).mpr (.inr (.inr ⟨rfl, x, hx, y, hy, rfl⟩)))
    | false =>
      refine decide_eq_false fun h => ?_
      rcases (mem _).mp h with h | ⟨u, hu, e⟩ | ⟨z, _⟩
      · have := (hW.2 _ h).2.2
        dsimp only at this
        omega
      · have e1 := congrArg Prod.fst e
        have := (hI.2 u hu).1
        unfold shA2 at e1
        dsimp only at e1
        omega
      · cases z
/-- the ties between the first and the second -/
def crsL (n m : Nat) (i : Nat) : List Ar := ((up n).take i).flatMap fun x => (up m).map fun y => (x, (n : Int) + y)
theorem crsL_step {n m i : Nat} (h : i < n) : crsL n m (i + 1) = crsL n m i ++ (up m).map fun y => ((i : Int), (n : Int) + y) := by
  unfold crsL
  rw [List.take_add_one, up_get h, List.flatMap_append]
  show _ ++ List.flatMap _ [(i : Int)] = _
  rw [List.flatMap_cons, List.flatMap_nil, List.append_nil]
theorem crsL_len (n m : Nat) : ∀ i, i ≤ n → (crsL n m i).length = i * m
  | 0, _ => by rw [Nat.zero_mul]; rfl
  | i + 1, h => by
    rw [crsL_step h, List.length_append, List.length_map, up_len, crsL_len n m i (by omega), Nat.succ_mul]
theorem mem_crsL {n m : Nat} {t : Ar} : t ∈ crsL n m n ↔ ∃ x ∈ up n, ∃ y ∈ up m, t = (x, (n : Int) + y) := by
  unfold crsL
  rw [List.take_of_length_le (by rw [up_len]; exact Nat.le_refl _), List.mem_flatMap]
  constructor
  · rintro ⟨x, hx, h⟩
    obtain ⟨y, hy, rfl⟩ := List.mem_map.mp h
    exact ⟨x, hx, y, hy, rfl⟩
  · rintro ⟨x, hx, y, hy, rfl⟩
    exact ⟨x, hx, List.mem_map.mpr ⟨y, hy, rfl⟩⟩
theorem sh_mem {n : Nat} {is : List Ar} {t : Ar} : t ∈ is.map (shA2 n) ↔ ∃ u ∈ is, t = shA2 n u := by
  rw [List.mem_map]
  exact ⟨fun ⟨u, h, e⟩ => ⟨u, h, e.symm⟩, fun ⟨u, h, e⟩ => ⟨u, h, e.symm⟩⟩
theorem sh_pw {n : Nat} {is : List Ar} (h : is.Pairwise ltT) : (is.map (shA2 n)).Pairwise ltT := by
  rw [List.pairwise_map]
  refine h.imp fun {a b} z => ?_
  unfold ltT at z ⊢
  unfold shA2
  dsimp only
  omega
theorem wok_union {n m : Nat} {ts is : List Ar} (hW : WOk n ts) (hI : WOk m is) : WOk (n + m) (ts ++ is.map (shA2 n)) := by
  refine ⟨?_, fun t ht => ?_⟩
  · rw [List.pairwise_append]
    refine ⟨hW.1, sh_pw hI.1, fun a ha b hb => ?_⟩
    obtain ⟨u, hu, rfl⟩ := sh_mem.mp hb
    have h1 := hW.2 a ha
    have h2 := hI.2 u hu
    unfold ltT shA2
    dsimp only
    left; omega
  · rcases List.mem_append.mp ht with z | z
    · have := hW.2 t z
      omega
    · obtain ⟨u, hu, rfl⟩ := sh_mem.mp z
      have := hI.2 u hu
      unfold shA2
      dsimp only
      omega
theorem crs_nd {n m : Nat} : ∀ i, i ≤ n → (crsL n m i).Nodup
  | 0, _ => List.nodup_nil
  | i + 1, h => by
    rw [crsL_step h, List.nodup_append]
    refine ⟨crs_nd i (by omega), ?_, fun a ha b hb e => ?_⟩
    · rw [List.nodup_iff_pairwise_ne, List.pairwise_map]
      refine (ris_up m).1.imp fun {a b} z e => ?_
      have := congrArg Prod.snd e
      dsimp only at this
      omega
    · subst e
      obtain ⟨y, _, rfl⟩ := List.mem_map.mp hb
      unfold crsL at ha
      obtain ⟨x, hx, h⟩ := List.mem_flatMap.mp ha
      obtain ⟨y', _, e⟩ := List.mem_map.mp h
      have e1 := congrArg Prod.fst e
      dsimp only at e1
      obtain ⟨j, hj, ej⟩ := List.getElem_of_mem hx
      rw [List.length_take, up_len] at hj
      rw [List.getElem_take] at ej
      have : (up n)[j]? = some (j : Int) := up_get (by omega)
      rw [List.getElem?_eq_getElem (by rw [up_len]; omega)] at this
      have := Option.some.inj this
      omega
theorem join_nd {n m : Nat} {ts is : List Ar} (hW : WOk n ts) (hI : WOk m is) : (ts ++ (is.map (shA2 n) ++ crsL n m n)).Nodup := by
  rw [List.nodup_append]
  refine ⟨nd_pw hW.1, ?_, fun a ha b hb e => ?_⟩
  · rw [List.nodup_append]
    refine ⟨nd_pw (sh_pw hI.1), crs_nd n (Nat.le_refl _), fun a ha b hb e => ?_⟩
    subst e
    obtain ⟨u, hu, rfl⟩ := sh_mem.mp ha
    obtain ⟨x, hx, y, hy, e⟩ := mem_crsL.mp hb
    have e1 := congrArg Prod.fst e
    have := (hI.2 u hu).1
    have := (mem_up.mp hx).2
    unfold shA2 at e1
    dsimp only at e1
    omega
  · subst e
    have h1 := (hW.2 a ha).2.2
    rcases List.mem_append.mp hb with z | z
    · obtain ⟨u, hu, rfl⟩ := sh_mem.mp z
      have := hI.2 u hu
      unfold shA2 at h1
      dsimp only at h1
      omega
    · obtain ⟨x, hx, y, hy, rfl⟩ := mem_crsL.mp z
      have := (mem_up.mp hy).1
      dsimp only at h1
      omega
theorem wok_join {n m : Nat} {ts is fs : List Ar} (hW : WOk n ts) (hI : WOk m is) (pm : fs.Perm (ts ++ (is.map (shA2 n) ++ crsL n m n))) (pw : fs.Pairwise fun s t => ¬ ltT t s) : WOk (n + m) fs := by
  refine ⟨pw_lt pw (pm.nodup_iff.mpr (join_nd hW hI)), fun t ht => ?_⟩
  rcases List.mem_append.mp (pm.mem_iff.mp ht) with z | z
  · have := hW.2 t z
    omega
  · rcases List.mem_append.mp z with z | z
    · obtain ⟨u, hu, rfl⟩ := sh_mem.mp z
      have := hI.2 u hu
      unfold shA2
      dsimp only
      omega
    · obtain ⟨x, hx, y, hy, rfl⟩ := mem_crsL.mp z
      have h1 := (mem_up.mp hx)
      have h2 := (mem_up.mp hy)
      have := h1.1
      have := h1.2
      have := h2.1
      have := h2.2
      dsimp only
      omega
section
variable {P : Program} {w : World} {K : PySem.W.Frag} {mg : Str → Option Value} {base : Heap}
/-! ### _law_orders -/
abbrev N__law_orders : List Str := ["_law_k", "_law_found", "_law_number"]
theorem sc__law_orders : FnScope N__law_orders ["_law_k"] (defScope s__law_orders) := ⟨rfl, rfl, rfl, by decide +kernel, rfl, by decide +kernel, by decide +kernel⟩
def sp_ords : Sp := fun vs H Q _ => ∃ k : Nat, vs = [.int (k : Int)] ∧ k ≤ 12 ∧ Q (.int ((factT k : Nat) : Int)) H
theorem ok_ords {f : Addr} {fd : FuncData} (B : Bts mg) (F : Fun K "_law_orders" "_law_orders" s__law_orders f fd) : FnOk P w K mg base CX0 1 f fd ["_law_k"] sp_ords := by
  refine F.ok sc__law_orders (fun vs H Q E h => ?_) (fun cdv A outer s H vs Q E hr h => ?_)
  · obtain ⟨k, rfl, _⟩ := h; rfl
  · obtain ⟨k, rfl, hk, q⟩ := h
    refine ⟨_, (pss_cons (ps_set (i := 1) sc__law_orders.nd rfl (by first | exact Or.inl rfl | exact Or.inr rfl) pe_int)
    (pss_cons (ps_for PassesOwn.never rfl (pi_range1 (by rfl) B.range (pa_cons (pv 0) pa_nil)) (pg_name (i := 2) sc__law_orders.nd rfl (by first | exact Or.inl rfl | exact Or.inr rfl))
      (pss_one (ps_set (i := 1) sc__law_orders.nd rfl (by first | exact Or.inl rfl | exact Or.inr rfl) (pe_op op_mul (pv 1) (pe_op op_add (pv 2) pe_int)))))
    (pss_one (ps_ret (pv 1))))), ?_⟩
    refine ⟨_, rfl, _, rfl, by omega, by omega, ?_⟩
    refine for_range (fun j σ HX => ∃ y2, σ = [some (.int (k : Int)), some (.int ((factT j : Nat) : Int)), y2] ∧ HX = H) ⟨_, rfl, rfl⟩ ?_ ?_
    · rintro j σ HX hj ⟨y2, rfl, rfl⟩
      refine ⟨_, rfl, _, rfl, _, _, rfl, rfl, _, _, rfl, rfl, .inr ⟨by omega, by omega⟩, ?_⟩
      refine ⟨some (.int (0 + (j : Int))), ?_, rfl⟩
      have : ((factT j : Nat) : Int) * (0 + (j : Int) + 1) = ((factT (j + 1) : Nat) : Int) := by
        show _ = ((factT j * (j + 1) : Nat) : Int)
        rw [Int.natCast_mul]
        congr 1
        omega
      rw [← this]; rfl
    · rintro σ HX ⟨y2, rfl, rfl⟩
      refine ⟨_, rfl, ?_⟩
      rw [show ((k : Int)).toNat = k from Int.toNat_natCast k]
      exact q
end
end My

set_option Elab.async false
set_option linter.all false
set_option maxRecDepth 100000
set_option pp.maxSteps 500
set_option maxHeartbeats 4000000
namespace My
open PySem PySem.Spec PyProof.Rows L2 GxR
theorem St1.reflD {PT : Addr} {H : Hp} (t : TabG H PT) : St1 PT H H := ⟨FrM.refl _ _, t⟩
theorem St1.transD {PT : Addr} {H0 H1 H2 : Hp} (a : St1 PT H0 H1) (b : St1 PT H1 H2) : St1 PT H0 H2 := ⟨a.fr.trans b.fr, b.tg⟩
theorem tab_neD {PT p : Addr} {H : Hp} {xs : List V} (t : TabG H PT) (e : H p = some (.lst xs)) : p ≠ PT := fun z => by
  obtain ⟨ps, h1, _⟩ := t
  rw [z, h1] at e; cases e
theorem St1.putD {PT p : Addr} {H0 H : Hp} {o : HO} {xs : List V} (h : St1 PT H0 H) (e : H0 p = none) (e2 : H p = some (.lst xs)) : St1 PT H0 (upd H p o) := by
  obtain ⟨ps, h1, h2⟩ := h.tg
  exact ⟨h.fr.putN e, ps, by rw [upd_ne (Ne.symm (tab_neD h.tg e2))]; exact h1, h2⟩
theorem St1.lstD {PT p : Addr} {H0 H : Hp} {xs : List V} (h : St1 PT H0 H) (t : TabG H0 PT) (e : H0 p = some (.lst xs)) : H p = some (.lst xs) := h.fr p _ (fun z => tab_neD t e (List.mem_singleton.mp z)) e
theorem St1.tstD {PT : Addr} {H0 H : Hp} (h : St1 PT H0 H) (t : TabG H0 PT) : Tst H0 H := frm_tst h.fr t
theorem catA_ties {K : PySem.W.Frag} {ts as : List Ar} {H : Hp} {q1 q2 : Addr} {us vs : List V} {Qf : VK} (e1 : H q1 = some (.tup us)) (h1 : Ties H us ts) (e2 : H q2 = some (.tup vs)) (h2 : Ties H vs as) (l : ts.length + as.length ≤ 10000)
    (rest : ∀ (q : Addr) (xs : List V) (H' : Hp), Same H H' → H' q = some (.tup xs) → Ties H' xs (ts ++ as) → Qf (.ref q) H') : rCatA K (.ref q1) (.ref q2) H Qf := by
  have l1 := h1.len
  have l2 := h2.len
  refine ⟨q1, q2, us, vs, rfl, rfl, SqT.of e1, SqT.of e2, sz (by rw [l1, l2]; omega), fun z => ?_, fun _ z => ?_, fun _ _ p np => ?_⟩
  · rw [z] at l1
    have : ts = [] := List.length_eq_zero_iff.mp l1.symm
    exact rest q2 vs H (same_refl _) e2 (by rw [this]; exact h2)
  · rw [z] at l2
    have : as = [] := List.length_eq_zero_iff.mp l2.symm
    exact rest q1 us H (same_refl _) e1 (by rw [this, List.append_nil]; exact h1)
  · have sp := same_new (o := .tup (us ++ vs)) np
    exact rest p _ _ sp upd_same ((h1.mono (Same.tst sp)).app (h2.mono (Same.tst sp)))
theorem union_mem {n m : Nat} {ts is : List Ar} (t : Ar) : t ∈ ts ++ is.map (shA2 n) ↔ t ∈ ts ∨ (∃ u ∈ is, t = shA2 n u) ∨ (false = true ∧ ∃ x ∈ up n, ∃ y ∈ up m, t = (x, (n : Int) + y)) := by
  rw [List.mem_append, sh_mem]
  constructor
  · rintro (h | h)
    · exact .inl h
    · exact .inr (.inl h)
  · rintro (h | h | ⟨z, _⟩)
    · exact .inl h
    · exact .inr h
    · cases z
theorem join_mem {n m : Nat} {ts is fs : List Ar} (pm : fs.Perm (ts ++ (is.map (shA2 n) ++ crsL n m n))) (t : Ar) : t ∈ fs ↔ t ∈ ts ∨ (∃ u ∈ is, t = shA2 n u) ∨ (true = true ∧ ∃ x ∈ up n, ∃ y ∈ up m, t = (x, (n : Int) + y)) := by
  rw [pm.mem_iff, List.mem_append, List.mem_append, sh_mem, mem_crsL]
  constructor
  · rintro (h | h | h)
    · exact .inl h
    · exact .inr (.inl h)
    · exact .inr (.inr ⟨rfl, h⟩)
  · rintro (h | h | ⟨_, h⟩)
    · exact .inl h
    · exact .inr (.inl h)
    · exact .inr (.inr h)
theorem fact_lt : ∀ k, k ≤ 6 → 0 < factT k ∧ factT k < 1073741824 := by decide +kernel
theorem more_lt : ∀ f, f ≤ 6 → ∀ s, s ≤ 6 → factT (f + s) / factT f / factT s < 1000 := by decide +kernel
section
variable {P : Program} {w : World} {K : PySem.W.Frag} {mg : Str → Option Value} {base : Heap}
end
end My

set_option Elab.async false
set_option linter.all false
set_option maxRecDepth 100000
set_option pp.maxSteps 500
set_option maxHeartbeats 4000000
namespace My
open PySem PySem.Spec PyProof.Rows L2 GxR
theorem flt_yes {l : List Ar} {j : Nat} {t : Ar} {f : Ar → Bool} (e : l[j]? = some t) (h : f t = true) : (l.take (j + 1)).filter f = (l.take j).filter f ++ [t] := by
  rw [List.take_add_one, e, List.filter_append]
  show _ ++ List.filter f [t] = _
  rw [List.filter_cons_of_pos h]; rfl
theorem flt_no {l : List Ar} {j : Nat} {t : Ar} {f : Ar → Bool} (e : l[j]? = some t) (h : f t = false) : (l.take (j + 1)).filter f = (l.take j).filter f := by
  rw [List.take_add_one, e, List.filter_append]
  show _ ++ List.filter f [t] = _
  rw [List.filter_cons_of_neg (by rw [h]; decide)]
  exact List.append_nil _
/-- a piece by colours -/
theorem piece_key {m k : Nat} {f : Ar → Bool} {key : Int → Nat} (k0 : 0 < k) (lt : ∀ x ∈ up m, key x < k) (onto : ∀ c, c < k → ∃ x ∈ up m, key x = c) (h : ∀ x y : Int, 0 ≤ x → x < y → y < (m : Int) → f (x, y) = decide (key x ≠ key y)) : PieceOk m ((pup m m).filter f) (factT k) k := by
  refine piece_col (by_ok m f) k0 ⟨lt, onto, fun x hx y hy => ?_⟩
  rw [adj_by hx hy]
  have hx' := mem_up.mp hx
  have hy' := mem_up.mp hy
  unfold tieO
  by_cases e : x = y
  · subst e
    rw [decide_eq_false (show ¬ x ≠ x from fun z => z rfl), decide_eq_false (show ¬ key x ≠ key x from fun z => z rfl)]; rfl
  · rw [decide_eq_true (show x ≠ y from e), Bool.true_and]
    split
    · exact h x y hx'.1 (by assumption) hy'.2
    · rw [h y x hy'.1 (by omega) hx'.2]
      exact decide_eq_decide.mpr ⟨fun z w => z w.symm, fun z w => z w.symm⟩
theorem key_id {m : Nat} (c : Nat) (h : c < m) : ∃ x ∈ up m, x.toNat = c := ⟨(c : Int), mem_up.mpr ⟨by omega, by omega⟩, by omega⟩
theorem piece_none {m : Nat} (hm : 0 < m) : PieceOk m [] 1 1 := by
  have h := piece_key (m := m) (k := 1) (f := fun _ => false) (key := fun _ => 0) (by omega) (fun _ _ => by omega) (fun c hc => ⟨0, mem_up.mpr ⟨by omega, by omega⟩, by omega⟩) fun x y _ _ _ => (decide_eq_false fun z => z rfl).symm
  rw [show (pup m m).filter (fun _ => false) = [] from List.filter_eq_nil_iff.mpr fun _ _ => by simp] at h
  exact h
theorem piece_all {m : Nat} (hm : 0 < m) : PieceOk m (pup m m) (factT m) m := by
  have h := piece_key (m := m) (k := m) (f := fun _ => true) (key := Int.toNat) hm (fun x hx => by have := mem_up.mp hx; omega) key_id fun x y _ _ _ => (decide_eq_true (by omega)).symm
  rw [show (pup m m).filter (fun _ => true) = pup m m from List.filter_eq_self.mpr fun _ _ => rfl] at h
  exact h
theorem par_lt {m : Nat} : ∀ x ∈ up m, (x % 2).toNat < 2 := fun x _ => by omega
theorem par_on {m : Nat} (h : 2 ≤ m) (c : Nat) (hc : c < 2) : ∃ x ∈ up m, (x % 2).toNat = c := ⟨(c : Int), mem_up.mpr ⟨by omega, by omega⟩, by omega⟩
theorem piece_row {m : Nat} (hm : 2 ≤ m) : PieceOk m ((pup m m).filter (fun t : Ar => decide (t.2 = t.1 + 1))) 2 (if m < 4 then 2 else 1) := by
  by_cases h4 : m < 4
  · rw [if_pos h4]
    refine piece_key (k := 2) (key := fun x => (x % 2).toNat) (by omega) par_lt (par_on hm) fun x y x0 xy y1 => decide_eq_decide.mpr (by omega)
  · rw [if_neg h4]
    refine piece_alt (r := false) (by_ok m _) ⟨by omega, fun x hx y hy => ?_⟩ (fun z => by cases z)
    rw [adj_by hx hy]
    have hx' := mem_up.mp hx
    have hy' := mem_up.mp hy
    unfold tieO
    rw [Bool.and_eq_true, decide_eq_true_eq]
    split
    · rw [decide_eq_true_eq]
      dsimp only
      simp only [Bool.false_eq_true, false_and, or_false]
      omega
    · rw [decide_eq_true_eq]
      dsimp only
      simp only [Bool.false_eq_true, false_and, or_false]
      omega
theorem piece_ring {m : Nat} (hm : 3 ≤ m) : PieceOk m ((pup m m).filter (fun t : Ar => (decide (t.2 = t.1 + 1) || decide (t.2 - t.1 = (m : Int) - 1)))) (if m = 3 then 6 else if m % 2 = 1 then 0 else 2) (if m = 3 then 3 else if m = 4 then 2 else 1) := by
  by_cases h3 : m = 3
  · rw [if_pos h3, if_pos h3]
    subst h3
    exact piece_key (k := 3) (key := Int.toNat) (by omega) (fun x hx => by have := mem_up.mp hx; omega) key_id fun x y x0 xy y1 => by
      rw [← Bool.decide_or]
      exact decide_eq_decide.mpr (by omega)
  rw [if_neg h3, if_neg h3]
  by_cases h4 : m = 4
  · rw [if_pos h4]
    subst h4
    exact piece_key (k := 2) (key := fun x => (x % 2).toNat) (by omega) par_lt (par_on (by omega)) fun x y x0 xy y1 => by
      rw [← Bool.decide_or]
      exact decide_eq_decide.mpr (by omega)
  · rw [if_neg h4]
    have h := piece_alt (m := m) (own := (pup m m).filter (fun t : Ar => (decide (t.2 = t.1 + 1) || decide (t.2 - t.1 = (m : Int) - 1)))) (r := true) (by_ok m _) ⟨by omega, fun x hx y hy => by
      rw [adj_by hx hy]
      have hx' := mem_up.mp hx
      have hy' := mem_up.mp hy
      unfold tieO
      rw [Bool.and_eq_true, decide_eq_true_eq]
      split
      · rw [Bool.or_eq_true, decide_eq_true_eq, decide_eq_true_eq]
        dsimp only
        simp only [true_and]
        omega
      · rw [Bool.or_eq_true, decide_eq_true_eq, decide_eq_true_eq]
        dsimp only
        simp only [true_and]
        omega⟩ (fun _ => by omega)
    rw [show (if true = true ∧ m % 2 = 1 then 0 else 2) = (if m % 2 = 1 then 0 else 2) from by simp] at h
    exact h
theorem piece_star {m : Nat} (hm : 2 ≤ m) : PieceOk m ((pup m m).filter (fun t : Ar => decide (t.1 = 0))) 2 2 :=
  piece_key (k := 2) (key := fun x => if x = 0 then 0 else 1) (by omega) (fun x _ => by split <;> omega) (fun c hc => ⟨(c : Int), mem_up.mpr ⟨by omega, by omega⟩, by split <;> omega⟩) fun x y x0 xy y1 => decide_eq_decide.mpr (by
    rw [if_neg (show ¬ y = 0 by omega)]
    by_cases z : x = 0
    · rw [if_pos z]
      exact ⟨fun _ => by decide, fun _ => z⟩
    · rw [if_neg z]
      exact ⟨fun w => absurd w z, fun w => absurd rfl w⟩)
theorem piece_groups {m j : Nat} (h2 : 2 ≤ j) (hj : j ≤ m) {g : Int} (eg : g = (j : Int)) : PieceOk m ((pup m m).filter (fun t : Ar => decide (t.1 % g ≠ t.2 % g))) (factT j) j := by
  subst eg
  have p : (0 : Int) < (j : Int) := by omega
  refine piece_key (k := j) (key := fun x => (x % (j : Int)).toNat) (by omega) (fun x _ => ?_) (fun c hc => ⟨(c : Int), mem_up.mpr ⟨by omega, by omega⟩, ?_⟩) fun x y x0 xy y1 => decide_eq_decide.mpr ?_
  · have := Int.emod_nonneg x (show (j : Int) ≠ 0 by omega)
    have := Int.emod_lt_of_pos x p
    omega
  · show ((c : Int) % (j : Int)).toNat = c
    rw [Int.emod_eq_of_lt (by omega) (by omega)]
    omega
  · dsimp only
    have := Int.emod_nonneg x (show (j : Int) ≠ 0 by omega)
    have := Int.emod_nonneg y (show (j : Int) ≠ 0 by omega)
    omega
theorem fact_12 : ∀ k, k ≤ 12 → 0 < factT k ∧ factT k < 1073741824 := by decide +kernel
theorem fall2 {a : Bool} {T Z : Prop} (z : Z) (t : a = true → Z → T) : if a = true then T else Z := by
  cases a with
  | true => exact t rfl z
  | false => exact z
section
variable {P : Program} {w : World} {K : PySem.W.Frag} {mg : Str → Option Value} {base : Heap}
/-! ### _law_piece -/
abbrev N__law_piece : List Str := ["_law_left_here", "_law_many", "_law_way", "_law_pairs_here", "_law_a", "_law_b", "_law_ring", "_law_groups", "_law_ties"]
theorem sc__law_piece : FnScope N__law_piece ["_law_left_here", "_law_many"] (defScope s__law_piece) := ⟨rfl, rfl, rfl, by decide +kernel, rfl, by decide +kernel, by decide +kernel⟩
def sp_piece29 : Sp := fun vs H Q _ => ∃ (L : Addr) (m : Nat) (c : Int), vs = [.ref L, .int (m : Int)] ∧ Lf H L c ∧ 1 ≤ m ∧ m ≤ 12 ∧ c < 2 ^ 47 ∧
  ∀ (T O : Addr) (us : List V) (own : List Ar) (N k : Nat) (H' : Hp), O ≠ L → Fr L H H' → Lf H' L (c + 2) → H' T = some (.tup [.ref O, .int (N : Int), .int (k : Int)]) → H' O = some (.lst us) → Ties H' us own → PieceOk m own N k → N < 2 ^ 60 → Q (.ref T) H'
theorem ok_piece29 {f : Addr} {fd : FuncData} (B : Bts mg) (F : Fun K "_law_piece" "_law_piece" s__law_piece f fd) (c__law_pick : Cl P w K mg base 2 "_law_pick" sp_pick) (c__law_pairs : Cl P w K mg base 1 "_law_pairs" sp_pairs) (c__law_orders : Cl P w K mg base 1 "_law_orders" sp_ords) : FnOk P w K mg base CX0 3 f fd ["_law_left_here", "_law_many"] sp_piece29 := by
  refine F.ok sc__law_piece (fun vs H Q E h => ?_) (fun cdv A outer s H vs Q E hr h => ?_)
  · obtain ⟨L, m, c, rfl, _⟩ := h; rfl
  · obtain ⟨L, m, c, rfl, lf, m1, m12, hc, q⟩ := h
    refine ⟨_, (pss_cons (ps_set (i := 2) sc__law_piece.nd rfl (by first | exact Or.inl rfl | exact Or.inr rfl) (pe_c c__law_pick hr (by decide) (by rfl) (pa_cons (pv 0) (pa_cons pe_int pa_nil))))
    (pss_cons (ps_set (i := 3) sc__law_piece.nd rfl (by first | exact Or.inl rfl | exact Or.inr rfl) (pe_c c__law_pairs hr (by decide) (by rfl) (pa_cons (pv 1) pa_nil)))
    (pss_cons (ps_if (PW.pt (pw_or (pt_cmpR op_eq (pv 2) pe_int (nomark _)) (pw_or1 (pt_cmpR op_eq (pv 1) pe_int (nomark _))))) (pss_one (ps_ret (pe_tup (pa_cons (pe_lst pa_nil) (pa_cons pe_int (pa_cons pe_int pa_nil)))))) pss_nil)
    (pss_cons (ps_if (pt_cmpR op_eq (pv 2) pe_int (nomark _)) (pss_one (ps_ret (pe_tup (pa_cons (pv 3) (pa_cons (pe_c c__law_orders hr (by decide) (by rfl) (pa_cons (pv 1) pa_nil)) (pa_cons (pv 1) pa_nil)))))) pss_nil)
    (pss_cons (ps_if (pt_cmpR op_eq (pv 2) pe_int (nomark _)) (pss_one (ps_ret (pe_tup (pa_cons (pe_lc (own := [("_law_a", 4), ("_law_b", 5)]) (g := (gTup K 2 (gCons (gName 4) (gCons (gName 5) gNil)))) rfl sc__law_piece.nd (pi_list (pv 3)) (blkOk_by (own := [("_law_a", 4), ("_law_b", 5)]) (N := N__law_piece) (sc := defScope s__law_piece) (by decide +kernel)) (fun _ _ _ _ _ => (pg_tup rfl (pgs_cons (pg_name (i := 4) sc__law_piece.nd rfl (by first | exact Or.inl rfl | exact Or.inr rfl)) (pgs_cons (pg_name (i := 5) sc__law_piece.nd rfl (by first | exact Or.inl rfl | exact Or.inr rfl)) pgs_nil)))) (fun _ _ _ _ _ => (pts_one (pt_cmpR op_eq (pv 5) (pe_op op_add (pv 4) pe_int) (nomark _)))) (fun _ _ _ _ _ => (pe_tup (pa_cons (pv 4) (pa_cons (pv 5) pa_nil))))) (pa_cons pe_int (pa_cons (pe_ix ix_list (pe_lst (pa_cons pe_int (pa_cons pe_int pa_nil))) (pe_callTy call_int1 (by rfl) B.int (by decide +kernel) (pa_cons (pe_cmpR op_lt (pv 1) pe_int (nomark _)) pa_nil)) (fun _ _ => rfl)) pa_nil)))))) pss_nil)
    (pss_cons (ps_if (PW.pt (pw_and (pt_cmpR op_eq (pv 2) pe_int (nomark _)) (pw_and1 (pt_cmpR op_gt (pv 1) pe_int (nomark _))))) (pss_cons (ps_setLc (i := 6) (own := [("_law_a", 4), ("_law_b", 5)]) (g := (gTup K 2 (gCons (gName 4) (gCons (gName 5) gNil)))) rfl sc__law_piece.nd rfl rfl (sw_true rfl rfl rfl (by decide +kernel)) (pi_list (pv 3)) (blkOk_by (own := [("_law_a", 4), ("_law_b", 5)]) (N := N__law_piece) (sc := defScope s__law_piece) (by decide +kernel)) (fun _ _ _ _ _ => (pg_tup rfl (pgs_cons (pg_name (i := 4) sc__law_piece.nd rfl (by first | exact Or.inl rfl | exact Or.inr rfl)) (pgs_cons (pg_name (i := 5) sc__law_piece.nd rfl (by first | exact Or.inl rfl | exact Or.inr rfl)) pgs_nil)))) (fun _ _ _ _ _ => (pts_one (PW.pt (pw_or (pt_cmpR op_eq (pv 5) (pe_op op_add (pv 4) pe_int) (nomark _)) (pw_or1 (pt_cmpR op_eq (pe_op op_sub (pv 5) (pv 4)) (pe_op op_sub (pv 1) pe_int) (nomark _))))))) (fun _ _ _ _ _ => (pe_tup (pa_cons (pv 4) (pa_cons (pv 5) pa_nil)))))
      (pss_cons (ps_if (pt_cmpR op_eq (pv 1) pe_int (nomark _)) (pss_one (ps_ret (pe_tup (pa_cons (pv 6) (pa_cons pe_int (pa_cons pe_int pa_nil)))))) pss_nil)
      (pss_one (ps_ret (pe_tup (pa_cons (pv 6) (pa_cons (pe_op op_mul pe_int (pe_callTy call_int1 (by rfl) B.int (by decide +kernel) (pa_cons (pe_cmpR op_eq (pe_op op_mod (pv 1) pe_int) pe_int (nomark _)) pa_nil))) (pa_cons (pe_ix ix_list (pe_lst (pa_cons pe_int (pa_cons pe_int pa_nil))) (pe_callTy call_int1 (by rfl) B.int (by decide +kernel) (pa_cons (pe_cmpR op_eq (pv 1) pe_int (nomark _)) pa_nil)) (fun _ _ => rfl)) pa_nil)))))))) pss_nil)
    (pss_cons (ps_if (pt_cmpR op_eq (pv 2) pe_int (nomark _)) (pss_one (ps_ret (pe_tup (pa_cons (pe_lc (own := [("_law_a", 4), ("_law_b", 5)]) (g := (gTup K 2 (gCons (gName 4) (gCons (gName 5) gNil)))) rfl sc__law_piece.nd (pi_list (pv 3)) (blkOk_by (own := [("_law_a", 4), ("_law_b", 5)]) (N := N__law_piece) (sc := defScope s__law_piece) (by decide +kernel)) (fun _ _ _ _ _ => (pg_tup rfl (pgs_cons (pg_name (i := 4) sc__law_piece.nd rfl (by first | exact Or.inl rfl | exact Or.inr rfl)) (pgs_cons (pg_name (i := 5) sc__law_piece.nd rfl (by first | exact Or.inl rfl | exact Or.inr rfl)) pgs_nil)))) (fun _ _ _ _ _ => (pts_one (pt_cmpR op_eq (pv 4) pe_int (nomark _)))) (fun _ _ _ _ _ => (pe_tup (pa_cons (pv 4) (pa_cons (pv 5) pa_nil))))) (pa_cons pe_int (pa_cons pe_int pa_nil)))))) pss_nil)
    (pss_cons (ps_set (i := 7) sc__law_piece.nd rfl (by first | exact Or.inl rfl | exact Or.inr rfl) (pe_op op_add pe_int (pe_c c__law_pick hr (by decide) (by rfl) (pa_cons (pv 0) (pa_cons (pe_op op_sub (pv 1) pe_int) pa_nil)))))
    (pss_cons (ps_setLc (i := 8) (own := [("_law_a", 4), ("_law_b", 5)]) (g := (gTup K 2 (gCons (gName 4) (gCons (gName 5) gNil)))) rfl sc__law_piece.nd rfl rfl (sw_true rfl rfl rfl (by decide +kernel)) (pi_list (pv 3)) (blkOk_by (own := [("_law_a", 4), ("_law_b", 5)]) (N := N__law_piece) (sc := defScope s__law_piece) (by decide +kernel)) (fun _ _ _ _ _ => (pg_tup rfl (pgs_cons (pg_name (i := 4) sc__law_piece.nd rfl (by first | exact Or.inl rfl | exact Or.inr rfl)) (pgs_cons (pg_name (i := 5) sc__law_piece.nd rfl (by first | exact Or.inl rfl | exact Or.inr rfl)) pgs_nil)))) (fun _ _ _ _ _ => (pts_one (pt_cmpR op_ne (pe_op op_mod (pv 4) (pv 7)) (pe_op op_mod (pv 5) (pv 7)) (nomark _)))) (fun _ _ _ _ _ => (pe_tup (pa_cons (pv 4) (pa_cons (pv 5) pa_nil)))))
    (pss_one (ps_ret (pe_tup (pa_cons (pv 8) (pa_cons (pe_c c__law_orders hr (by decide) (by rfl) (pa_cons (pv 7) pa_nil)) (pa_cons (pv 7) pa_nil))))))))))))))), ?_⟩
    refine ⟨_, rfl, L, 6, c, rfl, lf, by omega, by omega, by omega, fun r H1 r0 r6 fr1 lf1 => ?_⟩
    refine ⟨_, rfl, m, rfl, by omega, fun Pp pvs H2 nP s12 eP2 hP2 => ?_⟩
    have fr2 := fr1.trans (Fr.of s12)
    have lf2 := lf1.same s12
    have PL : Pp ≠ L := lf1.ne nP
    have ppl := hP2.len
    have pll := pup_len m m
    have mm : m * m ≤ 144 := Nat.mul_le_mul m12 m12
    have one : ∀ (O : Addr) (us : List V) (own : List Ar) (N k : Nat) (H3 : Hp), Fr L H H3 → O ≠ L → Lf H3 L (c + 2) → H3 O = some (.lst us) → Ties H3 us own → PieceOk m own N k → N < 2 ^ 60 → ∀ T, H3 T = none → Q (.ref T) (upd H3 T (.tup [.ref O, .int (N : Int), .int (k : Int)])) := fun O us own N k H3 fr OL l3 eO hO hk hN T nT => by
      have sT := same_new (o := .tup [.ref O, .int (N : Int), .int (k : Int)]) nT
      exact q T O us own N k _ OL (fr.trans (Fr.of sT)) (l3.same sT) upd_same (sT _ _ eO) (hO.mono (Same.tst sT)) hk hN
    have none1 : ∀ (l : Addr), H2 l = none → ∀ T, upd H2 l (.lst []) T = none → Q (.ref T) (upd (upd H2 l (.lst [])) T (.tup [.ref l, .int 1, .int 1])) := fun l nl T nT => by
      have sl := same_new (o := .lst []) nl
      exact one l [] [] 1 1 _ (fr2.trans (Fr.of sl)) (lf2.ne nl) ((lf2.same sl).mono (by omega)) upd_same trivial (piece_none (by omega)) (by decide) T nT
    -- none
    refine ⟨_, rfl, rfl, _, rfl, ite2 (fun e => ?_) (fun e => ?_)⟩
    · refine iteT ⟨Nat.zero_le _, fun l nl => ?_⟩
      exact ⟨by show 3 ≤ sizeLine; decide, fun T nT => none1 l nl T nT⟩
    refine ⟨_, rfl, rfl, _, rfl, ite2 (fun e => ?_) (fun e1 => ?_)⟩
    · refine ⟨Nat.zero_le _, fun l nl => ?_⟩
      exact ⟨by show 3 ≤ sizeLine; decide, fun T nT => none1 l nl T nT⟩
    have m2 : 2 ≤ m := by
      have := of_decide_eq_false (Bool.eq_false_iff.mpr e1)
      have : m ≠ 1 := fun z => this (by rw [z]; rfl)
      omega
    -- all
    refine ⟨_, rfl, rfl, _, rfl, ite2 (fun e => ?_) (fun e => ?_)⟩
    · refine ⟨_, rfl, _, rfl, m, rfl, by omega, _, rfl, by show 3 ≤ sizeLine; decide, fun T nT => ?_⟩
      exact one Pp pvs _ _ _ H2 fr2 PL (lf2.mono (by omega)) eP2 hP2 (piece_all (by omega)) (Nat.lt_trans (fact_12 m m12).2 (by decide)) T nT
    -- a row
    refine ⟨_, rfl, rfl, _, rfl, ite2 (fun e => ?_) (fun e => ?_)⟩
    · skip
      refine ⟨_, rfl, Pp, rfl, ⟨_, SqL.of eP2⟩, fun E1 nE1 => ?_⟩
      have E1L : E1 ≠ L := lf2.ne nE1
      refine wk (walk_list (K := K) (a := Pp) (xs := pvs)) (fun j HX => ∃ ws, Same H2 HX ∧ HX E1 = some (.lst ws) ∧ Ties HX ws (((pup m m).take j).filter (fun t : Ar => decide (t.2 = t.1 + 1)))) ⟨[], same_new nE1, upd_same, by exact trivial⟩ ?_ ?_ ?_
      · rintro j HX _ ⟨_, sX, _⟩
        exact SqL.of (sX _ _ eP2)
      · rintro j x HX0 HX hj ⟨ws, sX, eE, hw⟩ ⟨rfl, hx⟩
        obtain ⟨t, et, ht⟩ := hP2.at hx
        obtain ⟨pt, rfl, ept⟩ := ht.mono (Same.tst sX)
        have hb := (mem_pup (Nat.le_refl m)).mp (List.mem_of_getElem? et)
        have wl := hw.len
        have fl := List.length_filter_le (fun t : Ar => decide (t.2 = t.1 + 1)) ((pup m m).take j)
        rw [List.length_take] at fl
        have skip : (fun t : Ar => decide (t.2 = t.1 + 1)) t = false → ∃ ws, Same H2 HX ∧ HX E1 = some (.lst ws) ∧ Ties HX ws (((pup m m).take (j + 1)).filter (fun t : Ar => decide (t.2 = t.1 + 1))) := fun z => ⟨ws, sX, eE, by rw [flt_no et z]; exact hw⟩
        have take : (fun t : Ar => decide (t.2 = t.1 + 1)) t = true → ∀ k, HX k = none → ∃ wz, upd HX k (.tup [.int t.1, .int t.2]) E1 = some (.lst wz) ∧ wz.length + 1 ≤ sizeLine ∧ ∃ ws, Same H2 (upd (upd HX k (.tup [.int t.1, .int t.2])) E1 (.lst (wz ++ [.ref k]))) ∧ upd (upd HX k (.tup [.int t.1, .int t.2])) E1 (.lst (wz ++ [.ref k])) E1 = some (.lst ws) ∧ Ties (upd (upd HX k (.tup [.int t.1, .int t.2])) E1 (.lst (wz ++ [.ref k]))) ws (((pup m m).take (j + 1)).filter (fun t : Ar => decide (t.2 = t.1 + 1))) := fun z k nk => by
          have sk := same_new (o := .tup [.int t.1, .int t.2]) nk
          have e3 := sk _ _ eE
          refine ⟨ws, e3, sz' (by omega), ws ++ [.ref k], Same.put (sX.trans sk) nE1, upd_same, ?_⟩
          rw [flt_yes et z]
          exact ((hw.mono (Same.tst sk)).app (Ties.one ⟨k, rfl, upd_same⟩)).mono (tst_put e3)
        refine ⟨pt, _, rfl, SqT.of ept, rfl, _, _, rfl, _, _, rfl, rfl, rfl, ?_⟩
        refine ⟨_, rfl, _, rfl, _, _, rfl, rfl, rfl, _, rfl, ite2 (fun e => ?_) (fun e => ?_)⟩
        · exact ⟨_, rfl, _, rfl, by show 2 ≤ sizeLine; decide, fun k nk => take (decide_eq_true (V.int.inj (of_decide_eq_true e))) k nk⟩
        · exact skip (decide_eq_false fun z => e (decide_eq_true (congrArg V.int z)))
      rintro H3 ⟨ws, s23, eE, hw⟩
      rw [ppl, List.take_length] at hw
      have lf3 := lf2.same s23
      refine ⟨by show 2 ≤ sizeLine; decide, fun l nl => ?_⟩
      have sl := same_new (o := .lst [V.int 1, V.int 2]) nl
      refine ⟨_, rfl, _, _, rfl, rfl, .inr ⟨_, rfl, ?_⟩⟩
      refine ⟨l, _, _, .int ((if m < 4 then 2 else 1 : Nat) : Int), rfl, rfl, SqL.of upd_same, ?_, by show 3 ≤ sizeLine; decide, fun T nT => ?_⟩
      · by_cases z : m < 4
        · rw [if_pos z, decide_eq_true (show ((m : Nat) : Int) < 4 by omega)]; rfl
        · rw [if_neg z, decide_eq_false (show ¬ ((m : Nat) : Int) < 4 by omega)]; rfl
      exact one E1 ws _ _ _ _ ((fr2.trans (Fr.of s23)).trans (Fr.of sl)) E1L ((lf3.same sl).mono (by omega)) (sl _ _ eE) (hw.mono (Same.tst sl)) (piece_row m2) (by decide) T nT
    -- a ring
    refine ⟨_, rfl, rfl, _, rfl, fall2 ?_ fun e3 fall => ?_⟩
    rotate_left
    · refine ⟨_, rfl, _, _, rfl, rfl, _, rfl, ?_⟩
      by_cases m3 : m < 3
      · rw [decide_eq_false (show ¬ (2 : Int) < ((m : Nat) : Int) by omega)]
        exact fall
      rw [decide_eq_true (show (2 : Int) < ((m : Nat) : Int) by omega)]
      refine iteT ?_
      clear fall
      have hk := piece_ring (m := m) (by omega)
      refine ⟨_, rfl, Pp, rfl, ⟨_, SqL.of eP2⟩, fun E1 nE1 => ?_⟩
      have E1L : E1 ≠ L := lf2.ne nE1
      refine wk (walk_list (K := K) (a := Pp) (xs := pvs)) (fun j HX => ∃ ws, Same H2 HX ∧ HX E1 = some (.lst ws) ∧ Ties HX ws (((pup m m).take j).filter (fun t : Ar => (decide (t.2 = t.1 + 1) || decide (t.2 - t.1 = (m : Int) - 1))))) ⟨[], same_new nE1, upd_same, by exact trivial⟩ ?_ ?_ ?_
      · rintro j HX _ ⟨_, sX, _⟩
        exact SqL.of (sX _ _ eP2)
      · rintro j x HX0 HX hj ⟨ws, sX, eE, hw⟩ ⟨rfl, hx⟩
        obtain ⟨t, et, ht⟩ := hP2.at hx
        obtain ⟨pt, rfl, ept⟩ := ht.mono (Same.tst sX)
        have hb := (mem_pup (Nat.le_refl m)).mp (List.mem_of_getElem? et)
        have wl := hw.len
        have fl := List.length_filter_le (fun t : Ar => (decide (t.2 = t.1 + 1) || decide (t.2 - t.1 = (m : Int) - 1))) ((pup m m).take j)
        rw [List.length_take] at fl
        have skip : (fun t : Ar => (decide (t.2 = t.1 + 1) || decide (t.2 - t.1 = (m : Int) - 1))) t = false → ∃ ws, Same H2 HX ∧ HX E1 = some (.lst ws) ∧ Ties HX ws (((pup m m).take (j + 1)).filter (fun t : Ar => (decide (t.2 = t.1 + 1) || decide (t.2 - t.1 = (m : Int) - 1)))) := fun z => ⟨ws, sX, eE, by rw [flt_no et z]; exact hw⟩
        have take : (fun t : Ar => (decide (t.2 = t.1 + 1) || decide (t.2 - t.1 = (m : Int) - 1))) t = true → ∀ k, HX k = none → ∃ wz, upd HX k (.tup [.int t.1, .int t.2]) E1 = some (.lst wz) ∧ wz.length + 1 ≤ sizeLine ∧ ∃ ws, Same H2 (upd (upd HX k (.tup [.int t.1, .int t.2])) E1 (.lst (wz ++ [.ref k]))) ∧ upd (upd HX k (.tup [.int t.1, .int t.2])) E1 (.lst (wz ++ [.ref k])) E1 = some (.lst ws) ∧ Ties (upd (upd HX k (.tup [.int t.1, .int t.2])) E1 (.lst (wz ++ [.ref k]))) ws (((pup m m).take (j + 1)).filter (fun t : Ar => (decide (t.2 = t.1 + 1) || decide (t.2 - t.1 = (m : Int) - 1)))) := fun z k nk => by
          have sk := same_new (o := .tup [.int t.1, .int t.2]) nk
          have e3 := sk _ _ eE
          refine ⟨ws, e3, sz' (by omega), ws ++ [.ref k], Same.put (sX.trans sk) nE1, upd_same, ?_⟩
          rw [flt_yes et z]
          exact ((hw.mono (Same.tst sk)).app (Ties.one ⟨k, rfl, upd_same⟩)).mono (tst_put e3)
        refine ⟨pt, _, rfl, SqT.of ept, rfl, _, _, rfl, _, _, rfl, rfl, rfl, ?_⟩
        refine ⟨_, rfl, _, rfl, _, _, rfl, rfl, rfl, _, rfl, ite2 (fun e => ?_) (fun e => ?_)⟩
        · exact iteT ⟨_, rfl, _, rfl, by show 2 ≤ sizeLine; decide, fun k nk => take (by dsimp only; rw [show decide (t.2 = t.1 + 1) = true from decide_eq_true (V.int.inj (of_decide_eq_true e))]; rfl) k nk⟩
        · refine ⟨_, rfl, _, rfl, _, _, rfl, rfl, _, rfl, _, _, rfl, rfl, rfl, _, rfl, ite2 (fun e2 => ?_) (fun e2 => ?_)⟩
          · exact ⟨_, rfl, _, rfl, by show 2 ≤ sizeLine; decide, fun k nk => take (by dsimp only; rw [show decide (t.2 - t.1 = (m : Int) - 1) = true from decide_eq_true (V.int.inj (of_decide_eq_true e2)), Bool.or_true]) k nk⟩
          · exact skip (by dsimp only; rw [show decide (t.2 = t.1 + 1) = false from decide_eq_false fun z => e (decide_eq_true (congrArg V.int z)), show decide (t.2 - t.1 = (m : Int) - 1) = false from decide_eq_false fun z => e2 (decide_eq_true (congrArg V.int z))]; rfl)
      rintro H3 ⟨ws, s23, eE, hw⟩
      rw [ppl, List.take_length] at hw
      have lf3 := lf2.same s23
      refine ⟨_, rfl, rfl, _, rfl, ite2 (fun e => ?_) (fun e => ?_)⟩
      · have z : m = 3 := by
          have := V.int.inj (of_decide_eq_true e)
          omega
        rw [if_pos z, if_pos z] at hk
        exact ⟨_, rfl, by show 3 ≤ sizeLine; decide, fun T nT => one E1 ws _ 6 3 H3 (fr2.trans (Fr.of s23)) E1L (lf3.mono (by omega)) eE hw hk (by decide) T nT⟩
      · have z : m ≠ 3 := fun w => (of_decide_eq_false (Bool.eq_false_iff.mpr e)) (by rw [w]; rfl)
        rw [if_neg z, if_neg z] at hk
        refine ⟨_, rfl, _, rfl, _, _, rfl, rfl, (show (0 : Int) < 2 by decide), rfl, .inr ⟨_, rfl, _, _, rfl, rfl, .inl ⟨by decide, by decide⟩, ?_⟩⟩
        refine ⟨by show 2 ≤ sizeLine; decide, fun l nl => ?_⟩
        have sl := same_new (o := .lst [V.int 1, V.int 2]) nl
        refine ⟨_, rfl, rfl, .inr ⟨_, rfl, ?_⟩⟩
        refine ⟨l, _, _, .int ((if m = 4 then 2 else 1 : Nat) : Int), rfl, rfl, SqL.of upd_same, ?_, by show 3 ≤ sizeLine; decide, fun T nT => ?_⟩
        · by_cases z : m = 4
          · rw [if_pos z, z]; rfl
          · rw [if_neg z, decide_eq_false (fun w => z (by have := V.int.inj w; omega))]; rfl
        have fin := one E1 ws _ _ _ _ ((fr2.trans (Fr.of s23)).trans (Fr.of sl)) E1L ((lf3.same sl).mono (by omega)) (sl _ _ eE) (hw.mono (Same.tst sl)) hk (by split <;> decide) T nT
        have en : ((if m % 2 = 1 then 0 else 2 : Nat) : Int) = 2 * (if decide (V.int ((m : Int) % 2) = V.int 0) = true then 1 else 0) := by
          by_cases o : m % 2 = 1
          · rw [if_pos o, decide_eq_false (fun w => by have := V.int.inj w; omega)]; rfl
          · rw [if_neg o, decide_eq_true (congrArg V.int (show (m : Int) % 2 = 0 by omega))]; rfl
        rw [en] at fin
        exact fin
    -- a star
    refine iteF ?_
    refine ⟨_, rfl, rfl, _, rfl, ite2 (fun e => ?_) (fun e => ?_)⟩
    · skip
      refine ⟨_, rfl, Pp, rfl, ⟨_, SqL.of eP2⟩, fun E1 nE1 => ?_⟩
      have E1L : E1 ≠ L := lf2.ne nE1
      refine wk (walk_list (K := K) (a := Pp) (xs := pvs)) (fun j HX => ∃ ws, Same H2 HX ∧ HX E1 = some (.lst ws) ∧ Ties HX ws (((pup m m).take j).filter (fun t : Ar => decide (t.1 = 0)))) ⟨[], same_new nE1, upd_same, by exact trivial⟩ ?_ ?_ ?_
      · rintro j HX _ ⟨_, sX, _⟩
        exact SqL.of (sX _ _ eP2)
      · rintro j x HX0 HX hj ⟨ws, sX, eE, hw⟩ ⟨rfl, hx⟩
        obtain ⟨t, et, ht⟩ := hP2.at hx
        obtain ⟨pt, rfl, ept⟩ := ht.mono (Same.tst sX)
        have hb := (mem_pup (Nat.le_refl m)).mp (List.mem_of_getElem? et)
        have wl := hw.len
        have fl := List.length_filter_le (fun t : Ar => decide (t.1 = 0)) ((pup m m).take j)
        rw [List.length_take] at fl
        have skip : (fun t : Ar => decide (t.1 = 0)) t = false → ∃ ws, Same H2 HX ∧ HX E1 = some (.lst ws) ∧ Ties HX ws (((pup m m).take (j + 1)).filter (fun t : Ar => decide (t.1 = 0))) := fun z => ⟨ws, sX, eE, by rw [flt_no et z]; exact hw⟩
        have take : (fun t : Ar => decide (t.1 = 0)) t = true → ∀ k, HX k = none → ∃ wz, upd HX k (.tup [.int t.1, .int t.2]) E1 = some (.lst wz) ∧ wz.length + 1 ≤ sizeLine ∧ ∃ ws, Same H2 (upd (upd HX k (.tup [.int t.1, .int t.2])) E1 (.lst (wz ++ [.ref k]))) ∧ upd (upd HX k (.tup [.int t.1, .int t.2])) E1 (.lst (wz ++ [.ref k])) E1 = some (.lst ws) ∧ Ties (upd (upd HX k (.tup [.int t.1, .int t.2])) E1 (.lst (wz ++ [.ref k]))) ws (((pup m m).take (j + 1)).filter (fun t : Ar => decide (t.1 = 0))) := fun z k nk => by
          have sk := same_new (o := .tup [.int t.1, .int t.2]) nk
          have e3 := sk _ _ eE
          refine ⟨ws, e3, sz' (by omega), ws ++ [.ref k], Same.put (sX.trans sk) nE1, upd_same, ?_⟩
          rw [flt_yes et z]
          exact ((hw.mono (Same.tst sk)).app (Ties.one ⟨k, rfl, upd_same⟩)).mono (tst_put e3)
        refine ⟨pt, _, rfl, SqT.of ept, rfl, _, _, rfl, _, _, rfl, rfl, rfl, ?_⟩
        refine ⟨_, rfl, rfl, _, rfl, ite2 (fun e => ?_) (fun e => ?_)⟩
        · exact ⟨_, rfl, _, rfl, by show 2 ≤ sizeLine; decide, fun k nk => take (decide_eq_true (V.int.inj (of_decide_eq_true e))) k nk⟩
        · exact skip (decide_eq_false fun z => e (decide_eq_true (congrArg V.int z)))
      rintro H3 ⟨ws, s23, eE, hw⟩
      rw [ppl, List.take_length] at hw
      have lf3 := lf2.same s23
      exact ⟨by show 3 ≤ sizeLine; decide, fun T nT => one E1 ws _ 2 2 H3 (fr2.trans (Fr.of s23)) E1L (lf3.mono (by omega)) eE hw (piece_star m2) (by decide) T nT⟩
    -- groups
    refine ⟨_, rfl, _, rfl, _, _, rfl, rfl, L, _, _, rfl, lf2, by omega, by omega, by omega, fun r5 H5 r50 r51 fr5 lf5 => ?_⟩
    obtain ⟨j0, ej⟩ := natOf r50
    refine ⟨_, _, rfl, rfl, ?_⟩
    have eg : (2 : Int) + r5 = ((2 + j0 : Nat) : Int) := by omega
    have eP2 := fr5 _ _ PL eP2
    have hP2 := hP2.mono (lf2.tst fr5)
    have fr2 := fr2.trans fr5
    have lf2 := lf5
    have g0 : (0 : Int) < 2 + r5 := by omega
    have hk := piece_groups (m := m) (j := 2 + j0) (by omega) (by omega) eg
    refine ⟨_, rfl, Pp, rfl, ⟨_, SqL.of eP2⟩, fun E1 nE1 => ?_⟩
    have E1L : E1 ≠ L := lf2.ne nE1
    refine wk (walk_list (K := K) (a := Pp) (xs := pvs)) (fun j HX => ∃ ws, Same H5 HX ∧ HX E1 = some (.lst ws) ∧ Ties HX ws (((pup m m).take j).filter (fun t : Ar => decide (t.1 % (2 + r5) ≠ t.2 % (2 + r5))))) ⟨[], same_new nE1, upd_same, by exact trivial⟩ ?_ ?_ ?_
    · rintro j HX _ ⟨_, sX, _⟩
      exact SqL.of (sX _ _ eP2)
    · rintro j x HX0 HX hj ⟨ws, sX, eE, hw⟩ ⟨rfl, hx⟩
      obtain ⟨t, et, ht⟩ := hP2.at hx
      obtain ⟨pt, rfl, ept⟩ := ht.mono (Same.tst sX)
      have hb := (mem_pup (Nat.le_refl m)).mp (List.mem_of_getElem? et)
      have wl := hw.len
      have fl := List.length_filter_le (fun t : Ar => decide (t.1 % (2 + r5) ≠ t.2 % (2 + r5))) ((pup m m).take j)
      rw [List.length_take] at fl
      have skip : (fun t : Ar => decide (t.1 % (2 + r5) ≠ t.2 % (2 + r5))) t = false → ∃ ws, Same H5 HX ∧ HX E1 = some (.lst ws) ∧ Ties HX ws (((pup m m).take (j + 1)).filter (fun t : Ar => decide (t.1 % (2 + r5) ≠ t.2 % (2 + r5)))) := fun z => ⟨ws, sX, eE, by rw [flt_no et z]; exact hw⟩
      have take : (fun t : Ar => decide (t.1 % (2 + r5) ≠ t.2 % (2 + r5))) t = true → ∀ k, HX k = none → ∃ wz, upd HX k (.tup [.int t.1, .int t.2]) E1 = some (.lst wz) ∧ wz.length + 1 ≤ sizeLine ∧ ∃ ws, Same H5 (upd (upd HX k (.tup [.int t.1, .int t.2])) E1 (.lst (wz ++ [.ref k]))) ∧ upd (upd HX k (.tup [.int t.1, .int t.2])) E1 (.lst (wz ++ [.ref k])) E1 = some (.lst ws) ∧ Ties (upd (upd HX k (.tup [.int t.1, .int t.2])) E1 (.lst (wz ++ [.ref k]))) ws (((pup m m).take (j + 1)).filter (fun t : Ar => decide (t.1 % (2 + r5) ≠ t.2 % (2 + r5)))) := fun z k nk => by
        have sk := same_new (o := .tup [.int t.1, .int t.2]) nk
        have e3 := sk _ _ eE
        refine ⟨ws, e3, sz' (by omega), ws ++ [.ref k], Same.put (sX.trans sk) nE1, upd_same, ?_⟩
        rw [flt_yes et z]
        exact ((hw.mono (Same.tst sk)).app (Ties.one ⟨k, rfl, upd_same⟩)).mono (tst_put e3)
      refine ⟨pt, _, rfl, SqT.of ept, rfl, _, _, rfl, _, _, rfl, rfl, rfl, ?_⟩
      refine ⟨_, rfl, _, rfl, _, _, rfl, rfl, g0, _, rfl, _, rfl, _, _, rfl, rfl, g0, rfl, _, rfl, ?_⟩
      by_cases z : t.1 % (2 + r5) = t.2 % (2 + r5)
      · rw [neI, decide_eq_true z]
        exact iteF (skip (decide_eq_false fun w => w z))
      · rw [neI, decide_eq_false z]
        exact iteT ⟨_, rfl, _, rfl, by show 2 ≤ sizeLine; decide, fun k nk => take (decide_eq_true z) k nk⟩
    rintro H3 ⟨ws, s23, eE, hw⟩
    rw [ppl, List.take_length] at hw
    have lf3 := lf2.same s23
    refine ⟨_, rfl, _, rfl, 2 + j0, by rw [← eg]; rfl, by omega, _, rfl, by show 3 ≤ sizeLine; decide, fun T nT => ?_⟩
    have fin := one E1 ws _ _ _ H3 (fr2.trans (Fr.of s23)) E1L (lf3.mono (by omega)) eE hw hk (Nat.lt_trans (fact_12 (2 + j0) (by omega)).2 (by decide)) T nT
    rw [← eg] at fin
    exact fin
end
end My

set_option Elab.async false
set_option linter.all false
set_option maxRecDepth 100000
set_option pp.maxSteps 500
set_option maxHeartbeats 4000000
namespace My
open PySem PySem.Spec PyProof.Rows L2 GxR
def pf (ss : List Nat) : Nat := prodN (ss.map factT)
theorem pf_snoc (ss : List Nat) (k : Nat) : pf (ss ++ [k]) = pf ss * factT k := by
  unfold pf
  rw [List.map_append, prodN_app]
  show _ * (factT k * 1) = _
  rw [Nat.mul_one]
theorem factT_pos : ∀ k, 0 < factT k
  | 0 => by decide
  | k + 1 => Nat.mul_pos (factT_pos k) (Nat.succ_pos k)
/-- what is known of a web of pieces -/
def KnS (j : Bool) (n : Nat) (as : List Ar) (w : Nat) (ss : List Nat) : Prop :=
  (n = 0 ∧ as = [] ∧ w = 1 ∧ ss = []) ∨ (0 < n ∧ 0 < ss.length ∧ ∃ rs, WOk n rs ∧ as.Perm rs ∧ if j = true then (∃ F, CoP rs n F ∧ F ≠ [] ∧ F.length = ss.sum ∧ (allL rs).length * pf ss = factT ss.sum * w) else (allL rs).length = w)
theorem sh_zero (l : List Ar) : l.map (shA2 0) = l := by
  refine (List.map_congr_left fun t _ => ?_).trans (List.map_id l)
  unfold shA2
  exact Prod.ext (Int.zero_add _) (Int.zero_add _)
theorem kn_step {j : Bool} {n m w N k : Nat} {as own : List Ar} {ss : List Nat} (h : KnS j n as w ss) (hm : 0 < m) (hp : PieceOk m own N k) : KnS j (n + m) (as ++ own.map (shA2 n) ++ (if j = true then crsL n m n else [])) (w * N) (ss ++ [k]) := by
  have sl : 0 < (ss ++ [k]).length := by rw [List.length_append]; exact Nat.succ_pos _
  obtain ⟨G, hG, g0, gl⟩ := hp.sets
  rcases h with ⟨rfl, rfl, rfl, rfl⟩ | ⟨n0, _, rs, hW, pm, h⟩
  · refine .inr ⟨by omega, sl, own, by rw [Nat.zero_add]; exact hp.ok, ?_, ?_⟩
    · have c0 : crsL 0 m 0 = [] := rfl
      rw [sh_zero, c0, ite_self, List.append_nil, List.nil_append]
    · by_cases e : j = true
      · rw [if_pos e]
        refine ⟨G, by rw [Nat.zero_add]; exact hG, g0, by rw [gl]; rfl, ?_⟩
        rw [hp.cnt]
        show N * (factT k * 1) = factT k * (1 * N)
        rw [Nat.mul_one, Nat.one_mul, Nat.mul_comm]
      · rw [if_neg e, Nat.one_mul]; exact hp.cnt
  · by_cases e : j = true
    · rw [if_pos e] at h ⊢
      obtain ⟨F, hF, f0, fl, hc⟩ := h
      have nd := join_nd hW hp.ok
      have bd : ∀ t ∈ rs ++ (own.map (shA2 n) ++ crsL n m n), t ∈ pup (n + m) (n + m) := fun t ht => (mem_pup (Nat.le_refl _)).mpr (by
        rcases List.mem_append.mp ht with z | z
        · have := hW.2 t z
          omega
        · rcases List.mem_append.mp z with z | z
          · obtain ⟨u, hu, rfl⟩ := sh_mem.mp z
            have := hp.ok.2 u hu
            unfold shA2
            dsimp only
            omega
          · obtain ⟨x, hx, y, hy, rfl⟩ := mem_crsL.mp z
            have h1 := (mem_up.mp hx)
            have h2 := (mem_up.mp hy)
            have := h1.1
            have := h1.2
            have := h2.1
            have := h2.2
            dsimp only
            omega)
      have hR : WOk (n + m) ((pup (n + m) (n + m)).filter fun t => decide (t ∈ rs ++ (own.map (shA2 n) ++ crsL n m n))) := by_ok _ _
      have pmR : ((pup (n + m) (n + m)).filter fun t => decide (t ∈ rs ++ (own.map (shA2 n) ++ crsL n m n))).Perm (rs ++ (own.map (shA2 n) ++ crsL n m n)) := (List.perm_ext_iff_of_nodup (nd_pw hR.1) nd).mpr fun t => by
        rw [List.mem_filter, decide_eq_true_eq]
        exact ⟨fun z => z.2, fun z => ⟨bd t z, z⟩⟩
      generalize (pup (n + m) (n + m)).filter (fun t => decide (t ∈ rs ++ (own.map (shA2 n) ++ crsL n m n))) = qs at hR pmR
      have tw := tw_of hW hp.ok hR (join_mem pmR)
      have e2 := two_join n0 hm hW hp.ok hR tw hF hG f0 g0
      refine .inr ⟨by omega, sl, qs, hR, ?_, ?_⟩
      · rw [List.append_assoc]
        exact (pm.append_right _).trans pmR.symm
      · rw [if_pos e]
        refine ⟨_, cop_join tw hF hG, fun z => f0 (List.append_eq_nil_iff.mp z).1, ?_, ?_⟩
        · rw [List.length_append, List.length_map, fl, gl, List.sum_append]; rfl
        · rw [pf_snoc, List.sum_append]
          show _ = factT (ss.sum + k) * (w * N)
          rw [hp.cnt, fl, gl] at e2
          refine Nat.eq_of_mul_eq_mul_right (factT_pos ss.sum) ?_
          have e3 : (allL qs).length * (factT ss.sum * factT k) * pf ss = factT (ss.sum + k) * N * (factT ss.sum * w) := by
            rw [e2, ← hc]
            simp only [Nat.mul_assoc, Nat.mul_comm, Nat.mul_left_comm]
          calc (allL qs).length * (pf ss * factT k) * factT ss.sum = (allL qs).length * (factT ss.sum * factT k) * pf ss := by simp only [Nat.mul_assoc, Nat.mul_comm, Nat.mul_left_comm]
            _ = factT (ss.sum + k) * N * (factT ss.sum * w) := e3
            _ = factT (ss.sum + k) * (w * N) * factT ss.sum := by simp only [Nat.mul_assoc, Nat.mul_comm, Nat.mul_left_comm]
    · rw [if_neg e] at h ⊢
      have hU := wok_union hW hp.ok
      refine .inr ⟨by omega, sl, _, hU, ?_, ?_⟩
      · rw [List.append_nil]
        exact pm.append_right _
      · rw [if_neg e, two_union n0 hm hW hp.ok hU (tw_of hW hp.ok hU union_mem), h, hp.cnt]
def divL (y : Nat) (ss : List Nat) : Nat := ss.foldl (fun y s => y / factT s) y
theorem divL_snoc (y : Nat) (ss : List Nat) (s : Nat) : divL y (ss ++ [s]) = divL y ss / factT s := by
  unfold divL
  rw [List.foldl_append]; rfl
theorem divL_ok : ∀ (ss : List Nat) (x : Nat), divL (x * pf ss) ss = x
  | [], x => Nat.mul_one x
  | s :: ss, x => by
    show divL (x * (factT s * pf ss) / factT s) ss = x
    rw [show x * (factT s * pf ss) = x * pf ss * factT s from by simp only [Nat.mul_assoc, Nat.mul_comm, Nat.mul_left_comm], Nat.mul_div_cancel _ (factT_pos s)]
    exact divL_ok ss x
/-- what is told at the end -/
def endW (j : Bool) (w : Nat) (ss : List Nat) : Nat := if j = true ∧ 1 < ss.length then divL (w * factT ss.sum) ss else w
theorem kn_end {j : Bool} {n w : Nat} {as : List Ar} {ss : List Nat} (h : KnS j n as w ss) : ∃ rs, WOk n rs ∧ as.Perm rs ∧ (allL rs).length = endW j w ss := by
  unfold endW
  rcases h with ⟨rfl, rfl, rfl, rfl⟩ | ⟨n0, s0, rs, hW, pm, h⟩
  · refine ⟨[], ⟨.nil, fun t ht => absurd ht List.not_mem_nil⟩, .refl _, ?_⟩
    rw [if_neg (fun z => absurd z.2 (by decide))]; rfl
  · refine ⟨rs, hW, pm, ?_⟩
    by_cases e : j = true
    · rw [if_pos e] at h
      obtain ⟨_, _, _, _, hc⟩ := h
      by_cases l : 1 < ss.length
      · rw [if_pos ⟨e, l⟩, Nat.mul_comm w, ← hc, divL_ok]
      · rw [if_neg fun z => l z.2]
        obtain ⟨k, rfl⟩ : ∃ k, ss = [k] := by
          match ss, s0, l with
          | [k], _, _ => exact ⟨k, rfl⟩
          | _ :: _ :: _, _, l => exact absurd (by simp) l
        have hc : (allL rs).length * (factT k * 1) = factT k * w := hc
        rw [Nat.mul_one, Nat.mul_comm] at hc
        exact Nat.eq_of_mul_eq_mul_left (factT_pos k) hc
    · rw [if_neg e] at h
      rw [if_neg fun z => e z.1]; exact h
/-! places numbered anew by a row -/
def rnF (rr : List Int) (x : Int) : Int := rr.getD x.toNat 0
def rnT (rr : List Int) (t : Ar) : Ar := nrm (rnF rr t.1, rnF rr t.2)
theorem rnF_at {n : Nat} {rr : List Int} (pm : rr.Perm (up n)) {x : Int} (hx : x ∈ up n) : rr[x.toNat]? = some (rnF rr x) ∧ rnF rr x ∈ up n := by
  have hx' := mem_up.mp hx
  have l : x.toNat < rr.length := by rw [pm.length_eq, up_len]; omega
  have e : rr[x.toNat]? = some rr[x.toNat] := List.getElem?_eq_getElem l
  have d : rnF rr x = rr[x.toNat] := by
    unfold rnF
    rw [List.getD_eq_getElem?_getD, e]; rfl
  exact ⟨by rw [d]; exact e, by rw [d]; exact pm.mem_iff.mp (List.getElem_mem l)⟩
theorem rnF_inj {n : Nat} {rr : List Int} (pm : rr.Perm (up n)) {x y : Int} (hx : x ∈ up n) (hy : y ∈ up n) (e : rnF rr x = rnF rr y) : x = y := by
  have nd : rr.Nodup := pm.nodup_iff.mpr (up_nodup n)
  have a := (rnF_at pm hx).1
  have b := (rnF_at pm hy).1
  rw [← e] at b
  obtain ⟨l1, e1⟩ := List.getElem?_eq_some_iff.mp a
  obtain ⟨l2, e2⟩ := List.getElem?_eq_some_iff.mp b
  have := (List.getElem_inj nd).mp (e1.trans e2.symm)
  have hx' := mem_up.mp hx
  have hy' := mem_up.mp hy
  omega
theorem nrm_pair {a b c d : Int} (h : nrm (a, b) = nrm (c, d)) : (a = c ∧ b = d) ∨ (a = d ∧ b = c) := by
  unfold nrm sw at h
  dsimp only at h
  split at h <;> split at h <;> rw [Prod.mk.injEq] at h <;> omega
theorem ren_web {n : Nat} {as rs fs : List Ar} {rr : List Int} (hW : WOk n rs) (pa : as.Perm rs) (pm : rr.Perm (up n)) (pf : fs.Perm (as.map (rnT rr))) (pw : fs.Pairwise fun s t => ¬ ltT t s) : WOk n fs ∧ (allL fs).length = (allL rs).length := by
  have inU : ∀ t ∈ rs, t.1 ∈ up n ∧ t.2 ∈ up n := fun t ht => by
    have := hW.2 t ht
    exact ⟨mem_up.mpr ⟨by omega, by omega⟩, mem_up.mpr ⟨by omega, by omega⟩⟩
  have inj : ∀ x ∈ up n, ∀ y ∈ up n, ∀ t ∈ rs, rnT rr (x, y) = rnT rr t → t = (x, y) ∨ t = (y, x) := fun x hx y hy t ht e => by
    obtain ⟨t1, t2⟩ := inU t ht
    rcases nrm_pair e with ⟨a, b⟩ | ⟨a, b⟩
    · exact .inl (Prod.ext (rnF_inj pm hx t1 a).symm (rnF_inj pm hy t2 b).symm)
    · exact .inr (Prod.ext (rnF_inj pm hy t1 b).symm (rnF_inj pm hx t2 a).symm)
  have mem : ∀ z, z ∈ fs ↔ ∃ t ∈ rs, rnT rr t = z := fun z => by
    rw [pf.mem_iff, List.mem_map]
    exact ⟨fun ⟨t, h, e⟩ => ⟨t, pa.mem_iff.mp h, e⟩, fun ⟨t, h, e⟩ => ⟨t, pa.mem_iff.mpr h, e⟩⟩
  have nd : fs.Nodup := by
    rw [pf.nodup_iff, (pa.map _).nodup_iff, List.nodup_iff_pairwise_ne, List.pairwise_map]
    refine (nd_pw hW.1).imp_of_mem fun {t u} ht hu ne e => ?_
    have b1 := hW.2 t ht
    have b2 := hW.2 u hu
    obtain ⟨t1, t2⟩ := inU t ht
    rcases inj t.1 t1 t.2 t2 u hu e with z | z
    · exact ne z.symm
    · rw [z] at b2
      dsimp only at b2
      omega
  have hF : WOk n fs := ⟨pw_lt pw nd, fun z hz => by
    obtain ⟨t, ht, rfl⟩ := (mem z).mp hz
    obtain ⟨t1, t2⟩ := inU t ht
    have r1 := mem_up.mp (rnF_at pm t1).2
    have r2 := mem_up.mp (rnF_at pm t2).2
    have b := hW.2 t ht
    have ne : rnF rr t.1 ≠ rnF rr t.2 := fun e => by
      have := rnF_inj pm t1 t2 e
      omega
    unfold rnT nrm sw
    dsimp only
    split
    · dsimp only; omega
    · dsimp only; omega⟩
  have inv : ∀ y ∈ up n, ∃ x ∈ up n, rnF rr x = y := fun y hy => by
    obtain ⟨i, hi⟩ := List.getElem?_of_mem (pm.mem_iff.mpr hy)
    have il := (List.getElem?_eq_some_iff.mp hi).1
    rw [pm.length_eq, up_len] at il
    have hx : (i : Int) ∈ up n := mem_up.mpr ⟨by omega, by omega⟩
    have := (rnF_at pm hx).1
    rw [Int.toNat_natCast, hi] at this
    exact ⟨(i : Int), hx, (Option.some.inj this).symm⟩
  refine ⟨hF, ren_cnt (r := rnF rr) (s := fun y => (rr.idxOf y : Nat)) hW hF (fun x hx => ⟨(rnF_at pm hx).2, ?_⟩) (fun y hy => ?_) fun x hx y hy => ?_⟩
  · have m := pm.mem_iff.mpr (rnF_at pm hx).2
    have l := List.idxOf_lt_length_of_mem m
    have ll := l
    rw [pm.length_eq, up_len] at ll
    have e : rr[rr.idxOf (rnF rr x)]? = some (rnF rr x) := by
      rw [List.getElem?_eq_getElem l, List.getElem_idxOf l]
    have hz : ((rr.idxOf (rnF rr x) : Nat) : Int) ∈ up n := mem_up.mpr ⟨by omega, by omega⟩
    refine rnF_inj pm hz hx ?_
    have := (rnF_at pm hz).1
    rw [Int.toNat_natCast, e] at this
    exact (Option.some.inj this).symm
  · have m := pm.mem_iff.mpr hy
    have l := List.idxOf_lt_length_of_mem m
    have ll := l
    rw [pm.length_eq, up_len] at ll
    have e : rr[rr.idxOf y]? = some y := by
      rw [List.getElem?_eq_getElem l, List.getElem_idxOf l]
    have hz : ((rr.idxOf y : Nat) : Int) ∈ up n := mem_up.mpr ⟨by omega, by omega⟩
    refine ⟨hz, ?_⟩
    have := (rnF_at pm hz).1
    rw [Int.toNat_natCast, e] at this
    exact (Option.some.inj this).symm
  · unfold adjB
    refine decide_eq_decide.mpr ?_
    show rnT rr (x, y) ∈ fs ↔ tieO x y ∈ rs
    rw [mem]
    constructor
    · rintro ⟨t, ht, e⟩
      rcases inj x hx y hy t ht e.symm with rfl | rfl
      · exact (tieO_tied hW x y).mpr (.inl ht)
      · exact (tieO_tied hW x y).mpr (.inr ht)
    · intro h
      rcases (tieO_tied hW x y).mp h with z | z
      · exact ⟨_, z, rfl⟩
      · refine ⟨_, z, ?_⟩
        have b := hW.2 _ z
        dsimp only at b
        have ne : rnF rr x ≠ rnF rr y := fun e => by
          have := rnF_inj pm hx hy e
          omega
        unfold rnT nrm sw
        dsimp only
        split <;> split <;> first | rfl | omega
end My

set_option Elab.async false
set_option linter.all false
set_option maxRecDepth 100000
set_option pp.maxSteps 500
set_option maxHeartbeats 4000000
namespace My
open PySem PySem.Spec PyProof.Rows L2 GxR
def nI (ss : List Nat) : List V := (ss.map fun s : Nat => (s : Int)).map V.int
theorem sumN : ∀ ss : List Nat, (ss.map fun s : Nat => (s : Int)).sum = ((ss.sum : Nat) : Int)
  | [] => rfl
  | s :: ss => by
    rw [List.map_cons, List.sum_cons, List.sum_cons, sumN ss, Int.natCast_add]
/-- the sets are no more than the places -/
theorem KnS.small {j : Bool} {n w : Nat} {as : List Ar} {ss : List Nat} (h : KnS j n as w ss) (e : j = true) : ss.sum ≤ n := by
  rcases h with ⟨rfl, rfl, rfl, rfl⟩ | ⟨_, _, rs, _, _, h⟩
  · exact Nat.le_refl _
  · rw [if_pos e] at h
    obtain ⟨F, hF, _, fl, _⟩ := h
    rw [← fl]; exact hF.few
theorem sum_le : ∀ {ss : List Nat} {s : Nat}, s ∈ ss → s ≤ ss.sum
  | _ :: ss, s, h => by
    rw [List.sum_cons]
    rcases List.mem_cons.mp h with z | z
    · omega
    · have := sum_le z
      omega
theorem KnS.few {j : Bool} {n w : Nat} {as : List Ar} {ss : List Nat} (h : KnS j n as w ss) (hn : n ≤ 12) : as.length ≤ 144 := by
  rcases h with ⟨rfl, rfl, rfl, rfl⟩ | ⟨_, _, rs, hW, pm, h⟩
  · exact Nat.zero_le _
  · rw [pm.length_eq]
    exact Nat.le_trans (cs_len (nd_pw hW.1) fun t ht => inR_of hW ht) (Nat.mul_le_mul hn hn)
theorem KnS.inn {j : Bool} {n w : Nat} {as : List Ar} {ss : List Nat} (h : KnS j n as w ss) : ∀ t ∈ as, t.1 ∈ up n ∧ t.2 ∈ up n := fun t ht => by
  rcases h with ⟨rfl, rfl, rfl, rfl⟩ | ⟨_, _, rs, hW, pm, h⟩
  · exact absurd ht List.not_mem_nil
  · have := hW.2 t (pm.mem_iff.mp ht)
    exact ⟨mem_up.mpr ⟨by omega, by omega⟩, mem_up.mpr ⟨by omega, by omega⟩⟩
theorem perm_nrmK {ns : List Int} {t : Ar} (h : ns.Perm [t.1, t.2]) (s : ns.Pairwise (· ≤ ·)) : ns = [(nrm t).1, (nrm t).2] := by
  rw [perm2 h s]
  unfold nrm sw
  by_cases k : t.1 < t.2
  · rw [if_pos k, if_pos (Int.le_of_lt k), if_pos (Int.le_of_lt k)]
  · rw [if_neg k]
    by_cases e : t.1 = t.2
    · rw [if_pos (by omega), if_pos (by omega), e]
    · rw [if_neg (by omega), if_neg (by omega)]
section
variable {P : Program} {w : World} {K : PySem.W.Frag} {mg : Str → Option Value} {base : Heap}
/-! ### _law_known -/
abbrev N__law_known : List Str := ["_law_left_here", "_law_many", "_law_ties", "_law_ways", "_law_sets", "_law_joined", "_law_turn", "_law_size", "_law_own", "_law_times", "_law_parts", "_law_a", "_law_b", "_law_row_here"]
theorem sc__law_known : FnScope N__law_known ["_law_left_here"] (defScope s__law_known) := ⟨rfl, rfl, rfl, by decide +kernel, rfl, by decide +kernel, by decide +kernel⟩
def sp_known29 : Sp := fun vs H Q _ => ∃ (L : Addr) (c : Int), vs = [.ref L] ∧ Lf H L c ∧ c < 2 ^ 46 ∧
  ∀ (T : Addr) (v : V) (n : Nat) (ts : List Ar) (H' : Hp), Fr L H H' → Lf H' L (c + 10000) → H' T = some (.tup [v, .int ((allL ts).length : Int)]) → Web H' v n ts → WOk n ts → n ≤ 12 → Q (.ref T) H'
theorem ok_known29 {f : Addr} {fd : FuncData} (B : Bts mg) (F : Fun K "_law_known" "_law_known" s__law_known f fd) (c__law_pick : Cl P w K mg base 2 "_law_pick" sp_pick) (c__law_piece : Cl P w K mg base 3 "_law_piece" sp_piece29) (c__law_orders : Cl P w K mg base 1 "_law_orders" sp_ords) (c__law_row : Cl P w K mg base 3 "_law_row" sp_row) : FnOk P w K mg base CX0 4 f fd ["_law_left_here"] sp_known29 := by
  refine F.ok sc__law_known (fun vs H Q E h => ?_) (fun cdv A0 outer s H vs Q E hr h => ?_)
  · obtain ⟨L, c, rfl, _⟩ := h; rfl
  · obtain ⟨L, c, rfl, lf, hc, q⟩ := h
    refine ⟨_, (pss_cons (ps_set (i := 1) sc__law_known.nd rfl (by first | exact Or.inl rfl | exact Or.inr rfl) pe_int)
    (pss_cons (ps_set (i := 2) sc__law_known.nd rfl (by first | exact Or.inl rfl | exact Or.inr rfl) (pe_lst pa_nil))
    (pss_cons (ps_set (i := 3) sc__law_known.nd rfl (by first | exact Or.inl rfl | exact Or.inr rfl) pe_int)
    (pss_cons (ps_set (i := 4) sc__law_known.nd rfl (by first | exact Or.inl rfl | exact Or.inr rfl) (pe_lst pa_nil))
    (pss_cons (ps_set (i := 5) sc__law_known.nd rfl (by first | exact Or.inl rfl | exact Or.inr rfl) (pe_cmpR op_eq (pe_c c__law_pick hr (by decide) (by rfl) (pa_cons (pv 0) (pa_cons pe_int pa_nil))) pe_int (nomark _)))
    (pss_cons (ps_for PassesOwn.never rfl (pi_range1 (by rfl) B.range (pa_cons (pe_op op_add pe_int (pe_c c__law_pick hr (by decide) (by rfl) (pa_cons (pv 0) (pa_cons pe_int pa_nil)))) pa_nil)) (pg_name (i := 6) sc__law_known.nd rfl (by first | exact Or.inl rfl | exact Or.inr rfl))
      (pss_one (ps_if (pt_cmpR op_lt (pv 1) pe_int (nomark _)) (pss_cons (ps_set (i := 7) sc__law_known.nd rfl (by first | exact Or.inl rfl | exact Or.inr rfl) (pe_op op_add pe_int (pe_c c__law_pick hr (by decide) (by rfl) (pa_cons (pv 0) (pa_cons (pe_callB (call_min2 rfl) (by rfl) B.min (by decide +kernel) (pa_cons (pe_op op_sub pe_int (pv 1)) (pa_cons (pe_ix ix_list (pe_lst (pa_cons pe_int (pa_cons pe_int (pa_cons pe_int pa_nil)))) (pe_c c__law_pick hr (by decide) (by rfl) (pa_cons (pv 0) (pa_cons pe_int pa_nil))) (fun _ _ => rfl)) pa_nil))) pa_nil)))))
        (pss_cons (ps_asg (pe_c c__law_piece hr (by decide) (by rfl) (pa_cons (pv 0) (pa_cons (pv 7) pa_nil))) (pg_tup rfl (pgs_cons (pg_name (i := 8) sc__law_known.nd rfl (by first | exact Or.inl rfl | exact Or.inr rfl)) (pgs_cons (pg_name (i := 9) sc__law_known.nd rfl (by first | exact Or.inl rfl | exact Or.inr rfl)) (pgs_cons (pg_name (i := 10) sc__law_known.nd rfl (by first | exact Or.inl rfl | exact Or.inr rfl)) pgs_nil)))))
        (pss_cons (ps_expr (pe_bm PySem.F.plainAttrs_list PySem.F.slot_list_extend PySem.F.type_list_extend mt_extend (pv 2) (pa_cons (pe_lc (own := [("_law_a", 11), ("_law_b", 12)]) (g := (gTup K 2 (gCons (gName 11) (gCons (gName 12) gNil)))) (tt := tYes) rfl sc__law_known.nd (pi_list (pv 8)) (blkOk_by (own := [("_law_a", 11), ("_law_b", 12)]) (N := N__law_known) (sc := defScope s__law_known) (by decide +kernel)) (fun _ _ _ _ _ => (pg_tup rfl (pgs_cons (pg_name (i := 11) sc__law_known.nd rfl (by first | exact Or.inl rfl | exact Or.inr rfl)) (pgs_cons (pg_name (i := 12) sc__law_known.nd rfl (by first | exact Or.inl rfl | exact Or.inr rfl)) pgs_nil)))) (fun _ _ _ _ _ => pts_nil) (fun _ _ _ _ _ => (pe_tup (pa_cons (pe_op op_add (pv 1) (pv 11)) (pa_cons (pe_op op_add (pv 1) (pv 12)) pa_nil))))) pa_nil)))
        (pss_cut (ps_if (pt_val (pv 5)) (pss_one (ps_for PassesOwn.never rfl (pi_range1 (by rfl) B.range (pa_cons (pv 1) pa_nil)) (pg_name (i := 11) sc__law_known.nd rfl (by first | exact Or.inl rfl | exact Or.inr rfl))
            (pss_one (ps_expr (pe_bm PySem.F.plainAttrs_list PySem.F.slot_list_extend PySem.F.type_list_extend mt_extend (pv 2) (pa_cons (pe_lc (own := [("_law_b", 12)]) (g := (gName 12)) (tt := tYes) rfl sc__law_known.nd (pi_range1 (by rfl) B.range (pa_cons (pv 7) pa_nil)) (blkOk_by (own := [("_law_b", 12)]) (N := N__law_known) (sc := defScope s__law_known) (by decide +kernel)) (fun _ _ _ _ _ => (pg_name (i := 12) sc__law_known.nd rfl (by first | exact Or.inl rfl | exact Or.inr rfl))) (fun _ _ _ _ _ => pts_nil) (fun _ _ _ _ _ => (pe_tup (pa_cons (pv 11) (pa_cons (pe_op op_add (pv 1) (pv 12)) pa_nil))))) pa_nil)))))) pss_nil)
        (pss_cons (ps_set (i := 1) sc__law_known.nd rfl (by first | exact Or.inl rfl | exact Or.inr rfl) (pe_op op_add (pv 1) (pv 7)))
        (pss_cons (ps_set (i := 3) sc__law_known.nd rfl (by first | exact Or.inl rfl | exact Or.inr rfl) (pe_op op_mul (pv 3) (pv 9)))
        (pss_one (ps_expr (pe_bm PySem.F.plainAttrs_list PySem.F.slot_list_append PySem.F.type_list_append mt_append (pv 4) (pa_cons (pv 10) pa_nil)))))))))) pss_nil)))
    (pss_cut (ps_if (PW.pt (pw_and (pt_val (pv 5)) (pw_and1 (pt_cmpR op_gt (pe_callB call_len_seq (by rfl) B.len (by decide +kernel) (pa_cons (pv 4) pa_nil)) pe_int (nomark _))))) (pss_cons (ps_set (i := 3) sc__law_known.nd rfl (by first | exact Or.inl rfl | exact Or.inr rfl) (pe_op op_mul (pv 3) (pe_c c__law_orders hr (by decide) (by rfl) (pa_cons (pe_callB (cr_sum rfl) (by rfl) B.sum (by decide +kernel) (pa_cons (pv 4) pa_nil)) pa_nil))))
      (pss_one (ps_for PassesOwn.never rfl (pi_list (pv 4)) (pg_name (i := 10) sc__law_known.nd rfl (by first | exact Or.inl rfl | exact Or.inr rfl))
        (pss_one (ps_set (i := 3) sc__law_known.nd rfl (by first | exact Or.inl rfl | exact Or.inr rfl) (pe_op op_fdiv (pv 3) (pe_c c__law_orders hr (by decide) (by rfl) (pa_cons (pv 10) pa_nil)))))))) pss_nil)
    (pss_cons (ps_set (i := 13) sc__law_known.nd rfl (by first | exact Or.inl rfl | exact Or.inr rfl) (pe_c c__law_row hr (by decide) (by rfl) (pa_cons (pv 0) (pa_cons (pv 1) pa_nil))))
    (pss_one (ps_ret (pe_tup (pa_cons (pe_tup (pa_cons (pv 1) (pa_cons (pe_callTy call_tuple_of (by rfl) B.tuple (by decide +kernel) (pa_cons (pe_callB cr_sortedPO (by rfl) B.sorted (by decide +kernel) (pa_cons (pe_lc (own := [("_law_a", 11), ("_law_b", 12)]) (g := (gTup K 2 (gCons (gName 11) (gCons (gName 12) gNil)))) (tt := tYes) (te := (tCB (rTupK K) (tCons (tCB (rSortedI K) (tCons (tLst (tCons (tOp (rIxL K) _ _) (tCons (tOp (rIxL K) _ _) tNil))) tNil)) tNil))) rfl sc__law_known.nd (pi_list (pv 2)) (blkOk_by (own := [("_law_a", 11), ("_law_b", 12)]) (N := N__law_known) (sc := defScope s__law_known) (by decide +kernel)) (fun _ _ _ _ _ => (pg_tup rfl (pgs_cons (pg_name (i := 11) sc__law_known.nd rfl (by first | exact Or.inl rfl | exact Or.inr rfl)) (pgs_cons (pg_name (i := 12) sc__law_known.nd rfl (by first | exact Or.inl rfl | exact Or.inr rfl)) pgs_nil)))) (fun _ _ _ _ _ => pts_nil) (fun _ _ _ _ _ => (pe_callTy call_tuple_of (by rfl) B.tuple (by decide +kernel) (pa_cons (pe_callB cr_sortedI (by rfl) B.sorted (by decide +kernel) (pa_cons (pe_lst (pa_cons (pe_ix ix_list (pv 13) (pv 11) (fun _ _ => rfl)) (pa_cons (pe_ix ix_list (pv 13) (pv 12) (fun _ _ => rfl)) pa_nil))) pa_nil)) pa_nil)))) pa_nil)) pa_nil)) pa_nil))) (pa_cons (pv 3) pa_nil))))))))))))), ?_⟩
    refine ⟨Nat.zero_le _, fun Tl nTl => ?_⟩
    have sT := same_new (o := .lst []) nTl
    refine ⟨Nat.zero_le _, fun Sl nSl => ?_⟩
    have sS := same_new (o := .lst []) nSl
    have TlL : Tl ≠ L := lf.ne nTl
    have nSl0 : H Sl = none := same_free sT nSl
    have SlL : Sl ≠ L := lf.ne nSl0
    have TS : Tl ≠ Sl := ne_of_none upd_same nSl
    have eT0 := sS _ _ (upd_same (H := H) (a := Tl) (o := .lst []))
    have eS0 := upd_same (H := upd H Tl (.lst [])) (a := Sl) (o := .lst [])
    have s01 := sT.trans sS
    generalize upd (upd H Tl (.lst [])) Sl (.lst []) = H1 at s01 eT0 eS0 ⊢
    have lf1 := lf.same s01
    refine ⟨_, rfl, L, 2, c, rfl, lf1, by omega, by omega, by omega, fun r1 H2 r10 r11 fr2 lf2 => ⟨rfl, ?_⟩⟩
    have eT2 := fr2 _ _ TlL eT0
    have eS2 := fr2 _ _ SlL eS0
    have fr02 := (Fr.of (L := L) s01).trans fr2
    generalize decide (V.int r1 = V.int 0) = J
    refine ⟨_, rfl, L, 4, _, rfl, lf2, by omega, by omega, by omega, fun r2 H3 r20 r21 fr3 lf3 => ?_⟩
    have eT3 := fr3 _ _ TlL eT2
    have eS3 := fr3 _ _ SlL eS2
    have fr03 := fr02.trans fr3
    refine ⟨_, _, rfl, rfl, _, rfl, by omega, by omega, ?_⟩
    refine for_range (fun i σ HX => ∃ (n wn : Nat) (as : List Ar) (us : List V) (ss : List Nat) (y6 y7 y8 y9 y10 y11 y12 : Option V), σ = [some (.ref L), some (.int (n : Int)), some (.ref Tl), some (.int (wn : Int)), some (.ref Sl), some (.bl J), y6, y7, y8, y9, y10, y11, y12, none] ∧ Fr L H HX ∧ Lf HX L (c + 2 + 100 * (i : Int)) ∧ HX Tl = some (.lst us) ∧ Ties HX us as ∧ HX Sl = some (.lst (nI ss)) ∧ ss.length ≤ i ∧ n ≤ 12 ∧ KnS J n as wn ss)
      ⟨0, 1, [], [], [], _, _, _, _, _, _, _, rfl, fr03, lf3.mono (by omega), eT3, trivial, eS3, Nat.le_refl _, by omega, .inl ⟨rfl, rfl, rfl, rfl⟩⟩ ?_ ?_
    · rintro i σ HX hi ⟨n, wn, as, us, ss, y6, y7, y8, y9, y10, y11, y12, rfl, frX, lfX, eT, hT, eS, sl, hn, hk⟩
      have hi4 : i < 4 := by omega
      have asl := hk.few hn
      have ul := hT.len
      refine ⟨_, rfl, _, _, rfl, rfl, _, rfl, ?_⟩
      by_cases n12 : n < 12
      · rw [decide_eq_true (show ((n : Nat) : Int) < 12 by omega)]
        refine iteT ?_
        -- so many
        refine ⟨_, rfl, _, rfl, _, _, rfl, rfl, ?_⟩
        refine ⟨by show 3 ≤ sizeLine; decide, fun l nl => ?_⟩
        have sl' := same_new (o := .lst [V.int 4, V.int 7, V.int 12]) nl
        have el := upd_same (H := HX) (a := l) (o := .lst [V.int 4, V.int 7, V.int 12])
        generalize upd HX l (.lst [V.int 4, V.int 7, V.int 12]) = HA at sl' el ⊢
        have lfA := lfX.same sl'
        have lL : l ≠ L := lfX.ne nl
        refine ⟨_, rfl, L, 3, _, rfl, lfA, by omega, by omega, by omega, fun r5 HB r50 r51 frB lfB => ?_⟩
        obtain ⟨x, ex, hx⟩ : ∃ x : Int, atI [V.int 4, V.int 7, V.int 12] r5 = some (.int x) ∧ (x = 4 ∨ x = 7 ∨ x = 12) := by
          rcases (by omega : r5 = 0 ∨ r5 = 1 ∨ r5 = 2) with rfl | rfl | rfl
          · exact ⟨4, atI_nat (j := 0) rfl, .inl rfl⟩
          · exact ⟨7, atI_nat (j := 1) rfl, .inr (.inl rfl)⟩
          · exact ⟨12, atI_nat (j := 2) rfl, .inr (.inr rfl)⟩
        refine ⟨l, _, r5, .int x, rfl, rfl, SqL.of (frB _ _ lL el), ex, _, _, rfl, ?_⟩
        have mb : 1 ≤ (if x < 12 - (n : Int) then x else 12 - (n : Int)) ∧ (if x < 12 - (n : Int) then x else 12 - (n : Int)) ≤ 12 - (n : Int) := by
          split <;> omega
        generalize (if x < 12 - (n : Int) then x else 12 - (n : Int)) = mn at mb ⊢
        refine ⟨L, mn, _, rfl, lfB, by omega, by omega, by omega, fun r6 HC r60 r61 frC lfC => ?_⟩
        refine ⟨_, _, rfl, rfl, ?_⟩
        obtain ⟨m0, em⟩ := natOf r60
        subst em
        change gName 7 (V.int ((1 + m0 : Nat) : Int)) _ _ _
        obtain ⟨m, em1⟩ : ∃ m : Nat, 1 + m0 = m := ⟨_, rfl⟩
        rw [em1]
        have frXC : Fr L HX HC := ((Fr.of sl').trans frB).trans frC
        -- the piece
        refine ⟨_, rfl, _, rfl, L, m, _, rfl, lfC, by omega, by omega, by omega, fun T O ou own N k HD OL frD lfD eTd eO hO hp hN => ?_⟩
        refine ⟨T, _, rfl, SqT.of eTd, rfl, _, _, rfl, _, _, rfl, _, _, rfl, rfl, ?_⟩
        have frXD := frXC.trans frD
        have frHD := frX.trans frXD
        have eT4 := frXD _ _ TlL eT
        have eS4 := frXD _ _ SlL eS
        have hT4 := hT.mono (lfX.tst frXD)
        have hOW := hp.ok
        have owl : own.length ≤ 144 := Nat.le_trans (cs_len (nd_pw hOW.1) fun t ht => inR_of hOW ht) (Nat.mul_le_mul (by omega : m ≤ 12) (by omega : m ≤ 12))
        have oul := hO.len
        -- its ties
        refine ⟨_, rfl, .inl ⟨rfl, _, SqL.of eT4⟩, ?_⟩
        refine ⟨_, rfl, O, rfl, ⟨_, SqL.of eO⟩, fun G nG => ?_⟩
        have GT : Tl ≠ G := ne_of_none eT4 nG
        refine wk (walk_list (K := K) (a := O) (xs := ou)) (fun j HY => ∃ ws, Same HD HY ∧ HY G = some (.lst ws) ∧ Ties HY ws ((own.take j).map (shA2 n))) ⟨[], same_new nG, upd_same, by exact trivial⟩ ?_ ?_ ?_
        · rintro j HY _ ⟨_, sY, _⟩
          exact SqL.of (sY _ _ eO)
        · rintro j x HY0 HY hj ⟨ws, sY, eG, hw⟩ ⟨rfl, hx⟩
          obtain ⟨t, et, ht⟩ := hO.at hx
          obtain ⟨pt, rfl, ept⟩ := ht.mono (Same.tst sY)
          have wl := hw.len
          rw [List.length_map, List.length_take] at wl
          refine ⟨pt, _, rfl, SqT.of ept, rfl, _, _, rfl, _, _, rfl, rfl, rfl, yes ?_⟩
          refine ⟨_, rfl, _, rfl, _, _, rfl, rfl, _, rfl, _, rfl, _, _, rfl, rfl, by show 2 ≤ sizeLine; decide, fun kk nk => ?_⟩
          have sk := same_new (o := .tup [.int ((n : Int) + t.1), .int ((n : Int) + t.2)]) nk
          have eG' := sk _ _ eG
          refine ⟨ws, eG', sz' (by omega), ws ++ [.ref kk], Same.put (sY.trans sk) nG, upd_same, ?_⟩
          rw [List.take_add_one, et, List.map_append]
          exact ((hw.mono (Same.tst sk)).mono (tst_put eG')).app (Ties.one ⟨kk, rfl, tst_put eG' _ _ upd_same⟩)
        rintro HE ⟨ws, sE, eG, hw⟩
        rw [oul, List.take_length] at hw
        have eT5 := sE _ _ eT4
        have eS5 := sE _ _ eS4
        have wl := hw.len
        rw [List.length_map] at wl
        refine ⟨Tl, G, us, ws, rfl, rfl, eT5, eG, sz (by omega), ?_⟩
        have tp := tst_put (o := .lst (us ++ ws)) eT5
        have hT6 := ((hT4.mono (Same.tst sE)).app hw).mono tp
        have eT6 := upd_same (H := HE) (a := Tl) (o := .lst (us ++ ws))
        have eS6 : upd HE Tl (.lst (us ++ ws)) Sl = some (.lst (nI ss)) := by rw [upd_ne (Ne.symm TS)]; exact eS5
        have fr6 : Fr L H (upd HE Tl (.lst (us ++ ws))) := Fr.put (frHD.trans (Fr.of sE)) nTl
        have lf6 : Lf (upd HE Tl (.lst (us ++ ws))) L (c + 2 + 100 * (i : Int) + 10) := ((lfD.same sE).put TlL).mono (by omega)
        generalize upd HE Tl (.lst (us ++ ws)) = HF at hT6 eT6 eS6 fr6 lf6 ⊢
        have nm12 : n + m ≤ 12 := by omega
        have step := kn_step hk (by omega : 0 < m) hp
        -- .. and those between
        refine ⟨fun σ HZ => ∃ (y11 y12 : Option V) (uz : List V), σ = [some (.ref L), some (.int (n : Int)), some (.ref Tl), some (.int (wn : Int)), some (.ref Sl), some (.bl J), some (.int (0 + (i : Int))), some (.int (m : Int)), some (.ref O), some (.int (N : Int)), some (.int (k : Int)), y11, y12, none] ∧ Fr L H HZ ∧ Lf HZ L (c + 2 + 100 * (i : Int) + 10) ∧ HZ Tl = some (.lst uz) ∧ Ties HZ uz (as ++ own.map (shA2 n) ++ (if J = true then crsL n m n else [])) ∧ HZ Sl = some (.lst (nI ss)), ?_, ?_⟩
        · refine ⟨_, rfl, J, rfl, ?_⟩
          cases J with
          | false => exact iteF ⟨_, _, _, rfl, fr6, lf6, eT6, by rw [if_neg (by decide), List.append_nil]; exact hT6, eS6⟩
          | true =>
            refine iteT ⟨_, rfl, _, rfl, by omega, by omega, ?_⟩
            refine for_range (fun a σ HZ => ∃ (y11 y12 : Option V) (uz : List V), σ = [some (.ref L), some (.int (n : Int)), some (.ref Tl), some (.int (wn : Int)), some (.ref Sl), some (.bl true), some (.int (0 + (i : Int))), some (.int (m : Int)), some (.ref O), some (.int (N : Int)), some (.int (k : Int)), y11, y12, none] ∧ Fr L H HZ ∧ Lf HZ L (c + 2 + 100 * (i : Int) + 10) ∧ HZ Tl = some (.lst uz) ∧ Ties HZ uz (as ++ own.map (shA2 n) ++ crsL n m a) ∧ HZ Sl = some (.lst (nI ss))) ⟨_, _, _, rfl, fr6, lf6, eT6, by
              show Ties HF (us ++ ws) (as ++ own.map (shA2 n) ++ [])
              rw [List.append_nil]; exact hT6, eS6⟩ ?_ ?_
            · rintro a σ HZ ha ⟨y11, y12, uz, rfl, frZ, lfZ, eTZ, hTZ, eSZ⟩
              have ha' : a < n := by omega
              have uzl := hTZ.len
              have cl := crsL_len n m a (by omega)
              have am : a * m ≤ 144 := Nat.mul_le_mul (by omega : a ≤ 12) (by omega : m ≤ 12)
              rw [List.length_append, List.length_append, List.length_map] at uzl
              refine ⟨_, rfl, .inl ⟨rfl, _, SqL.of eTZ⟩, ?_⟩
              refine ⟨_, rfl, _, rfl, by omega, by omega, fun D nD => ?_⟩
              refine lc_range (fun j H2 => ∃ us, Same HZ H2 ∧ H2 D = some (.lst us) ∧ Ties H2 us (((up m).take j).map fun y => ((a : Int), (n : Int) + y))) ⟨[], same_new nD, upd_same, by exact trivial⟩ ?_ ?_
              · rintro j HW hj ⟨us2, sm2, eD, hU⟩
                have hj' : j < m := by omega
                refine ⟨rfl, yes ?_⟩
                refine ⟨_, rfl, _, rfl, _, rfl, _, _, rfl, rfl, by show 2 ≤ sizeLine; decide, fun t nt => ?_⟩
                have st := same_new (o := .tup [.int (0 + (a : Int)), .int ((n : Int) + (0 + (j : Int)))]) nt
                have eD' := st _ _ eD
                have usl := hU.len
                rw [List.length_map, List.length_take] at usl
                refine ⟨us2, eD', sz' (by omega), us2 ++ [.ref t], Same.put (sm2.trans st) nD, upd_same, ?_⟩
                rw [List.take_add_one, up_get hj', List.map_append]
                have e3 := tst_put (o := .lst (us2 ++ [.ref t])) eD' _ _ (upd_same (H := HW) (a := t) (o := .tup [.int (0 + (a : Int)), .int ((n : Int) + (0 + (j : Int)))]))
                refine ((hU.mono (Same.tst st)).mono (tst_put eD')).app (Ties.one ⟨t, rfl, e3.trans ?_⟩)
                show some (HO.tup [.int (0 + (a : Int)), .int ((n : Int) + (0 + (j : Int)))]) = some (HO.tup [.int (a : Int), .int ((n : Int) + (j : Int))])
                rw [Int.zero_add, Int.zero_add]
              · rintro HW ⟨us2, sm2, eD, hU⟩
                rw [show ((m : Int)).toNat = m from Int.toNat_natCast m, List.take_of_length_le (by rw [up_len]; exact Nat.le_refl _)] at hU
                have eTW := sm2 _ _ eTZ
                have usl := hU.len
                rw [List.length_map, up_len] at usl
                refine ⟨Tl, D, uz, us2, rfl, rfl, eTW, eD, sz (by omega), ?_⟩
                refine ⟨_, y12, uz ++ us2, rfl, Fr.put (frZ.trans (Fr.of sm2)) nTl, (lfZ.same sm2).put TlL, upd_same, ?_, by rw [upd_ne (Ne.symm TS)]; exact sm2 _ _ eSZ⟩
                rw [crsL_step ha', ← List.append_assoc]
                exact ((hTZ.mono (Same.tst sm2)).app hU).mono (tst_put eTW)
            · rintro σ HZ ⟨y11, y12, uz, rfl, frZ, lfZ, eTZ, hTZ, eSZ⟩
              rw [show ((n : Int)).toNat = n from Int.toNat_natCast n] at hTZ
              exact ⟨_, _, _, rfl, frZ, lfZ, eTZ, by rw [if_pos rfl]; exact hTZ, eSZ⟩
        · rintro σ HZ ⟨y11, y12, uz, rfl, frZ, lfZ, eTZ, hTZ, eSZ⟩
          refine ⟨_, rfl, _, rfl, _, _, rfl, rfl, ?_⟩
          refine ⟨_, rfl, _, rfl, _, _, rfl, rfl, .inr ⟨by omega, by omega⟩, ?_⟩
          have nl : (nI ss).length = ss.length := by unfold nI; rw [List.length_map, List.length_map]
          refine ⟨_, rfl, .inl ⟨rfl, _, SqL.of eSZ⟩, _, rfl, Sl, _, _, rfl, rfl, eSZ, sz' (by omega), ?_⟩
          have tp := tst_put (o := .lst (nI ss ++ [.int (k : Int)])) eSZ
          refine ⟨n + m, wn * N, _, uz, ss ++ [k], _, _, _, _, _, _, _, rfl, Fr.put frZ nSl0, (lfZ.put SlL).mono (by omega), by rw [upd_ne TS]; exact eTZ, hTZ.mono tp, ?_, by rw [List.length_append]; show ss.length + 1 ≤ i + 1; omega, nm12, step⟩
          rw [upd_same]
          unfold nI
          rw [List.map_append, List.map_append]; rfl
      · rw [decide_eq_false (show ¬ ((n : Nat) : Int) < 12 by omega)]
        exact iteF ⟨n, wn, as, us, ss, _, _, _, _, _, _, _, rfl, frX, lfX.mono (by omega), eT, hT, eS, by omega, hn, hk⟩
    · rintro σ HX ⟨n, wn, as, us, ss, y6, y7, y8, y9, y10, y11, y12, rfl, frX, lfX, eT, hT, eS, sl, hn, hk⟩
      have i4 : ((1 + r2).toNat : Int) ≤ 4 := by omega
      have sn : ss.length ≤ 4 := by omega
      have nl : (nI ss).length = ss.length := by unfold nI; rw [List.length_map, List.length_map]
      obtain ⟨rs, hW, pa, hc⟩ := kn_end hk
      have lfX : Lf HX L (c + 500) := lfX.mono (by omega)
      have asl := hk.few hn
      have ul := hT.len
      refine ⟨fun σ HZ => ∃ (y10 : Option V), σ = [some (.ref L), some (.int (n : Int)), some (.ref Tl), some (.int ((endW J wn ss : Nat) : Int)), some (.ref Sl), some (.bl J), y6, y7, y8, y9, y10, y11, y12, none] ∧ HZ = HX, ?_, ?_⟩
      · refine ⟨_, rfl, J, rfl, ?_⟩
        cases J with
        | false =>
          refine iteF (iteF ⟨y10, ?_, rfl⟩)
          unfold endW
          rw [if_neg (fun z => by cases z.1)]
        | true =>
          have sm := hk.small rfl
          refine iteT ⟨_, rfl, Sl, _, rfl, .inl (SqL.of eS), _, _, rfl, rfl, _, rfl, ?_⟩
          by_cases l1 : 1 < ss.length
          · rw [nl, decide_eq_true (show (1 : Int) < ((ss.length : Nat) : Int) by omega)]
            have f12 := fact_12 ss.sum (by omega)
            refine iteT ⟨_, rfl, _, rfl, Sl, _, rfl, SqL.of eS, ss.sum, by rw [sumN]; rfl, by omega, _, _, rfl, rfl, .inr ⟨by omega, by omega⟩, ?_⟩
            refine ⟨_, rfl, Sl, rfl, ⟨_, SqL.of eS⟩, ?_⟩
            refine for_it (walk_list (K := K) (a := Sl) (xs := nI ss)) (fun i σ HZ => ∃ y10, σ = [some (.ref L), some (.int (n : Int)), some (.ref Tl), some (.int ((divL (wn * factT ss.sum) (ss.take i) : Nat) : Int)), some (.ref Sl), some (.bl true), y6, y7, y8, y9, y10, y11, y12, none] ∧ HZ = HX) ⟨_, rfl, rfl⟩ ?_ ?_ ?_
            · rintro i σ HZ _ ⟨_, _, rfl⟩
              exact SqL.of eS
            · rintro i x σ HZ0 HZ hi ⟨y10, rfl, rfl⟩ ⟨rfl, hx⟩
              unfold nI at hx
              rw [List.getElem?_map, List.getElem?_map] at hx
              obtain ⟨_, h1, rfl⟩ := Option.map_eq_some_iff.mp hx
              obtain ⟨s, es, rfl⟩ := Option.map_eq_some_iff.mp h1
              have s12 := sum_le (List.mem_of_getElem? es)
              have fs := fact_12 s (by omega)
              refine ⟨_, rfl, _, rfl, s, rfl, by omega, _, _, rfl, rfl, ⟨by omega, by omega⟩, ?_⟩
              refine ⟨some (.int (s : Int)), ?_, rfl⟩
              rw [List.take_add_one, es]
              show _ = [some (V.ref L), some (V.int (n : Int)), some (V.ref Tl), some (V.int ((divL (wn * factT ss.sum) (ss.take i ++ [s]) : Nat) : Int)), some (V.ref Sl), some (V.bl true), y6, y7, y8, y9, some (V.int (s : Int)), y11, y12, none]
              rw [divL_snoc, Int.natCast_ediv]; rfl
            · rintro σ HZ ⟨y10, rfl, rfl⟩
              refine ⟨y10, ?_, rfl⟩
              unfold endW
              rw [if_pos ⟨rfl, l1⟩, nl, List.take_length]
          · rw [nl, decide_eq_false (show ¬ (1 : Int) < ((ss.length : Nat) : Int) by omega)]
            refine iteF ⟨y10, ?_, rfl⟩
            unfold endW
            rw [if_neg (fun z => l1 z.2)]
      rintro σ HZ ⟨y10, rfl, rfl⟩
      rw [← hc]
      -- numbered anew
      refine ⟨_, rfl, _, rfl, L, n, _, rfl, lfX, by omega, by omega, fun R rr HA nR frA lfA eR pm => ?_⟩
      have RT : Tl ≠ R := ne_of_none eT nR
      have eTA := frA _ _ TlL eT
      have hTA := hT.mono (lfX.tst frA)
      refine ⟨_, rfl, _, rfl, Tl, rfl, ⟨_, SqL.of eTA⟩, fun G nG => ?_⟩
      refine wk (walk_list (K := K) (a := Tl) (xs := us)) (fun j HY => ∃ ws, Same HA HY ∧ HY G = some (.lst ws) ∧ Ties HY ws ((as.take j).map (rnT rr))) ⟨[], same_new nG, upd_same, by exact trivial⟩ ?_ ?_ ?_
      · rintro j HY _ ⟨_, sY, _⟩
        exact SqL.of (sY _ _ eTA)
      · rintro j x HY0 HY hj ⟨ws, sY, eG, hw⟩ ⟨rfl, hx⟩
        obtain ⟨t, et, ht⟩ := hTA.at hx
        obtain ⟨pt, rfl, ept⟩ := ht.mono (Same.tst sY)
        obtain ⟨t1, t2⟩ := hk.inn t (List.mem_of_getElem? et)
        have b1 := mem_up.mp t1
        have b2 := mem_up.mp t2
        obtain ⟨i1, e1⟩ := natOf b1.1
        obtain ⟨i2, e2⟩ := natOf b2.1
        have g1 := (rnF_at pm t1).1
        have g2 := (rnF_at pm t2).1
        have a1 : atI (rr.map V.int) t.1 = some (.int (rnF rr t.1)) := by
          rw [e1] at g1 ⊢
          rw [Int.toNat_natCast] at g1
          exact atI_nat (by rw [List.getElem?_map, g1]; rfl)
        have a2 : atI (rr.map V.int) t.2 = some (.int (rnF rr t.2)) := by
          rw [e2] at g2 ⊢
          rw [Int.toNat_natCast] at g2
          exact atI_nat (by rw [List.getElem?_map, g2]; rfl)
        have eRY := sY _ _ eR
        have wl := hw.len
        rw [List.length_map, List.length_take] at wl
        refine ⟨pt, _, rfl, SqT.of ept, rfl, _, _, rfl, _, _, rfl, rfl, rfl, yes ?_⟩
        refine ⟨_, rfl, _, rfl, R, _, t.1, _, rfl, rfl, SqL.of eRY, a1, _, rfl, _, rfl, R, _, t.2, _, rfl, rfl, SqL.of eRY, a2, by show 2 ≤ sizeLine; decide, fun l nl => ?_⟩
        have sl := same_new (o := .lst [V.int (rnF rr t.1), V.int (rnF rr t.2)]) nl
        refine ⟨l, [rnF rr t.1, rnF rr t.2], rfl, SqL.of upd_same, fun ns' p1 pm1 pw1 np1 => ?_⟩
        rw [perm_nrmK (t := (rnF rr t.1, rnF rr t.2)) pm1 pw1]
        have sp1 := same_new (o := .lst ([(rnT rr t).1, (rnT rr t).2].map V.int)) np1
        refine ⟨p1, _, rfl, .inl ⟨SqL.of upd_same, fun k2 nk2 => ?_⟩⟩
        have sk2 := same_new (o := .tup ([(rnT rr t).1, (rnT rr t).2].map V.int)) nk2
        have s12 := (sl.trans sp1).trans sk2
        have e3 := s12 _ _ eG
        refine ⟨ws, e3, sz' (by omega), ws ++ [.ref k2], Same.put (sY.trans s12) nG, upd_same, ?_⟩
        rw [List.take_add_one, et, List.map_append]
        exact Ties.mono (tst_put e3) ((hw.mono (Same.tst s12)).app (Ties.one ⟨k2, rfl, upd_same⟩))
      rintro HB ⟨ws, sB, eG, hw⟩
      rw [ul, List.take_length] at hw
      refine ⟨G, _, My.key HB, rfl, SqL.of eG, hw.all, fun ys p hs hst np => ?_⟩
      obtain ⟨fs, hT', pf', pwf⟩ := srt_ties hs hst.perm hw
      obtain ⟨hF, cF⟩ := ren_web hW pa pm pf' pwf
      refine ⟨p, ys, rfl, .inl ⟨SqL.of upd_same, fun t nt => ?_⟩⟩
      have sp := (same_new (H := HB) (o := .lst ys) np).trans (same_new (o := .tup ys) nt)
      have et := upd_same (H := upd HB p (.lst ys)) (a := t) (o := .tup ys)
      generalize upd (upd HB p (.lst ys)) t (.tup ys) = HC at sp et ⊢
      refine ⟨by show 2 ≤ sizeLine; decide, fun u nu => ?_⟩
      have su := same_new (o := .tup [.int (n : Int), .ref t]) nu
      have eu := upd_same (H := HC) (a := u) (o := .tup [.int (n : Int), .ref t])
      generalize upd HC u (.tup [.int (n : Int), .ref t]) = HD at su eu ⊢
      refine ⟨_, rfl, by show 2 ≤ sizeLine; decide, fun z nz => ?_⟩
      have sz2 := same_new (o := .tup [.ref u, .int ((allL rs).length : Int)]) nz
      have sAll := ((sB.trans sp).trans su).trans sz2
      refine q z (.ref u) n fs _ ((frX.trans frA).trans (Fr.of sAll)) ((lfA.same sAll).mono (by omega)) (by rw [cF]; exact upd_same) ⟨u, t, ys, rfl, sz2 _ _ eu, sz2 _ _ (su _ _ et), hT'.mono (Same.tst ((sp.trans su).trans sz2))⟩ hF hn
end
end My

set_option Elab.async false
set_option linter.all false
set_option maxRecDepth 100000
set_option pp.maxSteps 400
set_option maxHeartbeats 4000000
namespace My
open PySem PySem.Spec PyProof.Rows L2 GxR
theorem lf_set1 {H : Hp} {L : Addr} {c : Int} (h : Lf H L c) : ∃ x y z : Int, H L = some (.lst [.int x, .int y, .int z]) ∧ ∀ u : Int, Lf (upd H L (.lst [.int x, .int u, .int z])) L c := by
  obtain ⟨x, y, z, h1, h2, h3, h4⟩ := h
  exact ⟨x, y, z, h1, fun u => ⟨x, u, z, upd_same, h2, h3, h4⟩⟩
section
variable {P : Program} {w : World} {K : PySem.W.Frag} {mg : Str → Option Value} {base : Heap}
/-! ### law -/
abbrev N_law : List Str := ["_law_script", "_law_cells", "_law_k", "_law_left_here", "_law_one", "_law_other", "_law_web", "_law_ways"]
theorem sc_law : FnScope N_law ["_law_script"] (defScope s_law) := ⟨rfl, rfl, rfl, by decide +kernel, rfl, by decide +kernel, by decide +kernel⟩
def sp_law (K : PySem.W.Frag) (PT : Addr) : Sp := fun vs H Q _ => ∃ (a : Addr) (ns : List Int), vs = [.ref a] ∧ SqL K H a (ns.map V.int) ∧ ns.length ≤ 63 ∧ TabG H PT ∧ ∀ H', Q (.bl true) H'
theorem ok_law {f PT : Addr} {fd : FuncData} (B : Bts mg) (F : Fun K "law" "law" s_law f fd) (c__law_left : Cl P w K mg base 1 "_law_left" (sp_left K)) (c__law_folded : Cl P w K mg base 1 "_law_folded" (sp_folded K)) (c__law_known : Cl P w K mg base 4 "_law_known" sp_known29)
    (c_count_ways : Cl P w K mg base 21 "count_ways" (sp_count PT)) (c__law_same : Cl P w K mg base 5 "_law_same" (sp_same 5)) : TopRun P w K mg base f fd "_law_script" (sp_law K PT) := by
  refine top_run (k := 29) F sc_law ⟨rfl, by decide, by decide⟩ fun cdv s H v Q E hr h => ?_
  obtain ⟨a, ns, e, hS, hl, tg, q⟩ := h
  cases e
  refine ⟨_, (pss_cons (ps_set (i := 1) sc_law.nd rfl (by first | exact Or.inl rfl | exact Or.inr rfl) (pe_c c__law_folded hr (by decide) (by rfl) (pa_cons (pv 0) (pa_cons pe_int pa_nil))))
    (pss_cons (ps_for PassesOwn.never rfl (pi_range1 (by rfl) B.range (pa_cons (pe_callB (call_max2 rfl) (by rfl) B.max (by decide +kernel) (pa_cons pe_int (pa_cons (pe_callB call_len_seq (by rfl) B.len (by decide +kernel) (pa_cons (pv 1) pa_nil)) pa_nil))) pa_nil)) (pg_name (i := 2) sc_law.nd rfl (by first | exact Or.inl rfl | exact Or.inr rfl))
      (pss_cons (ps_set (i := 3) sc_law.nd rfl (by first | exact Or.inl rfl | exact Or.inr rfl) (pe_c c__law_left hr (by decide) (by rfl) (pa_cons (pv 1) (pa_cons (pv 2) pa_nil))))
      (pss_cons (ps_asg (pe_op op_add (pe_ix ix_list (pv 3) pe_int (fun _ _ => rfl)) pe_int) (pg_sub (pv 3) pe_int set_list))
      (pss_cons (ps_par (i := 4) (j := 5) rfl sc_law.nd rfl rfl (by decide) rfl rfl (pa_cons (pe_c c__law_known hr (by decide) (by rfl) (pa_cons (pv 3) pa_nil)) (pa_cons (pe_c c__law_known hr (by decide) (by rfl) (pa_cons (pv 3) pa_nil)) pa_nil)) (by rfl))
      (pss_one (ps_for PassesOwn.never rfl (pi_tup (pe_tup (pa_cons (pv 4) (pa_cons (pv 5) (pa_cons (pv 4) pa_nil))))) (pg_tup rfl (pgs_cons (pg_name (i := 6) sc_law.nd rfl (by first | exact Or.inl rfl | exact Or.inr rfl)) (pgs_cons (pg_name (i := 7) sc_law.nd rfl (by first | exact Or.inl rfl | exact Or.inr rfl)) pgs_nil)))
        (pss_one (ps_if (pt_not (pt_val (pe_c c__law_same hr (by decide) (by rfl) (pa_cons (pe_c c_count_ways hr (by decide) (by rfl) (pa_cons (pv 6) pa_nil)) (pa_cons (pv 7) pa_nil))))) (pss_one (ps_ret pe_bl)) pss_nil))))))))
    (pss_one (ps_ret (pe_cmpR op_eq (pe_c c_count_ways hr (by decide) (by rfl) (pa_cons (pe_tup (pa_cons pe_int (pa_cons (pe_tup pa_nil) pa_nil))) pa_nil)) pe_int (nomark _)))))), ?_⟩
  refine ⟨_, rfl, a, ns, 5, rfl, hS, hl, by decide, by decide, fun C cs H0 nC sC eC clen => ?_⟩
  have tg0 := tab_same tg sC
  refine ⟨_, rfl, C, _, rfl, .inl (SqL.of eC), _, _, rfl, _, rfl, ?_, ?_, ?_⟩
  · rw [List.length_map]; split <;> omega
  · rw [List.length_map]; split <;> omega
  refine for_range (fun k σ H1 => ∃ y2 y3 y4 y5 y6 y7, σ = [some (.ref a), some (.ref C), y2, y3, y4, y5, y6, y7] ∧ St1 PT H0 H1) ⟨none, none, none, none, none, none, rfl, St1.refl tg0⟩ ?_ ?_
  · rintro k σ H1 hk ⟨y2, y3, y4, y5, y6, y7, rfl, S1⟩
    have hk' : k < 100 := by
      refine Nat.lt_of_lt_of_le hk ?_
      rw [List.length_map]; split <;> omega
    refine ⟨_, rfl, _, rfl, C, cs, _, rfl, SqL.of (S1.lst tg0 eC), by omega, by omega, fun L H2 nL s2 lf2 => ?_⟩
    have n0L : H0 L = none := S1.free nL
    have S2 := S1.same s2
    obtain ⟨x, y, z, eL, setL⟩ := lf_set1 lf2
    refine ⟨_, rfl, L, _, _, _, rfl, rfl, SqL.of eL, rfl, _, _, rfl, rfl, ?_⟩
    refine ⟨_, rfl, L, _, _, _, rfl, rfl, eL, rfl, ?_⟩
    have S3 : St1 PT H0 (upd H2 L (.lst [.int x, .int (y + 300), .int z])) := S2.put n0L eL
    -- two known ones
    refine ⟨_, rfl, L, 0, rfl, setL (y + 300), by decide, fun T1 v1 n1 ts1 H4 fr4 lf4 e1 hWeb1 hW1 hn1 => ?_⟩
    have S4 := S3.frL (setL (y + 300)) n0L fr4
    refine ⟨_, rfl, L, _, rfl, lf4, by decide, fun T2 v2 n2 ts2 H5 fr5 lf5 e2 hWeb2 hW2 hn2 => ?_⟩
    have S5 := S4.frL lf4 n0L fr5
    have t45 := lf4.tst fr5
    have e15 := t45 _ _ e1
    have hWeb15 := hWeb1.mono t45
    refine ⟨_, _, rfl, ?_⟩
    refine ⟨_, rfl, _, rfl, _, rfl, by show 3 ≤ sizeLine; decide, fun T nT => ⟨T, rfl, ⟨_, SqT.of upd_same⟩, ?_⟩⟩
    have sT := same_new (o := .tup [V.ref T1, V.ref T2, V.ref T1]) nT
    have eT := upd_same (H := H5) (a := T) (o := .tup [V.ref T1, V.ref T2, V.ref T1])
    have S6 := S5.same sT
    have e16 := sT _ _ e15
    have e26 := sT _ _ e2
    have w16 := hWeb15.mono (Same.tst sT)
    have w26 := hWeb2.mono (Same.tst sT)
    generalize upd H5 T (.tup [V.ref T1, V.ref T2, V.ref T1]) = H6 at sT eT S6 e16 e26 w16 w26 ⊢
    refine for_tup (K := K) (a := T) (xs := [V.ref T1, V.ref T2, V.ref T1]) (fun i σ HY => ∃ y6 y7, σ = [some (.ref a), some (.ref C), some (.int (0 + (k : Int))), some (.ref L), some (.ref T1), some (.ref T2), y6, y7] ∧ St1 PT H6 HY) ⟨_, _, rfl, St1.refl S6.tg⟩ ?_ ?_ ?_
    · rintro i σ HY _ ⟨_, _, _, SY⟩
      exact SqT.of (SY.tst S6.tg _ _ eT)
    · rintro i xx σ HY hx ⟨y6, y7, rfl, SY⟩
      have tY := SY.tst S6.tg
      obtain ⟨T', v, n, ts, rfl, eT', hWeb, hW, hn⟩ : ∃ (T' : Addr) (v : V) (n : Nat) (ts : List Ar), xx = .ref T' ∧ HY T' = some (.tup [v, .int ((allL ts).length : Int)]) ∧ Web HY v n ts ∧ WOk n ts ∧ n ≤ 12 := by
        have mx := List.mem_of_getElem? hx
        simp only [List.mem_cons, List.not_mem_nil, or_false] at mx
        rcases mx with rfl | rfl | rfl
        · exact ⟨T1, v1, n1, ts1, rfl, tY _ _ e16, w16.mono tY, hW1, hn1⟩
        · exact ⟨T2, v2, n2, ts2, rfl, tY _ _ e26, w26.mono tY, hW2, hn2⟩
        · exact ⟨T1, v1, n1, ts1, rfl, tY _ _ e16, w16.mono tY, hW1, hn1⟩
      refine ⟨T', _, rfl, SqT.of eT', rfl, _, _, rfl, _, _, rfl, rfl, ?_⟩
      refine ⟨_, rfl, v, n, ts, rfl, hWeb, hW, hn, SY.tg, fun c HA fA tgA hcA => ?_⟩
      have SA := SY.tab fA tgA
      refine ⟨_, rfl, .int c, .int ((allL ts).length : Int), rfl, by rw [count_all hW hcA]; exact Eqd.int, fun HC sC => ⟨true, rfl, iteF ?_⟩⟩
      exact ⟨_, _, rfl, SA.same sC⟩
    · rintro σ HY ⟨y6, y7, rfl, SY⟩
      exact ⟨_, _, _, _, _, _, rfl, S6.trans SY⟩
  · rintro σ H1 ⟨y2, y3, y4, y5, y6, y7, rfl, S1⟩
    -- no places
    refine ⟨by show 0 ≤ sizeLine; decide, fun e0 ne0 => ?_⟩
    have s0 := same_new (o := .tup []) ne0
    refine ⟨by show 2 ≤ sizeLine; decide, fun u nu => ?_⟩
    have su := same_new (o := .tup [V.int 0, V.ref e0]) nu
    have hWeb : Web (upd (upd H1 e0 (.tup [])) u (.tup [V.int 0, V.ref e0])) (.ref u) 0 [] := ⟨u, e0, [], rfl, upd_same, su _ _ upd_same, trivial⟩
    refine ⟨.ref u, 0, [], rfl, hWeb, ⟨.nil, fun t ht => absurd ht List.not_mem_nil⟩, by decide, tab_same S1.tg (s0.trans su), fun c HA fA tgA hcA => ?_⟩
    have ec : c = 1 := by
      rcases hcA with ⟨_, z⟩ | ⟨z, _⟩ | ⟨z, _⟩
      · exact z
      · omega
      · omega
    refine ⟨rfl, ?_⟩
    rw [ec, decide_eq_true rfl]
    exact q _
end
end My

set_option Elab.async false
set_option linter.all false
set_option maxRecDepth 100000
set_option maxHeartbeats 8000000
namespace My
open PySem PySem.Spec PyProof.Rows L2 GxR
/-! ### the head -/

theorem code_of {K : PySem.W.Frag} {x q : Str} {st : Stmt} {p : He.Defn} {fd : FuncData} (F : Fun K x q st (He.fAd K p) fd) : fd.code = .ref (He.codeOf K p) := by
  obtain ⟨oc, od, kV, doc, pm, an, cdv, ct, osl, rfl, lk, hcd⟩ := F.ex
  cases cdv with
  | ref c => rw [He.codeOf_eq lk rfl]
  | _ => cases hcd
theorem law_ok {P : Program} {w : World} {K : PySem.W.Frag} {h : Heap} {mg : Str → Option Value} {f : Addr} (X : K.In h) (G : h.Ns mainGlobals mg) (hfa : mg ("law" : Str) = some (.ref f)) (c : He.SaysX fas fns [] tfs exf w h K) :
    ∃ fd : FuncData, (∀ (s : Shared) (v : Value), BindsTo s fd ⟨[v], []⟩ [("_law_script", v)]) ∧ ∀ base : Heap, K.In base → base.Ns mainGlobals mg → (∀ p ∈ tfs.map (He.cT K), LamX.TabB base mg p.1 p.2) →
      TopRun P w K mg base f fd "_law_script" (sp_law K (He.cT K ("joined_sets", none)).2) := by
    have cd := c.t.d
    obtain ⟨fd_tied, F_tied⟩ := cd.def_ 0 (d := d_tied) rfl
    have b_tied : Binds K fd_tied ["web", "a", "b"] [] := F_tied.bindsN fun _ _ _ _ _ _ us hl => match us, hl with | [_, _, _], _ => rfl
    have g_tied : mg "tied" = some (.ref (He.ga K "tied")) := He.glo_ok X G (cd.fact 0 (f := .glo "tied") rfl)
    have U_tied : Fun K "tied" "tied" s_tied (He.ga K "tied") fd_tied := fun_of F_tied
    obtain ⟨fd_tie_of, F_tie_of⟩ := cd.def_ 1 (d := d_tie_of) rfl
    have b_tie_of : Binds K fd_tie_of ["a", "b"] [] := F_tie_of.bindsN fun _ _ _ _ _ _ us hl => match us, hl with | [_, _], _ => rfl
    have g_tie_of : mg "tie_of" = some (.ref (He.ga K "tie_of")) := He.glo_ok X G (cd.fact 1 (f := .glo "tie_of") rfl)
    have U_tie_of : Fun K "tie_of" "tie_of" s_tie_of (He.ga K "tie_of") fd_tie_of := fun_of F_tie_of
    obtain ⟨fd_gaps_of, F_gaps_of⟩ := cd.def_ 2 (d := d_gaps_of) rfl
    have b_gaps_of : Binds K fd_gaps_of ["web"] [] := F_gaps_of.bindsN fun _ _ _ _ _ _ us hl => match us, hl with | [_], _ => rfl
    have g_gaps_of : mg "gaps_of" = some (.ref (He.ga K "gaps_of")) := He.glo_ok X G (cd.fact 2 (f := .glo "gaps_of") rfl)
    have U_gaps_of : Fun K "gaps_of" "gaps_of" s_gaps_of (He.ga K "gaps_of") fd_gaps_of := fun_of F_gaps_of
    obtain ⟨fd_turned_about, F_turned_about⟩ := cd.def_ 3 (d := d_turned_about) rfl
    have b_turned_about : Binds K fd_turned_about ["pointing"] [] := F_turned_about.bindsN fun _ _ _ _ _ _ us hl => match us, hl with | [_], _ => rfl
    have g_turned_about : mg "turned_about" = some (.ref (He.ga K "turned_about")) := He.glo_ok X G (cd.fact 3 (f := .glo "turned_about") rfl)
    have U_turned_about : Fun K "turned_about" "turned_about" s_turned_about (He.ga K "turned_about") fd_turned_about := fun_of F_turned_about
    obtain ⟨fd_tied_places, F_tied_places⟩ := cd.def_ 4 (d := d_tied_places) rfl
    have b_tied_places : Binds K fd_tied_places ["web"] [] := F_tied_places.bindsN fun _ _ _ _ _ _ us hl => match us, hl with | [_], _ => rfl
    have g_tied_places : mg "tied_places" = some (.ref (He.ga K "tied_places")) := He.glo_ok X G (cd.fact 4 (f := .glo "tied_places") rfl)
    have U_tied_places : Fun K "tied_places" "tied_places" s_tied_places (He.ga K "tied_places") fd_tied_places := fun_of F_tied_places
    obtain ⟨fd_forced_by, F_forced_by⟩ := cd.def_ 5 (d := d_forced_by) rfl
    have b_forced_by : Binds K fd_forced_by ["near", "arrow"] [] := F_forced_by.bindsN fun _ _ _ _ _ _ us hl => match us, hl with | [_, _], _ => rfl
    have g_forced_by : mg "forced_by" = some (.ref (He.ga K "forced_by")) := He.glo_ok X G (cd.fact 5 (f := .glo "forced_by") rfl)
    have U_forced_by : Fun K "forced_by" "forced_by" s_forced_by (He.ga K "forced_by") fd_forced_by := fun_of F_forced_by
    obtain ⟨fd_forcings_of, F_forcings_of⟩ := cd.def_ 6 (d := d_forcings_of) rfl
    have b_forcings_of : Binds K fd_forcings_of ["web"] [] := F_forcings_of.bindsN fun _ _ _ _ _ _ us hl => match us, hl with | [_], _ => rfl
    have g_forcings_of : mg "forcings_of" = some (.ref (He.ga K "forcings_of")) := He.glo_ok X G (cd.fact 6 (f := .glo "forcings_of") rfl)
    have U_forcings_of : Fun K "forcings_of" "forcings_of" s_forcings_of (He.ga K "forcings_of") fd_forcings_of := fun_of F_forcings_of
    obtain ⟨fd_steps_from, F_steps_from⟩ := cd.def_ 7 (d := d_steps_from) rfl
    have b_steps_from : Binds K fd_steps_from ["forcings", "arrow"] [] := F_steps_from.bindsN fun _ _ _ _ _ _ us hl => match us, hl with | [_, _], _ => rfl
    have g_steps_from : mg "steps_from" = some (.ref (He.ga K "steps_from")) := He.glo_ok X G (cd.fact 7 (f := .glo "steps_from") rfl)
    have U_steps_from : Fun K "steps_from" "steps_from" s_steps_from (He.ga K "steps_from") fd_steps_from := fun_of F_steps_from
    obtain ⟨fd_classes_in, F_classes_in⟩ := cd.def_ 8 (d := d_classes_in) rfl
    have b_classes_in : Binds K fd_classes_in ["forcings"] [] := F_classes_in.bindsN fun _ _ _ _ _ _ us hl => match us, hl with | [_], _ => rfl
    have g_classes_in : mg "classes_in" = some (.ref (He.ga K "classes_in")) := He.glo_ok X G (cd.fact 8 (f := .glo "classes_in") rfl)
    have U_classes_in : Fun K "classes_in" "classes_in" s_classes_in (He.ga K "classes_in") fd_classes_in := fun_of F_classes_in
    obtain ⟨fd_way_in, F_way_in⟩ := cd.def_ 9 (d := d_way_in) rfl
    have b_way_in : Binds K fd_way_in ["forcings", "one", "other"] [] := F_way_in.bindsN fun _ _ _ _ _ _ us hl => match us, hl with | [_, _, _], _ => rfl
    have g_way_in : mg "way_in" = some (.ref (He.ga K "way_in")) := He.glo_ok X G (cd.fact 9 (f := .glo "way_in") rfl)
    have U_way_in : Fun K "way_in" "way_in" s_way_in (He.ga K "way_in") fd_way_in := fun_of F_way_in
    obtain ⟨fd_can_be_pointed, F_can_be_pointed⟩ := cd.def_ 10 (d := d_can_be_pointed) rfl
    have b_can_be_pointed : Binds K fd_can_be_pointed ["web"] [] := F_can_be_pointed.bindsN fun _ _ _ _ _ _ us hl => match us, hl with | [_], _ => rfl
    have g_can_be_pointed : mg "can_be_pointed" = some (.ref (He.ga K "can_be_pointed")) := He.glo_ok X G (cd.fact 10 (f := .glo "can_be_pointed") rfl)
    have U_can_be_pointed : Fun K "can_be_pointed" "can_be_pointed" s_can_be_pointed (He.ga K "can_be_pointed") fd_can_be_pointed := fun_of F_can_be_pointed
    obtain ⟨fd_first_round, F_first_round⟩ := cd.def_ 11 (d := d_first_round) rfl
    have b_first_round : Binds K fd_first_round ["forcings"] [] := F_first_round.bindsN fun _ _ _ _ _ _ us hl => match us, hl with | [_], _ => rfl
    have g_first_round : mg "first_round" = some (.ref (He.ga K "first_round")) := He.glo_ok X G (cd.fact 11 (f := .glo "first_round") rfl)
    have U_first_round : Fun K "first_round" "first_round" s_first_round (He.ga K "first_round") fd_first_round := fun_of F_first_round
    obtain ⟨fd_parts_of, F_parts_of⟩ := cd.def_ 12 (d := d_parts_of) rfl
    have b_parts_of : Binds K fd_parts_of ["web"] [] := F_parts_of.bindsN fun _ _ _ _ _ _ us hl => match us, hl with | [_], _ => rfl
    have g_parts_of : mg "parts_of" = some (.ref (He.ga K "parts_of")) := He.glo_ok X G (cd.fact 12 (f := .glo "parts_of") rfl)
    have U_parts_of : Fun K "parts_of" "parts_of" s_parts_of (He.ga K "parts_of") fd_parts_of := fun_of F_parts_of
    obtain ⟨fd_least_among, F_least_among⟩ := cd.def_ 13 (d := d_least_among) rfl
    have b_least_among : Binds K fd_least_among ["web", "everything", "places"] [] := F_least_among.bindsN fun _ _ _ _ _ _ us hl => match us, hl with | [_, _, _], _ => rfl
    have g_least_among : mg "least_among" = some (.ref (He.ga K "least_among")) := He.glo_ok X G (cd.fact 13 (f := .glo "least_among") rfl)
    have U_least_among : Fun K "least_among" "least_among" s_least_among (He.ga K "least_among") fd_least_among := fun_of F_least_among
    obtain ⟨fd_is_parting, F_is_parting⟩ := cd.def_ 14 (d := d_is_parting) rfl
    have b_is_parting : Binds K fd_is_parting ["web", "place", "places"] [] := F_is_parting.bindsN fun _ _ _ _ _ _ us hl => match us, hl with | [_, _, _], _ => rfl
    have g_is_parting : mg "is_parting" = some (.ref (He.ga K "is_parting")) := He.glo_ok X G (cd.fact 14 (f := .glo "is_parting") rfl)
    have U_is_parting : Fun K "is_parting" "is_parting" s_is_parting (He.ga K "is_parting") fd_is_parting := fun_of F_is_parting
    obtain ⟨fd_tree_of, F_tree_of⟩ := cd.def_ 15 (d := d_tree_of) rfl
    have b_tree_of : Binds K fd_tree_of ["web", "gaps", "places"] [] := F_tree_of.bindsN fun _ _ _ _ _ _ us hl => match us, hl with | [_, _, _], _ => rfl
    have g_tree_of : mg "tree_of" = some (.ref (He.ga K "tree_of")) := He.glo_ok X G (cd.fact 15 (f := .glo "tree_of") rfl)
    have U_tree_of : Fun K "tree_of" "tree_of" s_tree_of (He.ga K "tree_of") fd_tree_of := fun_of F_tree_of
    obtain ⟨fd_joined_sets, F_joined_sets⟩ := cd.def_ 16 (d := d_joined_sets) rfl
    have b_joined_sets : Binds K fd_joined_sets ["web", "places"] [] := F_joined_sets.bindsN fun _ _ _ _ _ _ us hl => match us, hl with | [_, _], _ => rfl
    have g_joined_sets : mg "joined_sets" = some (.ref (He.ga K "joined_sets")) := He.glo_ok X G (cd.fact 16 (f := .glo "joined_sets") rfl)
    have U_joined_sets : Fun K "joined_sets" "joined_sets" s_joined_sets (He.ga K "joined_sets") fd_joined_sets := fun_of F_joined_sets
    obtain ⟨fd_greatest_modules, F_greatest_modules⟩ := cd.def_ 17 (d := d_greatest_modules) rfl
    have b_greatest_modules : Binds K fd_greatest_modules ["web", "places"] [] := F_greatest_modules.bindsN fun _ _ _ _ _ _ us hl => match us, hl with | [_, _], _ => rfl
    have g_greatest_modules : mg "greatest_modules" = some (.ref (He.ga K "greatest_modules")) := He.glo_ok X G (cd.fact 17 (f := .glo "greatest_modules") rfl)
    have U_greatest_modules : Fun K "greatest_modules" "greatest_modules" s_greatest_modules (He.ga K "greatest_modules") fd_greatest_modules := fun_of F_greatest_modules
    obtain ⟨fd_count_ways, F_count_ways⟩ := cd.def_ 18 (d := d_count_ways) rfl
    have b_count_ways : Binds K fd_count_ways ["web"] [] := F_count_ways.bindsN fun _ _ _ _ _ _ us hl => match us, hl with | [_], _ => rfl
    have g_count_ways : mg "count_ways" = some (.ref (He.ga K "count_ways")) := He.glo_ok X G (cd.fact 18 (f := .glo "count_ways") rfl)
    have U_count_ways : Fun K "count_ways" "count_ways" s_count_ways (He.ga K "count_ways") fd_count_ways := fun_of F_count_ways
    obtain ⟨fd_count_within, F_count_within⟩ := cd.def_ 19 (d := d_count_within) rfl
    have b_count_within : Binds K fd_count_within ["tree"] [] := F_count_within.bindsN fun _ _ _ _ _ _ us hl => match us, hl with | [_], _ => rfl
    have g_count_within : mg "count_within" = some (.ref (He.ga K "count_within")) := He.glo_ok X G (cd.fact 19 (f := .glo "count_within") rfl)
    have U_count_within : Fun K "count_within" "count_within" s_count_within (He.ga K "count_within") fd_count_within := fun_of F_count_within
    obtain ⟨fd_count_between, F_count_between⟩ := cd.def_ 20 (d := d_count_between) rfl
    have b_count_between : Binds K fd_count_between ["kind", "size"] [] := F_count_between.bindsN fun _ _ _ _ _ _ us hl => match us, hl with | [_, _], _ => rfl
    have g_count_between : mg "count_between" = some (.ref (He.ga K "count_between")) := He.glo_ok X G (cd.fact 20 (f := .glo "count_between") rfl)
    have U_count_between : Fun K "count_between" "count_between" s_count_between (He.ga K "count_between") fd_count_between := fun_of F_count_between
    obtain ⟨fd__law_mix, F__law_mix⟩ := cd.def_ 21 (d := d__law_mix) rfl
    have b__law_mix : Binds K fd__law_mix ["_law_cell", "_law_k"] [] := F__law_mix.bindsN fun _ _ _ _ _ _ us hl => match us, hl with | [_, _], _ => rfl
    have g__law_mix : mg "_law_mix" = some (.ref (He.ga K "_law_mix")) := He.glo_ok X G (cd.fact 21 (f := .glo "_law_mix") rfl)
    have U__law_mix : Fun K "_law_mix" "_law_mix" s__law_mix (He.ga K "_law_mix") fd__law_mix := fun_of F__law_mix
    obtain ⟨fd__law_left, F__law_left⟩ := cd.def_ 22 (d := d__law_left) rfl
    have b__law_left : Binds K fd__law_left ["_law_script", "_law_k"] [] := F__law_left.bindsN fun _ _ _ _ _ _ us hl => match us, hl with | [_, _], _ => rfl
    have g__law_left : mg "_law_left" = some (.ref (He.ga K "_law_left")) := He.glo_ok X G (cd.fact 22 (f := .glo "_law_left") rfl)
    have U__law_left : Fun K "_law_left" "_law_left" s__law_left (He.ga K "_law_left") fd__law_left := fun_of F__law_left
    obtain ⟨fd__law_pick, F__law_pick⟩ := cd.def_ 23 (d := d__law_pick) rfl
    have b__law_pick : Binds K fd__law_pick ["_law_left_here", "_law_many"] [] := F__law_pick.bindsN fun _ _ _ _ _ _ us hl => match us, hl with | [_, _], _ => rfl
    have g__law_pick : mg "_law_pick" = some (.ref (He.ga K "_law_pick")) := He.glo_ok X G (cd.fact 23 (f := .glo "_law_pick") rfl)
    have U__law_pick : Fun K "_law_pick" "_law_pick" s__law_pick (He.ga K "_law_pick") fd__law_pick := fun_of F__law_pick
    obtain ⟨fd__law_folded, F__law_folded⟩ := cd.def_ 24 (d := d__law_folded) rfl
    have b__law_folded : Binds K fd__law_folded ["_law_script", "_law_many"] [] := F__law_folded.bindsN fun _ _ _ _ _ _ us hl => match us, hl with | [_, _], _ => rfl
    have g__law_folded : mg "_law_folded" = some (.ref (He.ga K "_law_folded")) := He.glo_ok X G (cd.fact 24 (f := .glo "_law_folded") rfl)
    have U__law_folded : Fun K "_law_folded" "_law_folded" s__law_folded (He.ga K "_law_folded") fd__law_folded := fun_of F__law_folded
    obtain ⟨fd__law_pairs, F__law_pairs⟩ := cd.def_ 25 (d := d__law_pairs) rfl
    have b__law_pairs : Binds K fd__law_pairs ["_law_many"] [] := F__law_pairs.bindsN fun _ _ _ _ _ _ us hl => match us, hl with | [_], _ => rfl
    have g__law_pairs : mg "_law_pairs" = some (.ref (He.ga K "_law_pairs")) := He.glo_ok X G (cd.fact 25 (f := .glo "_law_pairs") rfl)
    have U__law_pairs : Fun K "_law_pairs" "_law_pairs" s__law_pairs (He.ga K "_law_pairs") fd__law_pairs := fun_of F__law_pairs
    obtain ⟨fd__law_row, F__law_row⟩ := cd.def_ 26 (d := d__law_row) rfl
    have b__law_row : Binds K fd__law_row ["_law_left_here", "_law_many"] [] := F__law_row.bindsN fun _ _ _ _ _ _ us hl => match us, hl with | [_, _], _ => rfl
    have g__law_row : mg "_law_row" = some (.ref (He.ga K "_law_row")) := He.glo_ok X G (cd.fact 26 (f := .glo "_law_row") rfl)
    have U__law_row : Fun K "_law_row" "_law_row" s__law_row (He.ga K "_law_row") fd__law_row := fun_of F__law_row
    obtain ⟨fd__law_same, F__law_same⟩ := cd.def_ 27 (d := d__law_same) rfl
    have b__law_same : Binds K fd__law_same ["_law_found", "_law_due"] [] := F__law_same.bindsN fun _ _ _ _ _ _ us hl => match us, hl with | [_, _], _ => rfl
    have g__law_same : mg "_law_same" = some (.ref (He.ga K "_law_same")) := He.glo_ok X G (cd.fact 27 (f := .glo "_law_same") rfl)
    have U__law_same : Fun K "_law_same" "_law_same" s__law_same (He.ga K "_law_same") fd__law_same := fun_of F__law_same
    obtain ⟨fd__law_orders, F__law_orders⟩ := cd.def_ 28 (d := d__law_orders) rfl
    have b__law_orders : Binds K fd__law_orders ["_law_k"] [] := F__law_orders.bindsN fun _ _ _ _ _ _ us hl => match us, hl with | [_], _ => rfl
    have g__law_orders : mg "_law_orders" = some (.ref (He.ga K "_law_orders")) := He.glo_ok X G (cd.fact 28 (f := .glo "_law_orders") rfl)
    have U__law_orders : Fun K "_law_orders" "_law_orders" s__law_orders (He.ga K "_law_orders") fd__law_orders := fun_of F__law_orders
    obtain ⟨fd__law_piece, F__law_piece⟩ := cd.def_ 29 (d := d__law_piece) rfl
    have b__law_piece : Binds K fd__law_piece ["_law_left_here", "_law_many"] [] := F__law_piece.bindsN fun _ _ _ _ _ _ us hl => match us, hl with | [_, _], _ => rfl
    have g__law_piece : mg "_law_piece" = some (.ref (He.ga K "_law_piece")) := He.glo_ok X G (cd.fact 29 (f := .glo "_law_piece") rfl)
    have U__law_piece : Fun K "_law_piece" "_law_piece" s__law_piece (He.ga K "_law_piece") fd__law_piece := fun_of F__law_piece
    obtain ⟨fd__law_known, F__law_known⟩ := cd.def_ 30 (d := d__law_known) rfl
    have b__law_known : Binds K fd__law_known ["_law_left_here"] [] := F__law_known.bindsN fun _ _ _ _ _ _ us hl => match us, hl with | [_], _ => rfl
    have g__law_known : mg "_law_known" = some (.ref (He.ga K "_law_known")) := He.glo_ok X G (cd.fact 30 (f := .glo "_law_known") rfl)
    have U__law_known : Fun K "_law_known" "_law_known" s__law_known (He.ga K "_law_known") fd__law_known := fun_of F__law_known
    obtain ⟨fd_law, F_law⟩ := cd.def_ 31 (d := d_law) rfl
    have b_law : Binds K fd_law ["_law_script"] [] := F_law.bindsN fun _ _ _ _ _ _ us hl => match us, hl with | [_], _ => rfl
    have g_law : mg "law" = some (.ref (He.ga K "law")) := He.glo_ok X G (cd.fact 31 (f := .glo "law") rfl)
    have bA_law := FunD.bindsA (ps := ["_law_script"]) F_law fun _ _ _ _ _ _ us hl => match us, hl with | [_], _ => rfl
    have U_law : Fun K "law" "law" s_law (He.ga K "law") fd_law := fun_of F_law
    have B : Bts mg := ⟨He.free_ok X G (cd.fact 32 (f := .free "len") rfl), He.free_ok X G (cd.fact 33 (f := .free "range") rfl), He.free_ok X G (cd.fact 34 (f := .free "tuple") rfl), He.free_ok X G (cd.fact 35 (f := .free "list") rfl), He.free_ok X G (cd.fact 36 (f := .free "int") rfl), He.free_ok X G (cd.fact 37 (f := .free "abs") rfl), He.free_ok X G (cd.fact 38 (f := .free "min") rfl), He.free_ok X G (cd.fact 39 (f := .free "sorted") rfl), He.free_ok X G (cd.fact 40 (f := .free "set") rfl), He.free_ok X G (cd.fact 41 (f := .free "all") rfl), He.free_ok X G (cd.fact 42 (f := .free "any") rfl), He.free_ok X G (cd.fact 43 (f := .free "enumerate") rfl), He.free_ok X G (cd.fact 44 (f := .free "zip") rfl), He.free_ok X G (cd.fact 45 (f := .free "isinstance") rfl), He.free_ok X G (cd.fact 46 (f := .free "bool") rfl), He.free_ok X G (cd.fact 47 (f := .free "str") rfl), He.free_ok X G (cd.fact 48 (f := .free "dict") rfl), He.free_ok X G (cd.fact 49 (f := .free "max") rfl), He.free_ok X G (cd.fact 50 (f := .free "reversed") rfl), He.free_ok X G (cd.fact 51 (f := .free "sum") rfl)⟩
    have cmn := c.more

    have e := hfa.symm.trans g_law
    cases e
    refine ⟨fd_law, fun s v => bA_law s [v] rfl, fun base _ _ hT => ?_⟩
    have T_joined_sets : GxR.TabB base mg (He.cT K ("joined_sets", none)).1 (He.cT K ("joined_sets", none)).2 := (fun t => ⟨t.code, t.bm, t.gP⟩) (hT _ (List.mem_map.mpr ⟨("joined_sets", none), by simp [tfs], rfl⟩))
    have h_joined_sets : fd_joined_sets.code = .ref (He.cT K ("joined_sets", none)).1 := code_of U_joined_sets
    have k_same : Cl P w K mg base 5 "_law_same" (sp_same 5) := Cl.mk' U__law_same g__law_same b__law_same (ok_same B U__law_same g__law_same b__law_same 5)
    have k_mix : Cl P w K mg base 1 "_law_mix" sp_mix := Cl.mk' U__law_mix g__law_mix b__law_mix (ok_mix U__law_mix)
    have k_left : Cl P w K mg base 1 "_law_left" (sp_left K) := Cl.mk' U__law_left g__law_left b__law_left (ok_left B U__law_left)
    have k_pick : Cl P w K mg base 2 "_law_pick" sp_pick := Cl.mk' U__law_pick g__law_pick b__law_pick (ok_pick U__law_pick k_mix)
    have k_pairs : Cl P w K mg base 1 "_law_pairs" sp_pairs := Cl.mk' U__law_pairs g__law_pairs b__law_pairs (ok_pairs B U__law_pairs)
    have k_row : Cl P w K mg base 3 "_law_row" sp_row := Cl.mk' U__law_row g__law_row b__law_row (ok_row B U__law_row k_pick)
    have k_tp : Cl P w K mg base 1 "tied_places" sp_tplaces := Cl.mk' U_tied_places g_tied_places b_tied_places (ok_tplaces B U_tied_places)
    have k_fby : Cl P w K mg base 1 "forced_by" sp_fby := Cl.mk' U_forced_by g_forced_by b_forced_by (ok_fby B U_forced_by)
    have k_turned : Cl P w K mg base 1 "turned_about" sp_turned := Cl.mk' U_turned_about g_turned_about b_turned_about (ok_turned B U_turned_about)
    have k_fof : Cl P w K mg base 2 "forcings_of" sp_fof := Cl.mk' U_forcings_of g_forcings_of b_forcings_of (ok_fof B U_forcings_of k_tp k_fby k_turned)
    have k_steps : Cl P w K mg base 1 "steps_from" sp_steps := Cl.mk' U_steps_from g_steps_from b_steps_from (ok_steps B U_steps_from)
    have k_tie_of : Cl P w K mg base 1 "tie_of" sp_tie_of := Cl.mk' U_tie_of g_tie_of b_tie_of (ok_tie_of B U_tie_of)
    have k_cin : Cl P w K mg base 2 "classes_in" sp_cin := Cl.mk' U_classes_in g_classes_in b_classes_in (ok_cin B U_classes_in k_steps)
    have k_wayin : Cl P w K mg base 2 "way_in" sp_wayin := Cl.mk' U_way_in g_way_in b_way_in (ok_wayin B U_way_in k_steps)
    have k_fround : Cl P w K mg base 3 "first_round" sp_fround := Cl.mk' U_first_round g_first_round b_first_round (ok_fround B U_first_round k_cin k_wayin)
    have k_gaps : Cl P w K mg base 1 "gaps_of" sp_gaps := Cl.mk' U_gaps_of g_gaps_of b_gaps_of (ok_gaps B U_gaps_of)
    have k_canpt : Cl P w K mg base 4 "can_be_pointed" sp_canpt := Cl.mk' U_can_be_pointed g_can_be_pointed b_can_be_pointed (ok_canpt B U_can_be_pointed k_fof k_fround)
    have k_tied : Cl P w K mg base 2 "tied" sp_tied := Cl.mk' U_tied g_tied b_tied (ok_tied B U_tied k_tie_of)
    have k_folded : Cl P w K mg base 1 "_law_folded" (sp_folded K) := Cl.mk' U__law_folded g__law_folded b__law_folded (ok_folded B U__law_folded)
    have k_parting : Cl P w K mg base 3 "is_parting" sp_parting := Cl.mk' U_is_parting g_is_parting b_is_parting (ok_parting B U_is_parting k_tied)
    have k_among : Cl P w K mg base 4 "least_among" sp_among := Cl.mk' U_least_among g_least_among b_least_among (ok_among B U_least_among k_parting)
    have k_amongI : Cl P w K mg base 4 "least_among" sp_amongI := Cl.mk' U_least_among g_least_among b_least_among (ok_amongI B U_least_among k_parting)
    have k_joined : Cl P w K mg base 4 "joined_sets" (sp_joined (He.cT K ("joined_sets", none)).2) := Cl.mk' U_joined_sets g_joined_sets b_joined_sets (ok_joined B U_joined_sets h_joined_sets T_joined_sets k_tied)
    have k_gm : Cl P w K mg base 5 "greatest_modules" sp_gm := Cl.mk' U_greatest_modules g_greatest_modules b_greatest_modules (ok_gm B U_greatest_modules k_amongI)
    have k_tree : Cl P w K mg base 19 "tree_of" (sp_tree (He.cT K ("joined_sets", none)).2 13) := Cl.mk' U_tree_of g_tree_of b_tree_of (ok_tree B U_tree_of g_tree_of b_tree_of k_joined k_gm 13)
    have k_parts : Cl P w K mg base 20 "parts_of" (sp_parts (He.cT K ("joined_sets", none)).2) := Cl.mk' U_parts_of g_parts_of b_parts_of (ok_parts B U_parts_of k_tree k_gaps)
    have k_cbetween : Cl P w K mg base 1 "count_between" sp_cbetween := Cl.mk' U_count_between g_count_between b_count_between (ok_cbetween B U_count_between)
    have k_cwithin : Cl P w K mg base 13 "count_within" (sp_cwithin 12) := Cl.mk' U_count_within g_count_within b_count_within (ok_cwithin B U_count_within g_count_within b_count_within k_cbetween 12)
    have k_count : Cl P w K mg base 21 "count_ways" (sp_count (He.cT K ("joined_sets", none)).2) := Cl.mk' U_count_ways g_count_ways b_count_ways (ok_count B U_count_ways k_canpt k_parts k_cwithin)
    have k_ords : Cl P w K mg base 1 "_law_orders" sp_ords := Cl.mk' U__law_orders g__law_orders b__law_orders (ok_ords B U__law_orders)
    have k_piece29 : Cl P w K mg base 3 "_law_piece" sp_piece29 := Cl.mk' U__law_piece g__law_piece b__law_piece (ok_piece29 B U__law_piece k_pick k_pairs k_ords)
    have k_known29 : Cl P w K mg base 4 "_law_known" sp_known29 := Cl.mk' U__law_known g__law_known b__law_known (ok_known29 B U__law_known k_pick k_piece29 k_ords k_row)
    exact ok_law B U_law k_left k_folded k_known29 k_count k_same

end My
open PySem PySem.W PySem.Calls PyProof.Rows
set_option maxHeartbeats 0 in
theorem PySem.Challenge.cw_pointedties_k29_ways_of_known_webs_holds : PySem.Challenge.rw_pointedties_k29_ways_of_known_webs.Holds := by
  w_on; o_law
  refine HandSHeadRun.head_any (r := My.Rw) (q := view My.Rw.prog [38]) (H := My.hk) (ob := My.ob) (M := 4000) (loose := My.others) (d := HandSHeadRun.topDef My.Rw.prog 38) (kwd := []) My.ob_eq
    (by kernel_rfl) (fun s => by kernel_rfl) My.run (by kernel_rfl) (by kernel_rfl) (by kernel_rfl) (by rfl) (by first | assumption | decide +kernel) (by decide +kernel) ⟨rfl, rfl, rfl, rfl, rfl, by decide +kernel⟩ ?hw ?hc
  case hw => w_witness2
  case hc =>
    refine My.walk_top (l := PySem.Challenge.rw_pointedties_k29_ways_of_known_webs) (n := 63) (y := "_law_script") rfl (by decide) (by kernel_rfl) ?F
    intro w mg fa h Y G hmg0
    obtain ⟨K, KX, c⟩ := Y
    have hmg : mg ("law" : PySem.Str) = some (.ref fa) := by
      have e : (HandSHeadRun.topDef My.Rw.prog 38).name = ("law" : PySem.Str) := by kernel_rfl
      rw [← e]; exact hmg0
    obtain ⟨fd, hb, hF⟩ := My.law_ok (P := (PySem.Challenge.rw_pointedties_k29_ways_of_known_webs).prog) (w := w) KX G hmg c
    have inT : ∀ p ∈ My.tfs.map (He.cT K), ∃ q ∈ My.tfs, p = He.cT K q := fun p hp => by
      obtain ⟨q, hq, e⟩ := List.mem_map.mp hp
      exact ⟨q, hq, e.symm⟩
    refine ⟨K, KX, fd, My.tfs.map (He.cT K), _, fun p hp => ?_, fun p hp => ?_, fun p hp => ?_, hb, fun H a ns hl _ hT hS => ?_, hF⟩
    · obtain ⟨q, hq, rfl⟩ := inT p hp; exact c.empty q hq
    · obtain ⟨q, hq, rfl⟩ := inT p hp; exact c.out q hq
    · obtain ⟨q, hq, rfl⟩ := inT p hp; exact PySem.W.codeHd_of_K KX (c.hd q hq)
    · exact ⟨a, ns, rfl, hS, hl, ⟨_, hT _ (List.mem_map.mpr ⟨_, by simp [My.tfs], rfl⟩), True.intro⟩, fun _ => rfl⟩
