import PyProof.Rows.All
import Wide.All
import OpenK.AllK
import Wide.FinOn
import HandS.Base
import HandS.Call
import HandS.List
import HandS.Comp
import HandS.Iter
import HandS.Ends
import HandS.Words
import HandS.WordsList
import HandS.Wide
import HandS.ForMost
import HandS.IsInst
import HandS.RevRange
import HandS.Style
import HandS.Strs
import HandS.SetBool
import HandS.SetFor
import HandS.Zip
import HandS.WideBits
import HandS.Rev
import HandS.SortInts
import HandS.Exc
import HandS.ExcOwn
import HandS.ExcIs
import HandS.HotCalls
import HandS.CallLocal
import HandS.WordsExc
import HandS.TryOnly
import HandS.Dict
import HandS.StrMore
import PyProof.StrOps2
import HandS.Conv
import PySem.Challenge.RW_towerstair_k07_refused
set_option Elab.async false
set_option linter.all false
set_option maxRecDepth 100000
set_option maxHeartbeats 4000000
namespace TS
open PySem PySem.Spec PyProof.Rows L2
/-! small rules: an item read for an augmented store; a def with what its callers need -/
theorem get_list {X : Cx} : PGet X (rIxL X.K) := by
  intro pins s σ H o i ov iv Q I rx ry h
  obtain ⟨p, xs, k, z, rfl, rfl, hq, he, q⟩ := h
  cases rx
  obtain ⟨t, rfl⟩ := ry
  obtain ⟨its, vr, pl, _⟩ := I.list hq
  obtain ⟨j, at1, at2, _, lo, hi⟩ := atI_get he
  obtain ⟨wv, ew, rel⟩ := vr.get at2
  have hl := vr.length
  have hn := line63
  have done : EP X pins σ Q wv s := ⟨z, H, I, rel, q⟩
  by_cases h0 : 0 ≤ k
  · have hj : k.toNat = j := by
      rw [seqIndex_of h0 hi] at at1
      exact Option.some.inj at1
    exact wpAny_getItem_list pl.isList h0 (by omega) (by rw [hj]; simpa using ew) done
  · have hj : (k + (its.toArray.size : Int)).toNat = j := by
      rw [seqIndex_neg (by omega) lo] at at1
      rw [List.size_toArray, ← hl]
      exact Option.some.inj at1
    exact wpAny_getItem_list_neg pl.isList (by omega) (by rw [List.size_toArray] <;> omega) (by omega) (by rw [hj]; simpa using ew) done
structure Df (P : Program) (w : World) (K : PySem.W.Frag) (mg : Str → Option Value) (base : Heap) (x : Str) (k : Nat) (ps : List Str) (sp : Sp) (f : Addr) (fd : FuncData) : Prop where
  ok : FnOk P w K mg base CX0 k f fd ps sp
  g : mg x = some (.ref f)
  kp : PySem.W.keepIn K (.ref f) = true
  b : Binds K fd ps []
/-! heaps -/
theorem same_upd {H : Hp} {p : Addr} {o : HO} (h : H p = none) : Same H (upd H p o) := fun b x e => by
  rw [upd_ne (ne_of_none e h)]
  exact e
theorem same_mut {H H' : Hp} {p : Addr} {o : HO} (e : Same H H') (h : H p = none) : Same H (upd H' p o) := fun b x q => by
  rw [upd_ne (ne_of_none q h)]
  exact e b x q
theorem upd_id {H : Hp} {p : Addr} {o : HO} (h : H p = some o) : upd H p o = H := by
  funext b
  unfold upd
  split
  · next e => rw [e, h]
  · rfl
/-- a list of ints at a -/
abbrev IL (K : PySem.W.Frag) (H : Hp) (a : Addr) (ns : List Int) : Prop := SqL K H a (ns.map V.int)
theorem il_of {K : PySem.W.Frag} {H : Hp} {a : Addr} {ns : List Int} (h : H a = some (.lst (ns.map V.int))) : IL K H a ns := .inl (.inl h)
theorem mapI_get {ns : List Int} {i : Nat} {x : V} (h : (ns.map V.int)[i]? = some x) : ∃ n, x = .int n ∧ ns[i]? = some n := by
  rw [List.getElem?_map] at h
  cases e : ns[i]? with
  | none => rw [e] at h; cases h
  | some n => rw [e] at h; exact ⟨n, (Option.some.inj h).symm, rfl⟩
theorem mapI_at {ns : List Int} {i : Nat} {n : Int} (h : ns[i]? = some n) : (ns.map V.int)[i]? = some (.int n) := by
  rw [List.getElem?_map, h]
  rfl
theorem getD_at {ns : List Int} {i : Nat} (h : i < ns.length) : ns[i]? = some (ns.getD i 0) := by
  rw [List.getElem?_eq_getElem h, List.getD_eq_getElem?_getD, List.getElem?_eq_getElem h]
  rfl
theorem sz63 {n : Nat} (h : n ≤ 100000) : n ≤ sizeLine := Nat.le_trans h (by decide)
theorem sz63' {n : Nat} (h : n < 100000) : n < sizeLine := Nat.lt_of_lt_of_le h (by decide)
/-! comparing lists of ints -/
def dI (ns : List Int) : PyData := .list (ns.map PyData.int)
theorem dpAll_ints {K : PySem.W.Frag} {H : Hp} : ∀ ns : List Int, DpAll K H (ns.map V.int) (ns.map PyData.int)
  | [] => .nil
  | n :: r => .cons (.int n) (dpAll_ints r)
theorem dp_il {K : PySem.W.Frag} {H : Hp} {a : Addr} {ns : List Int} (h : IL K H a ns) : Dp K H (.ref a) (dI ns) := .lst h (dpAll_ints ns)
theorem can_ints : ∀ ns : List Int, PyData.canLayAll0 (ns.map PyData.int) = true
  | [] => rfl
  | n :: r => by
    show (PyData.canLay0 (.int n) && PyData.canLayAll0 (r.map PyData.int)) = true
    rw [can_ints r]
    rfl
theorem depth_ints : ∀ ns : List Int, PyData.depthAll (ns.map PyData.int) = 0
  | [] => rfl
  | n :: r => by
    show max 0 (PyData.depthAll (r.map PyData.int)) = 0
    rw [depth_ints r]
    rfl
theorem shaped_ints (ns : List Int) : SeqAt.shaped (dI ns) = true := by
  show (PyData.canLayAll0 (ns.map PyData.int) && decide (PyData.depthAll (ns.map PyData.int) + 1 ≤ 64)) = true
  rw [can_ints, depth_ints]
  rfl
theorem eqvAll_ints : ∀ ns ms : List Int, PyData.eqvAll (ns.map PyData.int) (ms.map PyData.int) = decide (ns = ms)
  | [], [] => by simp [PyData.eqvAll]
  | [], m :: s => by simp [PyData.eqvAll]
  | n :: r, [] => by simp [PyData.eqvAll]
  | n :: r, m :: s => by
    simp only [List.map_cons, PyData.eqvAll, PyData.eqv]
    rw [eqvAll_ints r s]
    by_cases h : n = m
    · by_cases k : r = s <;> simp [h, k]
    · simp [h]
theorem eqv_ints (ns ms : List Int) : PyData.eqv (dI ns) (dI ms) = decide (ns = ms) := by
  unfold dI
  rw [PyData.eqv]
  exact eqvAll_ints ns ms
end TS
namespace TS
open PySem PySem.Spec PyProof.Rows L2
/-! the text by places -/
def topS (i : Nat) : Stmt := PySem.Challenge.pw_towerstair_k07_refused.main.body.getD i (.Pass ⟨0, 0, 0, 0⟩)
abbrev s_is_count : Stmt := topS 9
abbrev N_is_count : List Str := ["value"]
theorem sc_is_count : FnScope N_is_count ["value"] (defScope s_is_count) := ⟨rfl, rfl, rfl, by decide +kernel, rfl, by decide +kernel, by decide +kernel⟩
abbrev s_is_stairs : Stmt := topS 10
abbrev N_is_stairs : List Str := ["stairs", "least", "height"]
theorem sc_is_stairs : FnScope N_is_stairs ["stairs"] (defScope s_is_stairs) := ⟨rfl, rfl, rfl, by decide +kernel, rfl, by decide +kernel, by decide +kernel⟩
abbrev s_check_stairs : Stmt := topS 11
abbrev N_check_stairs : List Str := ["stairs"]
theorem sc_check_stairs : FnScope N_check_stairs ["stairs"] (defScope s_check_stairs) := ⟨rfl, rfl, rfl, by decide +kernel, rfl, by decide +kernel, by decide +kernel⟩
abbrev s_is_cell : Stmt := topS 12
abbrev N_is_cell : List Str := ["stairs", "cell", "column", "row"]
theorem sc_is_cell : FnScope N_is_cell ["stairs", "cell"] (defScope s_is_cell) := ⟨rfl, rfl, rfl, by decide +kernel, rfl, by decide +kernel, by decide +kernel⟩
abbrev s_are_towers : Stmt := topS 13
abbrev N_are_towers : List Str := ["stairs", "towers", "least", "cell"]
theorem sc_are_towers : FnScope N_are_towers ["stairs", "towers"] (defScope s_are_towers) := ⟨rfl, rfl, rfl, by decide +kernel, rfl, by decide +kernel, by decide +kernel⟩
abbrev s_counts : Stmt := topS 15
abbrev N_counts : List Str := ["stairs"]
theorem sc_counts : FnScope N_counts ["stairs"] (defScope s_counts) := ⟨rfl, rfl, rfl, by decide +kernel, rfl, by decide +kernel, by decide +kernel⟩
abbrev s_filled : Stmt := topS 16
abbrev N_filled : List Str := ["stairs", "more", "ways", "column", "height"]
theorem sc_filled : FnScope N_filled ["stairs", "more"] (defScope s_filled) := ⟨rfl, rfl, rfl, by decide +kernel, rfl, by decide +kernel, by decide +kernel⟩
abbrev s_ways_up_to : Stmt := topS 17
abbrev N_ways_up_to : List Str := ["stairs", "most", "ways", "height"]
theorem sc_ways_up_to : FnScope N_ways_up_to ["stairs", "most"] (defScope s_ways_up_to) := ⟨rfl, rfl, rfl, by decide +kernel, rfl, by decide +kernel, by decide +kernel⟩
abbrev s_ways_without_columns : Stmt := topS 18
abbrev N_ways_without_columns : List Str := ["most"]
theorem sc_ways_without_columns : FnScope N_ways_without_columns ["most"] (defScope s_ways_without_columns) := ⟨rfl, rfl, rfl, by decide +kernel, rfl, by decide +kernel, by decide +kernel⟩
abbrev s_add_column : Stmt := topS 19
abbrev N_add_column : List Str := ["ways", "height", "many"]
theorem sc_add_column : FnScope N_add_column ["ways", "height"] (defScope s_add_column) := ⟨rfl, rfl, rfl, by decide +kernel, rfl, by decide +kernel, by decide +kernel⟩
abbrev s_take_column : Stmt := topS 20
abbrev N_take_column : List Str := ["ways", "height", "many"]
theorem sc_take_column : FnScope N_take_column ["ways", "height"] (defScope s_take_column) := ⟨rfl, rfl, rfl, by decide +kernel, rfl, by decide +kernel, by decide +kernel⟩
abbrev s_way_of : Stmt := topS 22
abbrev N_way_of : List Str := ["stairs", "many", "number", "ways"]
theorem sc_way_of : FnScope N_way_of ["stairs", "many", "number"] (defScope s_way_of) := ⟨rfl, rfl, rfl, by decide +kernel, rfl, by decide +kernel, by decide +kernel⟩
abbrev s_number_of : Stmt := topS 23
abbrev N_number_of : List Str := ["stairs", "towers", "rows", "ways", "taken", "number", "column", "height", "many", "free"]
theorem sc_number_of : FnScope N_number_of ["stairs", "towers"] (defScope s_number_of) := ⟨rfl, rfl, rfl, by decide +kernel, rfl, by decide +kernel, by decide +kernel⟩
abbrev s__choices : Stmt := topS 24
abbrev N__choices : List Str := ["stairs", "ways", "number", "left", "choices", "column", "height", "free"]
theorem sc__choices : FnScope N__choices ["stairs", "ways", "number"] (defScope s__choices) := ⟨rfl, rfl, rfl, by decide +kernel, rfl, by decide +kernel, by decide +kernel⟩
abbrev s__with_rows : Stmt := topS 25
abbrev N__with_rows : List Str := ["choices", "towers", "taken", "column", "free", "row"]
theorem sc__with_rows : FnScope N__with_rows ["choices"] (defScope s__with_rows) := ⟨rfl, rfl, rfl, by decide +kernel, rfl, by decide +kernel, by decide +kernel⟩
abbrev s__row_above : Stmt := topS 26
abbrev N__row_above : List Str := ["taken", "free", "row", "other"]
theorem sc__row_above : FnScope N__row_above ["taken", "free"] (defScope s__row_above) := ⟨rfl, rfl, rfl, by decide +kernel, rfl, by decide +kernel, by decide +kernel⟩
abbrev s__free_below : Stmt := topS 27
abbrev N__free_below : List Str := ["taken", "row", "other"]
theorem sc__free_below : FnScope N__free_below ["taken", "row"] (defScope s__free_below) := ⟨rfl, rfl, rfl, by decide +kernel, rfl, by decide +kernel, by decide +kernel⟩
abbrev s_least_unlike : Stmt := topS 29
abbrev N_least_unlike : List Str := ["one", "other", "columns", "times", "factor", "terms", "many"]
theorem sc_least_unlike : FnScope N_least_unlike ["one", "other"] (defScope s_least_unlike) := ⟨rfl, rfl, rfl, by decide +kernel, rfl, by decide +kernel, by decide +kernel⟩
abbrev s__factors : Stmt := topS 30
abbrev N__factors : List Str := ["stairs", "columns", "heights", "column", "height"]
theorem sc__factors : FnScope N__factors ["stairs", "columns"] (defScope s__factors) := ⟨rfl, rfl, rfl, by decide +kernel, rfl, by decide +kernel, by decide +kernel⟩
abbrev s__least_power : Stmt := topS 31
abbrev N__least_power : List Str := ["terms", "exponent", "total", "factor", "term", "_"]
theorem sc__least_power : FnScope N__least_power ["terms"] (defScope s__least_power) := ⟨rfl, rfl, rfl, by decide +kernel, rfl, by decide +kernel, by decide +kernel⟩
abbrev s_fullest : Stmt := topS 38
abbrev N_fullest : List Str := ["stairs", "towers", "rows", "column", "height"]
theorem sc_fullest : FnScope N_fullest ["stairs"] (defScope s_fullest) := ⟨rfl, rfl, rfl, by decide +kernel, rfl, by decide +kernel, by decide +kernel⟩
abbrev s_alike : Stmt := topS 39
abbrev N_alike : List Str := ["one", "other", "many"]
theorem sc_alike : FnScope N_alike ["one", "other"] (defScope s_alike) := ⟨rfl, rfl, rfl, by decide +kernel, rfl, by decide +kernel, by decide +kernel⟩
abbrev s_plain : Stmt := topS 40
abbrev N_plain : List Str := ["stairs", "towers", "without", "factors", "column", "_", "factor"]
theorem sc_plain : FnScope N_plain ["stairs"] (defScope s_plain) := ⟨rfl, rfl, rfl, by decide +kernel, rfl, by decide +kernel, by decide +kernel⟩
abbrev s_written : Stmt := topS 44
abbrev N_written : List Str := ["stairs", "height"]
theorem sc_written : FnScope N_written ["stairs"] (defScope s_written) := ⟨rfl, rfl, rfl, by decide +kernel, rfl, by decide +kernel, by decide +kernel⟩
abbrev s_l_cell_at : Stmt := topS 46
abbrev N_l_cell_at : List Str := ["_law_script", "_law_k"]
theorem sc_l_cell_at : FnScope N_l_cell_at ["_law_script", "_law_k"] (defScope s_l_cell_at) := ⟨rfl, rfl, rfl, by decide +kernel, rfl, by decide +kernel, by decide +kernel⟩
abbrev s_l_draw : Stmt := topS 47
abbrev N_l_draw : List Str := ["_law_cell", "_law_k", "_law_many", "_law_primes"]
theorem sc_l_draw : FnScope N_l_draw ["_law_cell", "_law_k", "_law_many"] (defScope s_l_draw) := ⟨rfl, rfl, rfl, by decide +kernel, rfl, by decide +kernel, by decide +kernel⟩
abbrev s_l_stairs : Stmt := topS 48
abbrev N_l_stairs : List Str := ["_law_script", "_law_kind", "_law_many", "_law_most", "_law_found", "_law_cell", "_law_k", "_law_height"]
theorem sc_l_stairs : FnScope N_l_stairs ["_law_script"] (defScope s_l_stairs) := ⟨rfl, rfl, rfl, by decide +kernel, rfl, by decide +kernel, by decide +kernel⟩
abbrev s_l_kinds : Stmt := topS 53
abbrev N_l_kinds : List Str := ["_law_error", "_law_found"]
theorem sc_l_kinds : FnScope N_l_kinds ["_law_error"] (defScope s_l_kinds) := ⟨rfl, rfl, rfl, by decide +kernel, rfl, by decide +kernel, by decide +kernel⟩
abbrev s_l_with_stairs : Stmt := topS 54
abbrev N_l_with_stairs : List Str := ["_law_door", "_law_stairs_here"]
theorem sc_l_with_stairs : FnScope N_l_with_stairs ["_law_door", "_law_stairs_here"] (defScope s_l_with_stairs) := ⟨rfl, rfl, rfl, by decide +kernel, rfl, by decide +kernel, by decide +kernel⟩
abbrev s_l_with_count : Stmt := topS 55
abbrev N_l_with_count : List Str := ["_law_door", "_law_number"]
theorem sc_l_with_count : FnScope N_l_with_count ["_law_door", "_law_number"] (defScope s_l_with_count) := ⟨rfl, rfl, rfl, by decide +kernel, rfl, by decide +kernel, by decide +kernel⟩
abbrev s_l_with_number : Stmt := topS 56
abbrev N_l_with_number : List Str := ["_law_stairs_here", "_law_number"]
theorem sc_l_with_number : FnScope N_l_with_number ["_law_stairs_here", "_law_number"] (defScope s_l_with_number) := ⟨rfl, rfl, rfl, by decide +kernel, rfl, by decide +kernel, by decide +kernel⟩
abbrev s_l_with_first : Stmt := topS 57
abbrev N_l_with_first : List Str := ["_law_stairs_here", "_law_number"]
theorem sc_l_with_first : FnScope N_l_with_first ["_law_stairs_here", "_law_number"] (defScope s_l_with_first) := ⟨rfl, rfl, rfl, by decide +kernel, rfl, by decide +kernel, by decide +kernel⟩
abbrev s_l_told : Stmt := topS 58
abbrev N_l_told : List Str := ["_law_ask", "_law_one", "_law_other", "_law_error"]
theorem sc_l_told : FnScope N_l_told ["_law_ask", "_law_one", "_law_other"] (defScope s_l_told) := ⟨rfl, rfl, rfl, by decide +kernel, rfl, by decide +kernel, by decide +kernel⟩
abbrev s_l_all : Stmt := topS 59
abbrev N_l_all : List Str := ["_law_ask", "_law_doors", "_law_things", "_law_due", "_law_door", "_law_thing"]
theorem sc_l_all : FnScope N_l_all ["_law_ask", "_law_doors", "_law_things", "_law_due"] (defScope s_l_all) := ⟨rfl, rfl, rfl, by decide +kernel, rfl, by decide +kernel, by decide +kernel⟩
abbrev s_l_towers_right : Stmt := topS 60
abbrev N_l_towers_right : List Str := ["_law_stairs_here", "_law_due", "_law_far_here", "_law_bad", "_law_column", "_law_high", "_law_wrong", "_law_thing", "_law_height"]
theorem sc_l_towers_right : FnScope N_l_towers_right ["_law_stairs_here", "_law_due", "_law_far_here"] (defScope s_l_towers_right) := ⟨rfl, rfl, rfl, by decide +kernel, rfl, by decide +kernel, by decide +kernel⟩
abbrev s_law : Stmt := topS 61
abbrev N_law : List Str := ["_law_script", "_law_far_here", "_law_due", "_law_k", "_law_stairs_here", "_law_kept", "_law_size", "_law_bad", "_law_at", "_law_great", "_law_strange"]
theorem sc_law : FnScope N_law ["_law_script"] (defScope s_law) := ⟨rfl, rfl, rfl, by decide +kernel, rfl, by decide +kernel, by decide +kernel⟩
end TS

namespace TS
open PySem PySem.Spec PyProof.Rows L2
structure Bl (mg : Str → Option Value) : Prop where
  len : mg "len" = none
  isinstance : mg "isinstance" = none
  sorted : mg "sorted" = none
  range : mg "range" = none
  enumerate : mg "enumerate" = none
  reversed : mg "reversed" = none
  min : mg "min" = none
  all : mg "all" = none
  list : mg "list" = none
  int : mg "int" = none
  bool : mg "bool" = none
  tuple : mg "tuple" = none
  dict : mg "dict" = none
  set : mg "set" = none
  divmod : mg "divmod" = none
  sum : mg "sum" = none
  str : mg "str" = none
  valueError : mg "ValueError" = none
end TS
namespace TS
/-! the counts of stairs as a function of the count of towers -/
def stp (f : Nat → Int) (h : Int) : Nat → Int
  | 0 => f 0
  | m + 1 => if (m : Int) < h then f (m + 1) + f m * (h - m) else f (m + 1)
theorem stp_succ (f : Nat → Int) (h : Int) (m : Nat) : stp f h (m + 1) = if (m : Int) < h then f (m + 1) + f m * (h - m) else f (m + 1) := rfl
def f0 : Nat → Int := fun k => if k = 0 then 1 else 0
def cntF (hs : List Int) : Nat → Int := hs.foldl stp f0
theorem cntF_nil : cntF [] = f0 := rfl
theorem cntF_snoc (hs : List Int) (h : Int) : cntF (hs ++ [h]) = stp (cntF hs) h := by
  unfold cntF
  rw [List.foldl_append]
  rfl
theorem cntF_take {hs : List Int} {c : Nat} {h : Int} (e : hs[c]? = some h) : cntF (hs.take (c + 1)) = stp (cntF (hs.take c)) h := by
  rw [List.take_add_one, e]
  exact cntF_snoc _ _
theorem snoc_ind {P : List Int → Prop} (h0 : P []) (h1 : ∀ xs x, P xs → P (xs ++ [x])) (xs : List Int) : P xs := by
  have h : ∀ (n : Nat) (ys : List Int), ys.length = n → P ys := by
    intro n
    induction n with
    | zero => intro ys e; rw [List.length_eq_zero_iff.mp e]; exact h0
    | succ n ih =>
      intro ys e
      have hne : ys ≠ [] := by intro z; rw [z] at e; cases e
      rw [← List.dropLast_concat_getLast hne]
      refine h1 _ _ (ih _ ?_)
      rw [List.length_dropLast, e]
      rfl
  exact h _ xs rfl
theorem cntF_gt : ∀ (hs : List Int) (k : Nat), hs.length < k → cntF hs k = 0 := by
  intro hs
  induction hs using snoc_ind with
  | h0 => intro k hk; rw [cntF_nil]; unfold f0; rw [if_neg (by rw [List.length_nil] at hk; omega)]
  | h1 xs x ih =>
    intro k hk
    rw [List.length_append, List.length_singleton] at hk
    obtain ⟨m, rfl⟩ : ∃ m, k = m + 1 := ⟨k - 1, by omega⟩
    rw [cntF_snoc]
    rw [stp_succ]
    rw [ih (m + 1) (by omega), ih m (by omega)]
    split <;> omega
theorem cntF_zero : ∀ (hs : List Int), cntF hs 0 = 1 := by
  intro hs
  induction hs using snoc_ind with
  | h0 => rfl
  | h1 xs x ih => rw [cntF_snoc]; exact ih
theorem cntF_low (j : Nat) : ∀ (hs : List Int), (∀ x ∈ hs, x ≤ (j : Int)) → cntF hs (j + 1) = 0 := by
  intro hs
  induction hs using snoc_ind with
  | h0 => intro _; rfl
  | h1 xs x ih =>
    intro h
    rw [cntF_snoc]
    rw [stp_succ]
    have hx : x ≤ (j : Int) := h x (by simp)
    rw [if_neg (by omega)]
    exact ih fun y hy => h y (by simp [hy])
theorem cntF_step {hs : List Int} {h : Int} (h0 : 0 ≤ h) (hle : ∀ x ∈ hs, x ≤ h) (m : Nat) : cntF (hs ++ [h]) (m + 1) = cntF hs (m + 1) + cntF hs m * (h - m) := by
  rw [cntF_snoc, stp_succ]
  by_cases c : (m : Int) < h
  · rw [if_pos c]
  · rw [if_neg c]
    by_cases e : (m : Int) = h
    · rw [e, Int.sub_self, Int.mul_zero, Int.add_zero]
    · obtain ⟨j, rfl⟩ : ∃ j, m = j + 1 := ⟨m - 1, by omega⟩
      have z : cntF hs (j + 1) = 0 := cntF_low j hs fun x hx => by have := hle x hx; omega
      rw [z, Int.zero_mul, Int.add_zero]
/-! sums -/
def sm (g : Nat → Int) : Nat → Int
  | 0 => 0
  | n + 1 => sm g n + g n
theorem sm_congr {g g' : Nat → Int} : ∀ {n : Nat}, (∀ k, k < n → g k = g' k) → sm g n = sm g' n
  | 0, _ => rfl
  | n + 1, h => by
    show sm g n + g n = sm g' n + g' n
    rw [sm_congr (n := n) fun k hk => h k (by omega), h n (by omega)]
theorem sm_add (g g' : Nat → Int) : ∀ n : Nat, sm (fun k => g k + g' k) n = sm g n + sm g' n
  | 0 => rfl
  | n + 1 => by
    show sm (fun k => g k + g' k) n + (g n + g' n) = (sm g n + g n) + (sm g' n + g' n)
    rw [sm_add g g' n]
    omega
theorem sm_mul (g : Nat → Int) (c : Int) : ∀ n : Nat, sm (fun k => g k * c) n = sm g n * c
  | 0 => by simp [sm]
  | n + 1 => by
    show sm (fun k => g k * c) n + g n * c = (sm g n + g n) * c
    rw [sm_mul g c n, Int.add_mul]
theorem sm_shift (g : Nat → Int) : ∀ n : Nat, sm g (n + 1) = g 0 + sm (fun k => g (k + 1)) n
  | 0 => by simp [sm]
  | n + 1 => by
    show sm g (n + 1) + g (n + 1) = g 0 + (sm (fun k => g (k + 1)) n + g (n + 1))
    rw [sm_shift g n]
    omega
theorem sm_rev (g : Nat → Int) : ∀ n : Nat, sm (fun k => g (n - 1 - k)) n = sm g n
  | 0 => rfl
  | n + 1 => by
    rw [sm_shift]
    show g (n + 1 - 1 - 0) + sm (fun k => g (n + 1 - 1 - (k + 1))) n = sm g n + g n
    rw [sm_congr (g' := fun k => g (n - 1 - k)) (n := n) (by intro k hk; show g (n + 1 - 1 - (k + 1)) = g (n - 1 - k); congr 1; omega), sm_rev g n]
    show g n + sm g n = sm g n + g n
    omega
/-! falling products, the product of the heights -/
def ff (x : Int) : Nat → Int
  | 0 => 1
  | n + 1 => ff x n * (x - n)
def prodF (hs : List Int) (more : Int) : Nat → Int
  | 0 => 1
  | n + 1 => prodF hs more n * (hs.getD n 0 + more - n)
def Rise (hs : List Int) : Prop := ∀ (i j : Nat) (x y : Int), i ≤ j → hs[i]? = some x → hs[j]? = some y → x ≤ y
def Pos0 (hs : List Int) : Prop := ∀ x ∈ hs, 0 ≤ x
theorem gjw_step {f : Nat → Int} {n : Nat} {h x : Int} {f' : Nat → Int} (hn : f (n + 1) = 0) (h0 : f' 0 = f 0) (hs : ∀ m, f' (m + 1) = f (m + 1) + f m * (h - m)) :
    sm (fun k => f' k * ff x (n + 1 - k)) (n + 2) = sm (fun k => f k * ff x (n - k)) (n + 1) * (h + x - n) := by
  rw [sm_shift, h0]
  have e1 : sm (fun k => f' (k + 1) * ff x (n + 1 - (k + 1))) (n + 1) = sm (fun k => f (k + 1) * ff x (n + 1 - (k + 1))) (n + 1) + sm (fun k => f k * (h - k) * ff x (n - k)) (n + 1) := by
    rw [← sm_add]
    refine sm_congr fun k hk => ?_
    show f' (k + 1) * ff x (n + 1 - (k + 1)) = f (k + 1) * ff x (n + 1 - (k + 1)) + f k * (h - k) * ff x (n - k)
    rw [hs, Nat.add_sub_add_right]
    grind
  have e2 : f 0 * ff x (n + 1 - 0) + sm (fun k => f (k + 1) * ff x (n + 1 - (k + 1))) (n + 1) = sm (fun k => f k * ff x (n + 1 - k)) (n + 1) := by
    have e := sm_shift (fun k => f k * ff x (n + 1 - k)) (n + 1)
    rw [← e]
    show sm (fun k => f k * ff x (n + 1 - k)) (n + 1) + f (n + 1) * _ = _
    rw [hn, Int.zero_mul, Int.add_zero]
  rw [e1, ← Int.add_assoc, e2, ← sm_add, ← sm_mul]
  refine sm_congr fun k hk => ?_
  show f k * ff x (n + 1 - k) + f k * (h - k) * ff x (n - k) = f k * ff x (n - k) * (h + x - n)
  obtain ⟨d, rfl⟩ : ∃ d, n = k + d := ⟨n - k, by omega⟩
  rw [show k + d + 1 - k = d + 1 by omega, show k + d - k = d by omega]
  show f k * (ff x d * (x - d)) + f k * (h - k) * ff x d = f k * ff x d * (h + x - ((k + d : Nat) : Int))
  rw [Int.natCast_add]
  grind
theorem prodF_snoc {hs : List Int} {h more : Int} : ∀ n : Nat, n ≤ hs.length → prodF (hs ++ [h]) more n = prodF hs more n
  | 0, _ => rfl
  | n + 1, hn => by
    show prodF (hs ++ [h]) more n * _ = prodF hs more n * _
    rw [prodF_snoc n (by omega)]
    have e : (hs ++ [h]).getD n 0 = hs.getD n 0 := by
      rw [List.getD_eq_getElem?_getD, List.getD_eq_getElem?_getD, List.getElem?_append_left (by omega)]
    rw [e]
theorem Rise.front {hs : List Int} {h : Int} (r : Rise (hs ++ [h])) : Rise hs := by
  intro i j x y hij hx hy
  have h1 : i < hs.length := (List.getElem?_eq_some_iff.mp hx).1
  have h2 : j < hs.length := (List.getElem?_eq_some_iff.mp hy).1
  exact r i j x y hij (by rw [List.getElem?_append_left h1]; exact hx) (by rw [List.getElem?_append_left h2]; exact hy)
theorem Rise.last {hs : List Int} {h : Int} (r : Rise (hs ++ [h])) : ∀ x ∈ hs, x ≤ h := by
  intro x hx
  obtain ⟨i, hi, e⟩ := List.getElem_of_mem hx
  refine r i hs.length x h (by omega) ?_ ?_
  · rw [List.getElem?_append_left hi, List.getElem?_eq_getElem hi, e]
  · simp
theorem gjw : ∀ (hs : List Int), Rise hs → Pos0 hs → ∀ x : Int, sm (fun k => cntF hs k * ff x (hs.length - k)) (hs.length + 1) = prodF hs x hs.length := by
  intro hs
  induction hs using snoc_ind with
  | h0 => intro _ _ x; simp [sm, prodF, ff, cntF_zero]
  | h1 xs h ih =>
    intro r p x
    have hp : 0 ≤ h := p h (by simp)
    have e := ih r.front (fun y hy => p y (by simp [hy])) x
    rw [List.length_append, List.length_singleton]
    rw [gjw_step (f := cntF xs) (n := xs.length) (h := h) (x := x) (cntF_gt xs _ (by omega)) (by rw [cntF_snoc]; rfl) (cntF_step hp r.last), e]
    show _ = prodF (xs ++ [h]) x xs.length * ((xs ++ [h]).getD xs.length 0 + x - xs.length)
    rw [prodF_snoc _ (Nat.le_refl _)]
    have eg : (xs ++ [h]).getD xs.length 0 = h := by simp
    rw [eg]
theorem gjw_rev {hs : List Int} (r : Rise hs) (p : Pos0 hs) (x : Int) : sm (fun left => cntF hs (hs.length - left) * ff x left) (hs.length + 1) = prodF hs x hs.length := by
  rw [← gjw hs r p x, ← sm_rev (fun k => cntF hs k * ff x (hs.length - k)) (hs.length + 1)]
  refine sm_congr fun k hk => ?_
  show cntF hs (hs.length - k) * ff x k = cntF hs (hs.length + 1 - 1 - k) * ff x (hs.length - (hs.length + 1 - 1 - k))
  rw [show hs.length + 1 - 1 - k = hs.length - k by omega, show hs.length - (hs.length - k) = k by omega]
end TS
namespace TS
/-! lists as tables of functions -/
def tab (f : Nat → Int) (n : Nat) : List Int := (List.range n).map f
theorem tab_len (f : Nat → Int) (n : Nat) : (tab f n).length = n := by unfold tab; simp
theorem tab_get {f : Nat → Int} {n k : Nat} (h : k < n) : (tab f n)[k]? = some (f k) := by
  unfold tab
  rw [List.getElem?_map, List.getElem?_range h]
  rfl
theorem tab_congr {f g : Nat → Int} {n : Nat} (h : ∀ k, k < n → f k = g k) : tab f n = tab g n := by
  unfold tab
  exact List.map_congr_left fun k hk => h k (List.mem_range.mp hk)
theorem tab_set (f : Nat → Int) (n j : Nat) (v : Int) : (tab f n).set j v = tab (fun k => if k = j then v else f k) n := by
  apply List.ext_getElem?
  intro k
  rw [List.getElem?_set, tab_len]
  by_cases hk : k < n
  · rw [tab_get hk, tab_get hk]
    by_cases e : j = k
    · subst e
      rw [if_pos rfl, if_pos hk, if_pos rfl]
    · rw [if_neg e, if_neg (fun z => e z.symm)]
  · have h1 : (tab f n)[k]? = none := List.getElem?_eq_none (by rw [tab_len]; omega)
    have h2 : (tab (fun k => if k = j then v else f k) n)[k]? = none := List.getElem?_eq_none (by rw [tab_len]; omega)
    rw [h1, h2]
    by_cases e : j = k
    · subst e
      rw [if_pos rfl, if_neg hk]
    · rw [if_neg e]
theorem tab_succ (f : Nat → Int) (n : Nat) : tab f (n + 1) = f 0 :: tab (fun k => f (k + 1)) n := by
  unfold tab
  rw [List.range_succ_eq_map, List.map_cons, List.map_map]
  rfl
theorem tab_const (c : Int) : ∀ n : Nat, tab (fun _ => c) n = List.replicate n c
  | 0 => rfl
  | n + 1 => by rw [tab_succ, tab_const c n]; rfl
theorem tab_f0 (n : Nat) : tab f0 (n + 1) = 1 :: List.replicate n 0 := by
  rw [tab_succ, ← tab_const]
  rfl
/-! the counts' sizes -/
theorem cnt_rng {M : Int} (hM : 1 ≤ M) : ∀ (hs : List Int), (∀ x ∈ hs, 0 ≤ x ∧ x + 1 ≤ M) → ∀ k, 0 ≤ cntF hs k ∧ cntF hs k ≤ M ^ hs.length := by
  intro hs
  induction hs using snoc_ind with
  | h0 =>
    intro _ k
    rw [cntF_nil]
    unfold f0
    split <;> simp
  | h1 xs x ih =>
    intro h k
    have hx := h x (by simp)
    have ih' := ih fun y hy => h y (by simp [hy])
    have hp : 0 ≤ M ^ xs.length := Int.pow_nonneg (by omega)
    rw [cntF_snoc, List.length_append, List.length_singleton, Int.pow_succ]
    have grow : M ^ xs.length ≤ M ^ xs.length * M := by
      have := Int.mul_le_mul_of_nonneg_left hM hp
      rw [Int.mul_one] at this
      exact this
    cases k with
    | zero =>
      have a := ih' 0
      exact ⟨a.1, Int.le_trans a.2 grow⟩
    | succ m =>
      rw [stp_succ]
      have a := ih' (m + 1)
      have b := ih' m
      by_cases c : (m : Int) < x
      · rw [if_pos c]
        have d : 0 ≤ cntF xs m * (x - m) := Int.mul_nonneg b.1 (by omega)
        have e : cntF xs m * (x - m) ≤ M ^ xs.length * (M - 1) := Int.mul_le_mul b.2 (by omega) (by omega) hp
        have e2 : M ^ xs.length * (M - 1) = M ^ xs.length * M - M ^ xs.length := by rw [Int.mul_sub, Int.mul_one]
        omega
      · rw [if_neg c]
        exact ⟨a.1, Int.le_trans a.2 grow⟩
/-- low enough: heights and such -/
def Lo (x : Int) : Prop := x.natAbs < 2 ^ 208
theorem abs_pow {x : Int} {a n : Nat} (h0 : 0 ≤ x) (h : x ≤ ((2 : Int) ^ a) ^ n) : x.natAbs < 2 ^ (a * n + 1) := by
  have e : ((2 : Int) ^ a) ^ n = ((2 ^ (a * n) : Nat) : Int) := by
    rw [← Int.pow_mul, Int.natCast_pow]
    rfl
  rw [e] at h
  have : x.natAbs ≤ 2 ^ (a * n) := by omega
  have h2 : 2 ^ (a * n) < 2 ^ (a * n + 1) := Nat.pow_lt_pow_right (by decide) (by omega)
  omega
theorem cnt_abs {hs : List Int} (h : ∀ x ∈ hs, 0 ≤ x ∧ x + 1 ≤ 2 ^ 208) (k : Nat) : (cntF hs k).natAbs < 2 ^ (208 * hs.length + 1) := by
  have q := cnt_rng (M := 2 ^ 208) (by decide) hs h k
  exact abs_pow q.1 q.2
theorem pow_up {x : Int} {a b : Nat} (h : x.natAbs < 2 ^ a) (hab : a ≤ b) : x.natAbs < 2 ^ b := Nat.lt_of_lt_of_le h (Nat.pow_le_pow_right (by decide) hab)
/-! a column put in, in the middle of its loop -/
def mid (f : Nat → Int) (h : Int) (t i : Nat) : Nat → Int := fun k => if t - i < k then stp f h k else f k
theorem stp_high {f : Nat → Int} {h : Int} {k : Nat} (hk : h < (k : Int)) (h0 : 0 < k) : stp f h k = f k := by
  obtain ⟨m, rfl⟩ : ∃ m, k = m + 1 := ⟨k - 1, by omega⟩
  rw [stp_succ, if_neg (by omega)]
theorem mid_start {f : Nat → Int} {h : Int} {n t : Nat} (ht : (t : Int) = h ∨ n ≤ t) : tab (mid f h t 0) (n + 1) = tab f (n + 1) := by
  refine tab_congr fun k hk => ?_
  unfold mid
  by_cases c : t - 0 < k
  · rw [if_pos c]
    rcases ht with e | e
    · exact stp_high (by omega) (by omega)
    · omega
  · rw [if_neg c]
theorem mid_end {f : Nat → Int} {h : Int} {n t : Nat} : tab (mid f h t t) (n + 1) = tab (stp f h) (n + 1) := by
  refine tab_congr fun k hk => ?_
  unfold mid
  rw [Nat.sub_self]
  cases k with
  | zero => rfl
  | succ m => rw [if_pos (by omega)]
theorem mid_turn {f : Nat → Int} {h : Int} {n t i m : Nat} (ht : (t : Int) ≤ h) (hi : i < t) (hm : m + 1 = t - i) :
    (tab (mid f h t i) (n + 1)).set (m + 1) (f (m + 1) + f m * (h - m)) = tab (mid f h t (i + 1)) (n + 1) := by
  rw [tab_set]
  refine tab_congr fun k hk => ?_
  show (if k = m + 1 then _ else mid f h t i k) = mid f h t (i + 1) k
  unfold mid
  by_cases e : k = m + 1
  · rw [if_pos e, if_pos (by omega), e, stp_succ, if_pos (by omega)]
  · rw [if_neg e]
    by_cases c : t - i < k
    · rw [if_pos c, if_pos (by omega)]
    · rw [if_neg c, if_neg (by omega)]
theorem mid_at {f : Nat → Int} {h : Int} {t i k : Nat} (hk : k ≤ t - i) : mid f h t i k = f k := by
  unfold mid
  rw [if_neg (by omega)]
end TS
namespace TS
/-! the law's own loop over all counts -/
theorem mid_start2 {f : Nat → Int} {h : Int} {n t : Nat} (hz : ∀ k, t ≤ k → f k = 0) : tab (mid f h t 0) (n + 1) = tab f (n + 1) := by
  refine tab_congr fun k hk => ?_
  unfold mid
  by_cases c : t - 0 < k
  · rw [if_pos c]
    obtain ⟨m, rfl⟩ : ∃ m, k = m + 1 := ⟨k - 1, by omega⟩
    rw [stp_succ, hz m (by omega), hz (m + 1) (by omega)]
    split <;> omega
  · rw [if_neg c]
theorem mid_set {f : Nat → Int} {h : Int} {n t i m : Nat} (hi : i < t) (hm : m + 1 = t - i) (c : (m : Int) < h) :
    (tab (mid f h t i) (n + 1)).set (m + 1) (f (m + 1) + f m * (h - m)) = tab (mid f h t (i + 1)) (n + 1) := by
  rw [tab_set]
  refine tab_congr fun k hk => ?_
  show (if k = m + 1 then _ else mid f h t i k) = mid f h t (i + 1) k
  unfold mid
  by_cases e : k = m + 1
  · rw [if_pos e, if_pos (by omega), e, stp_succ, if_pos c]
  · rw [if_neg e]
    by_cases c : t - i < k
    · rw [if_pos c, if_pos (by omega)]
    · rw [if_neg c, if_neg (by omega)]
theorem mid_skip {f : Nat → Int} {h : Int} {n t i m : Nat} (hi : i < t) (hm : m + 1 = t - i) (c : ¬ (m : Int) < h) :
    tab (mid f h t i) (n + 1) = tab (mid f h t (i + 1)) (n + 1) := by
  refine tab_congr fun k hk => ?_
  unfold mid
  by_cases e : k = m + 1
  · rw [if_neg (by omega), if_pos (by omega), e, stp_succ, if_neg c]
  · by_cases c : t - i < k
    · rw [if_pos c, if_pos (by omega)]
    · rw [if_neg c, if_neg (by omega)]
/-! the product's size -/
theorem prod_abs {hs : List Int} {x : Int} (h : ∀ y ∈ hs, 0 ≤ y ∧ y + 1 ≤ 2 ^ 208) (hl : hs.length ≤ 100) (h0 : 0 ≤ x) (hx : x + 1 ≤ 2 ^ 208) : ∀ n : Nat, n ≤ hs.length → (prodF hs x n).natAbs < 2 ^ (210 * n + 1)
  | 0, _ => by show (1 : Int).natAbs < 2 ^ (210 * 0 + 1); decide
  | n + 1, hn => by
    show (prodF hs x n * (hs.getD n 0 + x - n)).natAbs < 2 ^ (210 * (n + 1) + 1)
    have ih := prod_abs h hl h0 hx n (by omega)
    have e : hs.getD n 0 ∈ hs := by
      rw [List.getD_eq_getElem?_getD, List.getElem?_eq_getElem (by omega)]
      exact List.getElem_mem _
    have b := h _ e
    have hc : (hs.getD n 0 + x - n).natAbs < 2 ^ 210 := by
      have h2 : (2 : Int) ^ 208 = ((2 ^ 208 : Nat) : Int) := rfl
      have h3 : (2 : Nat) ^ 210 = 2 ^ 208 * 4 := rfl
      have h4 : 1000 ≤ (2 : Nat) ^ 208 := by decide
      omega
    rw [Int.natAbs_mul, show 210 * (n + 1) + 1 = (210 * n + 1) + 210 by omega, Nat.pow_add]
    exact Nat.mul_lt_mul'' ih hc
end TS
namespace TS
theorem rise_of_pw {hs : List Int} (h : hs.Pairwise (· ≤ ·)) : Rise hs := by
  intro i j x y hij hx hy
  obtain ⟨h1, e1⟩ := List.getElem?_eq_some_iff.mp hx
  obtain ⟨h2, e2⟩ := List.getElem?_eq_some_iff.mp hy
  by_cases e : i = j
  · subst e
    rw [e1] at e2
    omega
  · have q := List.pairwise_iff_getElem.mp h i j h1 h2 (by omega)
    rw [e1, e2] at q
    exact q
/-- each height more by its place -/
def lift (hs : List Int) (n : Nat) : List Int := tab (fun k => hs.getD k 0 + k) n
theorem lift_rise {hs : List Int} (h : Rise hs) : Rise (lift hs hs.length) := by
  intro i j x y hij hx hy
  have h2 : j < hs.length := by
    have := (List.getElem?_eq_some_iff.mp hy).1
    unfold lift at this
    rw [tab_len] at this
    exact this
  unfold lift at hx hy
  rw [tab_get (by omega)] at hx hy
  have e1 := Option.some.inj hx
  have e2 := Option.some.inj hy
  have q := h i j _ _ hij (List.getElem?_eq_getElem (show i < hs.length by omega)) (List.getElem?_eq_getElem h2)
  simp only [List.getD_eq_getElem?_getD, List.getElem?_eq_getElem h2, List.getElem?_eq_getElem (show i < hs.length by omega), Option.getD_some] at e1 e2
  omega
theorem lift_mem {hs : List Int} {m : Int} (h : ∀ x ∈ hs, 0 ≤ x ∧ x < m) : ∀ x ∈ lift hs hs.length, 0 ≤ x ∧ x < m + hs.length := by
  intro x hx
  unfold lift tab at hx
  obtain ⟨k, hk, rfl⟩ := List.mem_map.mp hx
  have hk' := List.mem_range.mp hk
  have q := h hs[k] (List.getElem_mem hk')
  rw [List.getD_eq_getElem?_getD, List.getElem?_eq_getElem hk']
  show 0 ≤ hs[k] + (k : Int) ∧ hs[k] + (k : Int) < m + hs.length
  omega
theorem lift_succ {hs : List Int} {i : Nat} {h : Int} (e : hs[i]? = some h) : lift hs (i + 1) = lift hs i ++ [h + i] := by
  unfold lift tab
  rw [List.range_succ, List.map_append, List.map_singleton, List.getD_eq_getElem?_getD, e]
  rfl
/-- what the drawn stairs are -/
structure GoodS (n : Nat) (hs : List Int) : Prop where
  rise : Rise hs
  pos : Pos0 hs
  low : ∀ x ∈ hs, x < 10 ^ 59
  len : hs.length = min 63 n
theorem goodS_mod {n : Nat} {ms hs : List Int} (hp : hs.Perm (ms.map fun x => x / 5 % 10 ^ 59)) (hw : hs.Pairwise (· ≤ ·)) (hl : ms.length = min 63 n) : GoodS n hs := by
  have mem : ∀ x ∈ hs, 0 ≤ x ∧ x < 10 ^ 59 := fun x hx => by
    obtain ⟨y, _, rfl⟩ := List.mem_map.mp (hp.mem_iff.mp hx)
    exact ⟨Int.emod_nonneg _ (by decide), Int.emod_lt_of_pos _ (by decide)⟩
  exact ⟨rise_of_pw hw, fun x hx => (mem x hx).1, fun x hx => (mem x hx).2, by rw [hp.length_eq, List.length_map, hl]⟩
theorem goodS_draw {n : Nat} {m : Int} {ds hs : List Int} (hp : hs.Perm ds) (hw : hs.Pairwise (· ≤ ·)) (hm : m ≤ 300) (hd : ∀ x ∈ ds, 0 ≤ x ∧ x < m) (hl : ds.length = min 63 n) : GoodS n hs ∧ GoodS n (lift hs hs.length) := by
  have mem : ∀ x ∈ hs, 0 ≤ x ∧ x < m := fun x hx => hd x (hp.mem_iff.mp hx)
  have big : (1000 : Int) < 10 ^ 59 := by decide
  have len : hs.length = min 63 n := by rw [hp.length_eq, hl]
  refine ⟨⟨rise_of_pw hw, fun x hx => (mem x hx).1, fun x hx => ?_, len⟩, ⟨lift_rise (rise_of_pw hw), fun x hx => (lift_mem mem x hx).1, fun x hx => ?_, ?_⟩⟩
  · have := (mem x hx).2
    omega
  · have := (lift_mem mem x hx).2
    omega
  · unfold lift
    rw [tab_len, len]
/-- the menu of the greatest height -/
theorem most_menu {n k : Int} (h0 : 0 ≤ k) (h1 : k < 5) (hn : 0 ≤ n) (hn2 : n ≤ 63) : ∃ m : Int, 0 < m ∧ m ≤ 300 ∧ [(1 : Int), n + 3, 4, 3 * n + 2, n / 2 + 2][k.toNat]? = some m := by
  have e : k = 0 ∨ k = 1 ∨ k = 2 ∨ k = 3 ∨ k = 4 := by omega
  rcases e with rfl | rfl | rfl | rfl | rfl
  · exact ⟨_, by decide, by decide, rfl⟩
  · exact ⟨n + 3, by omega, by omega, rfl⟩
  · exact ⟨4, by decide, by decide, rfl⟩
  · exact ⟨3 * n + 2, by omega, by omega, rfl⟩
  · exact ⟨n / 2 + 2, by omega, by omega, rfl⟩
end TS
namespace TS
/-! rows free and taken -/
def rowAbove : List Int → Int → Int
  | [], x => x
  | t :: ts, x => if t ≤ x then rowAbove ts (x + 1) else rowAbove ts x
def less (T : List Int) (r : Int) : Int := ((T.filter fun t => decide (t < r)).length : Int)
theorem less_nil (r : Int) : less [] r = 0 := rfl
theorem less_cons (t : Int) (T : List Int) (r : Int) : less (t :: T) r = (if t < r then 1 else 0) + less T r := by
  unfold less
  rw [List.filter_cons]
  by_cases h : t < r
  · rw [if_pos (decide_eq_true h), if_pos h, List.length_cons]
    omega
  · rw [if_neg (fun z => h (of_decide_eq_true z)), if_neg h]
    omega
theorem less_nonneg (T : List Int) (r : Int) : 0 ≤ less T r := by unfold less; omega
theorem less_perm {T U : List Int} (p : T.Perm U) (r : Int) : less T r = less U r := by
  unfold less
  rw [(p.filter _).length_eq]
theorem less_none {T : List Int} {r : Int} (h : ∀ t ∈ T, ¬ t < r) : less T r = 0 := by
  induction T with
  | nil => rfl
  | cons t T ih =>
    rw [less_cons, if_neg (h t (by simp)), ih fun u hu => h u (by simp [hu])]
    rfl
theorem above_stuck {T : List Int} {x : Int} (h : ∀ t ∈ T, x < t) : rowAbove T x = x := by
  induction T with
  | nil => rfl
  | cons t T ih =>
    unfold rowAbove
    rw [if_neg (by have := h t (by simp); omega), ih fun u hu => h u (by simp [hu])]
theorem above_facts : ∀ (T : List Int), T.Pairwise (· < ·) → ∀ x : Int, x ≤ rowAbove T x ∧ rowAbove T x - less T (rowAbove T x) = x ∧ rowAbove T x ∉ T ∧ rowAbove T x ≤ x + T.length
  | [], _, x => ⟨Int.le_refl _, by show x - less [] x = x; rw [less_nil]; omega, by simp, by simp [rowAbove]⟩
  | t :: T, h, x => by
    obtain ⟨h1, h2⟩ := List.pairwise_cons.mp h
    by_cases c : t ≤ x
    · have e : rowAbove (t :: T) x = rowAbove T (x + 1) := by
        show (if t ≤ x then rowAbove T (x + 1) else rowAbove T x) = _
        rw [if_pos c]
      obtain ⟨a, b, d, f⟩ := above_facts T h2 (x + 1)
      rw [e, less_cons, if_pos (by omega), List.length_cons]
      refine ⟨by omega, by omega, fun m => ?_, by omega⟩
      rcases List.mem_cons.mp m with m | m
      · omega
      · exact d m
    · have up : ∀ u ∈ t :: T, x < u := fun u hu => by
        rcases List.mem_cons.mp hu with rfl | hu
        · omega
        · have := h1 u hu; omega
      rw [above_stuck up]
      refine ⟨Int.le_refl _, ?_, fun m => ?_, by omega⟩
      · rw [less_none fun u hu => by have := up u hu; omega]
        omega
      · have := up x m
        omega
theorem less_gap : ∀ (T : List Int), T.Pairwise (· < ·) → ∀ t r : Int, (∀ u ∈ T, t < u) → t < r → less T r ≤ r - t - 1
  | [], _, t, r, _, hr => by rw [less_nil]; omega
  | u :: T, h, t, r, ht, hr => by
    obtain ⟨h1, h2⟩ := List.pairwise_cons.mp h
    rw [less_cons]
    have hu := ht u (by simp)
    by_cases c : u < r
    · rw [if_pos c]
      have := less_gap T h2 u r h1 c
      omega
    · rw [if_neg c, less_none fun v hv => by have := h1 v hv; omega]
      omega
theorem above_back : ∀ (T : List Int), T.Pairwise (· < ·) → ∀ r : Int, r ∉ T → rowAbove T (r - less T r) = r
  | [], _, r, _ => by rw [less_nil]; show r - 0 = r; omega
  | t :: T, h, r, hr => by
    obtain ⟨h1, h2⟩ := List.pairwise_cons.mp h
    have ne : r ≠ t := fun e => hr (by simp [e])
    have nm : r ∉ T := fun m => hr (by simp [m])
    by_cases c : t < r
    · have g := less_gap T h2 t r h1 c
      rw [less_cons, if_pos c]
      have e : rowAbove (t :: T) (r - (1 + less T r)) = rowAbove T (r - (1 + less T r) + 1) := by
        show (if t ≤ r - (1 + less T r) then _ else _) = _
        rw [if_pos (by omega)]
      rw [e, show r - (1 + less T r) + 1 = r - less T r by omega]
      exact above_back T h2 r nm
    · rw [less_cons, if_neg c, less_none fun u hu => by have := h1 u hu; omega]
      rw [show r - (0 + 0) = r by omega]
      refine above_stuck fun u hu => ?_
      rcases List.mem_cons.mp hu with rfl | hu
      · omega
      · have := h1 u hu; omega
theorem less_lt : ∀ (T : List Int), T.Pairwise (· < ·) → ∀ r : Int, 0 ≤ r → (∀ u ∈ T, 0 ≤ u) → less T r ≤ r
  | [], _, r, h0, _ => by rw [less_nil]; exact h0
  | t :: T, h, r, h0, hp => by
    obtain ⟨h1, h2⟩ := List.pairwise_cons.mp h
    rw [less_cons]
    by_cases c : t < r
    · have g := less_gap T h2 t r h1 c
      have := hp t (by simp)
      rw [if_pos c]
      omega
    · rw [if_neg c, less_none fun u hu => by have := h1 u hu; omega]
      omega
/-- of rows below h, how many above r -/
theorem less_up : ∀ (T : List Int), T.Pairwise (· < ·) → ∀ r h : Int, r < h → r ∉ T → (∀ u ∈ T, u < h) → (T.length : Int) - less T r ≤ h - r - 1
  | [], _, r, h, hr, _, _ => by rw [less_nil]; simp; omega
  | t :: T, w, r, h, hr, hn, hu => by
    obtain ⟨h1, h2⟩ := List.pairwise_cons.mp w
    rw [less_cons, List.length_cons]
    have ne : r ≠ t := fun e => hn (by simp [e])
    by_cases c : t < r
    · rw [if_pos c]
      have := less_up T h2 r h hr (fun m => hn (by simp [m])) fun u hu' => hu u (by simp [hu'])
      omega
    · rw [if_neg c, less_none fun u hu' => by have := h1 u hu'; omega]
      -- all above r, at most h - r - 1 of them
      have len : ∀ (U : List Int), U.Pairwise (· < ·) → ∀ a : Int, (∀ u ∈ U, a < u) → (∀ u ∈ U, u < h) → a < h → (U.length : Int) ≤ h - a - 1 := by
        intro U
        induction U with
        | nil => intro _ a _ _ ha; simp; omega
        | cons u U ih =>
          intro w a ha hb hah
          obtain ⟨w1, w2⟩ := List.pairwise_cons.mp w
          have := ih w2 u w1 (fun v hv => hb v (by simp [hv])) (hb u (by simp))
          have := ha u (by simp)
          rw [List.length_cons]
          omega
      have all : ∀ u ∈ t :: T, r < u := fun u hu' => by
        rcases List.mem_cons.mp hu' with rfl | hu'
        · omega
        · have := h1 u hu'; omega
      have := len (t :: T) w r all hu hr
      rw [List.length_cons] at this
      omega
end TS
namespace TS
/-! two sorted lists of the same numbers are one -/
theorem sorted_same : ∀ {a b : List Int}, a.Perm b → a.Pairwise (· ≤ ·) → b.Pairwise (· ≤ ·) → a = b
  | [], b, p, _, _ => (List.nil_perm.mp p).symm
  | x :: a, [], p, _, _ => by have := p.length_eq; simp at this
  | x :: a, y :: b, p, ha, hb => by
    obtain ⟨ha1, ha2⟩ := List.pairwise_cons.mp ha
    obtain ⟨hb1, hb2⟩ := List.pairwise_cons.mp hb
    have hxy : x = y := by
      have m1 : x ∈ y :: b := p.mem_iff.mp (by simp)
      have m2 : y ∈ x :: a := p.mem_iff.mpr (by simp)
      rcases List.mem_cons.mp m1 with e | m1
      · exact e
      · rcases List.mem_cons.mp m2 with e | m2
        · exact e.symm
        · have h1 := ha1 y m2
          have h2 := hb1 x m1
          omega
    subst hxy
    rw [sorted_same (List.Perm.cons_inv p) ha2 hb2]
def ins (x : Int) : List Int → List Int
  | [] => [x]
  | y :: l => if x ≤ y then x :: y :: l else y :: ins x l
def srt : List Int → List Int
  | [] => []
  | x :: l => ins x (srt l)
theorem ins_perm (x : Int) : ∀ l : List Int, (ins x l).Perm (x :: l)
  | [] => List.Perm.refl _
  | y :: l => by
    unfold ins
    split
    · exact List.Perm.refl _
    · exact ((ins_perm x l).cons y).trans (List.Perm.swap x y l)
theorem ins_pw (x : Int) : ∀ l : List Int, l.Pairwise (· ≤ ·) → (ins x l).Pairwise (· ≤ ·)
  | [], _ => by simp [ins]
  | y :: l, h => by
    obtain ⟨h1, h2⟩ := List.pairwise_cons.mp h
    unfold ins
    split
    · next c =>
      refine List.pairwise_cons.mpr ⟨fun z hz => ?_, h⟩
      rcases List.mem_cons.mp hz with rfl | hz
      · exact c
      · have := h1 z hz; omega
    · next c =>
      refine List.pairwise_cons.mpr ⟨fun z hz => ?_, ins_pw x l h2⟩
      rcases List.mem_cons.mp ((ins_perm x l).mem_iff.mp hz) with rfl | hz
      · omega
      · exact h1 z hz
theorem srt_perm : ∀ l : List Int, (srt l).Perm l
  | [] => List.Perm.refl _
  | x :: l => (ins_perm x (srt l)).trans ((srt_perm l).cons x)
theorem srt_pw : ∀ l : List Int, (srt l).Pairwise (· ≤ ·)
  | [] => List.Pairwise.nil
  | x :: l => ins_pw x _ (srt_pw l)
theorem srt_of {l m : List Int} (p : m.Perm l) (h : m.Pairwise (· ≤ ·)) : m = srt l := sorted_same (p.trans (srt_perm l).symm) h (srt_pw l)
theorem srt_congr {l m : List Int} (p : m.Perm l) : srt m = srt l := srt_of ((srt_perm m).trans p) (srt_pw m)
theorem strict_of {l : List Int} (h : l.Pairwise (· ≤ ·)) (n : l.Nodup) : l.Pairwise (· < ·) := by
  induction l with
  | nil => exact List.Pairwise.nil
  | cons x l ih =>
    obtain ⟨h1, h2⟩ := List.pairwise_cons.mp h
    obtain ⟨n1, n2⟩ := List.nodup_cons.mp n
    refine List.pairwise_cons.mpr ⟨fun y hy => ?_, ih h2 n2⟩
    have := h1 y hy
    have ne : x ≠ y := fun e => n1 (e ▸ hy)
    omega
theorem srt_strict {l : List Int} (n : l.Nodup) : (srt l).Pairwise (· < ·) := strict_of (srt_pw l) ((srt_perm l).nodup_iff.mpr n)
/-! heights and counts of the first columns -/
abbrev ht (hs : List Int) (i : Nat) : Int := hs.getD i 0
theorem ht_at {hs : List Int} {i : Nat} (h : i < hs.length) : hs[i]? = some (ht hs i) := by
  show hs[i]? = some (hs.getD i 0)
  rw [List.getD_eq_getElem?_getD, List.getElem?_eq_getElem h]
  rfl
theorem ht_nonneg {hs : List Int} (p : Pos0 hs) (i : Nat) : 0 ≤ ht hs i := by
  by_cases h : i < hs.length
  · exact p _ (List.mem_of_getElem? (ht_at h))
  · show 0 ≤ hs.getD i 0
    rw [List.getD_eq_getElem?_getD, List.getElem?_eq_none (by omega)]
    exact Int.le_refl _
abbrev cn (hs : List Int) (i k : Nat) : Int := cntF (hs.take i) k
theorem cn_succ {hs : List Int} {i : Nat} (h : i < hs.length) (m : Nat) : cn hs (i + 1) (m + 1) = if (m : Int) < ht hs i then cn hs i (m + 1) + cn hs i m * (ht hs i - m) else cn hs i (m + 1) := by
  show cntF (hs.take (i + 1)) (m + 1) = _
  rw [cntF_take (ht_at h)]
  rfl
theorem cn_zero (hs : List Int) (i : Nat) : cn hs i 0 = 1 := cntF_zero _
theorem cn_gt {hs : List Int} {i k : Nat} (h : i < k) : cn hs i k = 0 := cntF_gt _ _ (by rw [List.length_take]; omega)
theorem cn_nonneg {hs : List Int} (p : Pos0 hs) : ∀ i, i ≤ hs.length → ∀ k, 0 ≤ cn hs i k
  | 0, _, k => by
    show 0 ≤ cntF (hs.take 0) k
    rw [List.take_zero, cntF_nil]
    unfold f0
    split <;> decide
  | i + 1, h, 0 => by rw [cn_zero]; decide
  | i + 1, h, m + 1 => by
    rw [cn_succ (by omega)]
    have a := cn_nonneg p i (by omega) (m + 1)
    have b := cn_nonneg p i (by omega) m
    split
    · next c =>
      have := Int.mul_nonneg b (show 0 ≤ ht hs i - m by omega)
      omega
    · exact a
theorem cn_mono {hs : List Int} (p : Pos0 hs) {i : Nat} (h : i < hs.length) (k : Nat) : cn hs i k ≤ cn hs (i + 1) k := by
  cases k with
  | zero => rw [cn_zero, cn_zero]; exact Int.le_refl _
  | succ m =>
    rw [cn_succ h]
    split
    · next c =>
      have := Int.mul_nonneg (cn_nonneg p i (by omega) m) (show 0 ≤ ht hs i - m by omega)
      omega
    · exact Int.le_refl _
/-! a number, taken apart by free rows (the last column first) -/
inductive Enc (hs : List Int) : Nat → List (Nat × Int) → Int → Prop
  | zero : Enc hs 0 [] 0
  | skip {i : Nat} {ds : List (Nat × Int)} {num : Int} : Enc hs i ds num → Enc hs (i + 1) ds num
  | put {i : Nat} {ds : List (Nat × Int)} {num f : Int} : Enc hs i ds num → 0 ≤ f → f < ht hs i - ds.length → Enc hs (i + 1) ((i, f) :: ds) (cn hs i (ds.length + 1) + num * (ht hs i - ds.length) + f)
theorem Enc.rng {hs : List Int} (p : Pos0 hs) {i : Nat} {ds : List (Nat × Int)} {num : Int} (e : Enc hs i ds num) : i ≤ hs.length → 0 ≤ num ∧ num < cn hs i ds.length := by
  induction e with
  | zero => intro _; exact ⟨Int.le_refl _, by rw [List.length_nil, cn_zero]; decide⟩
  | skip e ih =>
    intro h
    have q := ih (by omega)
    exact ⟨q.1, Int.lt_of_lt_of_le q.2 (cn_mono p (by omega) _)⟩
  | @put i ds num f e f0 f1 ih =>
    intro h
    have q := ih (by omega)
    have hm : 0 < ht hs i - ds.length := by omega
    have w := cn_nonneg p i (by omega) (ds.length + 1)
    have a := Int.mul_nonneg q.1 (Int.le_of_lt hm)
    refine ⟨by omega, ?_⟩
    rw [List.length_cons, cn_succ (by omega), if_pos (by omega)]
    have b : num * (ht hs i - ds.length) ≤ (cn hs i ds.length - 1) * (ht hs i - ds.length) := Int.mul_le_mul_of_nonneg_right (by omega) (Int.le_of_lt hm)
    rw [Int.sub_mul, Int.one_mul] at b
    omega
def ch (hs : List Int) : Nat → Nat → Int → List (Nat × Int)
  | 0, _, _ => []
  | i + 1, k, num => if cn hs i k ≤ num then (i, (num - cn hs i k) % (ht hs i - k + 1)) :: ch hs i (k - 1) ((num - cn hs i k) / (ht hs i - k + 1)) else ch hs i k num
theorem ch_succ (hs : List Int) (i k : Nat) (num : Int) : ch hs (i + 1) k num = if cn hs i k ≤ num then (i, (num - cn hs i k) % (ht hs i - k + 1)) :: ch hs i (k - 1) ((num - cn hs i k) / (ht hs i - k + 1)) else ch hs i k num := rfl
theorem Enc.ch_eq {hs : List Int} (p : Pos0 hs) {i : Nat} {ds : List (Nat × Int)} {num : Int} (e : Enc hs i ds num) : i ≤ hs.length → ch hs i ds.length num = ds := by
  induction e with
  | zero => intro _; rfl
  | skip e ih =>
    intro h
    have q := e.rng p (by omega)
    rw [ch_succ, if_neg (by omega)]
    exact ih (by omega)
  | @put i ds num f e f0 f1 ih =>
    intro h
    have q := e.rng p (by omega)
    have hm : 0 < ht hs i - ds.length := by omega
    have a := Int.mul_nonneg q.1 (Int.le_of_lt hm)
    rw [List.length_cons, ch_succ, if_pos (by omega)]
    have e1 : ht hs i - ((ds.length + 1 : Nat) : Int) + 1 = ht hs i - ds.length := by omega
    have e2 : cn hs i (ds.length + 1) + num * (ht hs i - ds.length) + f - cn hs i (ds.length + 1) = f + num * (ht hs i - ds.length) := by omega
    rw [e1, e2, Int.add_mul_emod_self_right, Int.add_mul_ediv_right _ _ (by omega), Int.emod_eq_of_lt f0 f1, Int.ediv_eq_zero_of_lt f0 f1, Int.zero_add, Nat.add_sub_cancel, ih (by omega)]
theorem enc_ex {hs : List Int} (p : Pos0 hs) : ∀ (i : Nat), i ≤ hs.length → ∀ (k : Nat) (num : Int), 0 ≤ num → num < cn hs i k → ∃ ds, Enc hs i ds num ∧ ds.length = k
  | 0, _, k, num, h0, h1 => by
    have e : cn hs 0 k = f0 k := by
      show cntF (hs.take 0) k = f0 k
      rw [List.take_zero, cntF_nil]
    rw [e] at h1
    unfold f0 at h1
    by_cases c : k = 0
    · rw [if_pos c] at h1
      exact ⟨[], by rw [show num = 0 by omega]; exact .zero, by rw [c]; rfl⟩
    · rw [if_neg c] at h1
      omega
  | i + 1, h, k, num, h0, h1 => by
    by_cases c : num < cn hs i k
    · obtain ⟨ds, e, l⟩ := enc_ex p i (by omega) k num h0 c
      exact ⟨ds, .skip e, l⟩
    · cases k with
      | zero => rw [cn_zero] at h1 c; omega
      | succ m =>
        rw [cn_succ (by omega)] at h1
        by_cases c2 : (m : Int) < ht hs i
        · rw [if_pos c2] at h1
          have hm : 0 < ht hs i - m := by omega
          have hd : num - cn hs i (m + 1) < cn hs i m * (ht hs i - m) := by omega
          have q0 : 0 ≤ (num - cn hs i (m + 1)) / (ht hs i - m) := Int.ediv_nonneg (by omega) (by omega)
          have q1 : (num - cn hs i (m + 1)) / (ht hs i - m) < cn hs i m := Int.ediv_lt_of_lt_mul hm hd
          obtain ⟨ds, e, l⟩ := enc_ex p i (by omega) m _ q0 q1
          subst l
          have r0 := Int.emod_nonneg (num - cn hs i (ds.length + 1)) (show ht hs i - ds.length ≠ 0 by omega)
          have r1 := Int.emod_lt_of_pos (num - cn hs i (ds.length + 1)) hm
          refine ⟨(i, (num - cn hs i (ds.length + 1)) % (ht hs i - ds.length)) :: ds, ?_, rfl⟩
          have x := Enc.put e r0 r1
          have y := Int.mul_ediv_add_emod (num - cn hs i (ds.length + 1)) (ht hs i - ds.length)
          rw [Int.mul_comm] at y
          rw [show cn hs i (ds.length + 1) + (num - cn hs i (ds.length + 1)) / (ht hs i - ds.length) * (ht hs i - ds.length) + (num - cn hs i (ds.length + 1)) % (ht hs i - ds.length) = num by omega] at x
          exact x
        · rw [if_neg c2] at h1
          omega
/-! towers -/
abbrev rowsOf (ts : List (Nat × Int)) : List Int := ts.map Prod.snd
def tw : List (Nat × Int) → List (Nat × Int)
  | [] => []
  | (c, f) :: ds => tw ds ++ [(c, rowAbove (srt (rowsOf (tw ds))) f)]
theorem tw_len : ∀ ds : List (Nat × Int), (tw ds).length = ds.length
  | [] => rfl
  | (c, f) :: ds => by
    show (tw ds ++ [_]).length = ds.length + 1
    rw [List.length_append, tw_len ds]
    rfl
inductive Run (hs : List Int) : Nat → List (Nat × Int) → Int → Prop
  | zero : Run hs 0 [] 0
  | skip {i : Nat} {ts : List (Nat × Int)} {num : Int} : Run hs i ts num → Run hs (i + 1) ts num
  | put {i : Nat} {ts : List (Nat × Int)} {num r : Int} : Run hs i ts num → r ∉ rowsOf ts → 0 ≤ r → r < ht hs i → Run hs (i + 1) (ts ++ [(i, r)]) (cn hs i (ts.length + 1) + num * (ht hs i - ts.length) + (r - less (rowsOf ts) r))
structure Valid (hs : List Int) (ts : List (Nat × Int)) : Prop where
  asc : ts.Pairwise fun a b => a.1 < b.1
  cell : ∀ q ∈ ts, q.1 < hs.length ∧ 0 ≤ q.2 ∧ q.2 < ht hs q.1
  rows : (rowsOf ts).Nodup
theorem Run.facts {hs : List Int} {i : Nat} {ts : List (Nat × Int)} {num : Int} (e : Run hs i ts num) : (ts.Pairwise fun a b => a.1 < b.1) ∧ (∀ q ∈ ts, q.1 < i ∧ 0 ≤ q.2 ∧ q.2 < ht hs q.1) ∧ (rowsOf ts).Nodup := by
  induction e with
  | zero => exact ⟨List.Pairwise.nil, by simp, by simp⟩
  | skip e ih => exact ⟨ih.1, fun q hq => ⟨by have := (ih.2.1 q hq).1; omega, (ih.2.1 q hq).2⟩, ih.2.2⟩
  | @put i ts num r e h0 h1 h2 ih =>
    refine ⟨List.pairwise_append.mpr ⟨ih.1, List.pairwise_singleton _ _, fun a ha b hb => ?_⟩, fun q hq => ?_, ?_⟩
    · rw [List.mem_singleton.mp hb]
      exact (ih.2.1 a ha).1
    · rcases List.mem_append.mp hq with hq | hq
      · exact ⟨by have := (ih.2.1 q hq).1; omega, (ih.2.1 q hq).2⟩
      · rw [List.mem_singleton.mp hq]
        exact ⟨by show i < i + 1; omega, h1, h2⟩
    · show (List.map Prod.snd (ts ++ [(i, r)])).Nodup
      rw [List.map_append]
      refine List.nodup_append.mpr ⟨ih.2.2, by simp, fun a ha b hb => ?_⟩
      rw [List.mem_singleton.mp hb]
      intro z
      have z' : a = r := z
      exact h0 (z' ▸ ha)
theorem Run.valid {hs : List Int} {ts : List (Nat × Int)} {num : Int} (e : Run hs hs.length ts num) : Valid hs ts := ⟨e.facts.1, e.facts.2.1, e.facts.2.2⟩
theorem Run.low {hs : List Int} (rise : Rise hs) {i : Nat} {ts : List (Nat × Int)} {num : Int} (e : Run hs i ts num) (h : i < hs.length) : ∀ r ∈ rowsOf ts, 0 ≤ r ∧ r < ht hs i := by
  intro r hr
  obtain ⟨q, hq, rfl⟩ := List.mem_map.mp hr
  obtain ⟨a, b, c⟩ := e.facts.2.1 q hq
  have := rise q.1 i _ _ (by omega) (ht_at (show q.1 < hs.length by omega)) (ht_at h)
  omega
theorem Run.enc {hs : List Int} (rise : Rise hs) {i : Nat} {ts : List (Nat × Int)} {num : Int} (e : Run hs i ts num) : i ≤ hs.length → ∃ ds, Enc hs i ds num ∧ tw ds = ts ∧ ds.length = ts.length := by
  induction e with
  | zero => intro _; exact ⟨[], .zero, rfl, rfl⟩
  | skip e ih =>
    intro h
    obtain ⟨ds, a, b, c⟩ := ih (by omega)
    exact ⟨ds, .skip a, b, c⟩
  | @put i ts num r e h0 h1 h2 ih =>
    intro h
    obtain ⟨ds, a, b, c⟩ := ih (by omega)
    have nd := e.facts.2.2
    have lo := e.low rise (by omega)
    have st := srt_strict nd
    have lp := less_perm (srt_perm (rowsOf ts)) r
    have nm : r ∉ srt (rowsOf ts) := fun m => h0 ((srt_perm _).mem_iff.mp m)
    have x := less_lt _ st r h1 (fun u hu => (lo u ((srt_perm _).mem_iff.mp hu)).1)
    have y := less_up _ st r (ht hs i) h2 nm (fun u hu => (lo u ((srt_perm _).mem_iff.mp hu)).2)
    rw [lp] at x y
    rw [(srt_perm (rowsOf ts)).length_eq, show (rowsOf ts).length = ts.length from List.length_map _] at y
    refine ⟨(i, r - less (rowsOf ts) r) :: ds, ?_, ?_, by rw [List.length_cons, c, List.length_append]; rfl⟩
    · have z := Enc.put (f := r - less (rowsOf ts) r) a (by omega) (by rw [c]; omega)
      rw [c] at z
      exact z
    · show tw ds ++ [(i, rowAbove (srt (rowsOf (tw ds))) (r - less (rowsOf ts) r))] = ts ++ [(i, r)]
      rw [b, ← lp, above_back _ st r nm]
theorem Enc.run {hs : List Int} (rise : Rise hs) {i : Nat} {ds : List (Nat × Int)} {num : Int} (e : Enc hs i ds num) : i ≤ hs.length → Run hs i (tw ds) num := by
  induction e with
  | zero => intro _; exact .zero
  | skip e ih => intro h; exact .skip (ih (by omega))
  | @put i ds num f e f0 f1 ih =>
    intro h
    have r := ih (by omega)
    have nd := r.facts.2.2
    have st := srt_strict nd
    obtain ⟨a, b, c, d⟩ := above_facts _ st f
    rw [(srt_perm (rowsOf (tw ds))).length_eq, show (rowsOf (tw ds)).length = ds.length by rw [show (rowsOf (tw ds)).length = (tw ds).length from List.length_map _, tw_len]] at d
    have nm : rowAbove (srt (rowsOf (tw ds))) f ∉ rowsOf (tw ds) := fun m => c ((srt_perm _).mem_iff.mpr m)
    have x := Run.put r nm (by omega) (by omega)
    rw [less_perm (srt_perm (rowsOf (tw ds)))] at b
    rw [b, tw_len] at x
    exact x
theorem Run.uniq {hs : List Int} {i : Nat} {ts : List (Nat × Int)} {a : Int} (e : Run hs i ts a) : ∀ {b : Int}, Run hs i ts b → a = b := by
  induction e with
  | zero => intro b h; cases h; rfl
  | @skip i ts num e ih =>
    intro b h
    cases h with
    | skip h => exact ih h
    | @put _ ts' num' r h _ _ _ =>
      have := (e.facts.2.1 (i, r) (by simp)).1
      exact absurd this (Nat.lt_irrefl i)
  | @put i ts num r e h0 h1 h2 ih =>
    intro b h
    generalize hT : ts ++ [(i, r)] = T at h
    cases h with
    | skip h =>
      subst hT
      have := (h.facts.2.1 (i, r) (by simp)).1
      exact absurd this (Nat.lt_irrefl i)
    | @put _ ts' num' r' h _ _ _ =>
      obtain ⟨e1, e2⟩ := List.append_inj' hT rfl
      have e3 : r = r' := by
        have := List.head_eq_of_cons_eq e2
        exact congrArg Prod.snd this
      subst e1
      subst e3
      rw [ih h]
end TS
namespace TS
/-! a column taken out, in the middle of its loop -/
def dim (f : Nat → Int) (h : Int) (j : Nat) : Nat → Int := fun k => if k ≤ j then f k else stp f h k
theorem dim_start {f : Nat → Int} {h : Int} {n : Nat} : tab (dim f h 0) (n + 1) = tab (stp f h) (n + 1) := by
  refine tab_congr fun k hk => ?_
  unfold dim
  by_cases c : k ≤ 0
  · rw [if_pos c, show k = 0 by omega]
    rfl
  · rw [if_neg c]
theorem dim_end {f : Nat → Int} {h : Int} {n t : Nat} (ht : (t : Int) = h ∨ n ≤ t) : tab (dim f h t) (n + 1) = tab f (n + 1) := by
  refine tab_congr fun k hk => ?_
  unfold dim
  by_cases c : k ≤ t
  · rw [if_pos c]
  · rw [if_neg c]
    rcases ht with e | e
    · exact stp_high (by omega) (by omega)
    · omega
theorem dim_turn {f : Nat → Int} {h : Int} {n j : Nat} (hj : (j : Int) < h) :
    (tab (dim f h j) (n + 1)).set (j + 1) (stp f h (j + 1) - f j * (h - j)) = tab (dim f h (j + 1)) (n + 1) := by
  rw [tab_set]
  refine tab_congr fun k hk => ?_
  show (if k = j + 1 then _ else dim f h j k) = dim f h (j + 1) k
  unfold dim
  by_cases e : k = j + 1
  · rw [if_pos e, if_pos (by omega), e, stp_succ, if_pos hj]
    omega
  · rw [if_neg e]
    by_cases c : k ≤ j
    · rw [if_pos c, if_pos (by omega)]
    · rw [if_neg c, if_neg (by omega)]
theorem dim_lo {f : Nat → Int} {h : Int} {j k : Nat} (hk : k ≤ j) : dim f h j k = f k := by
  unfold dim
  rw [if_pos hk]
theorem dim_hi {f : Nat → Int} {h : Int} {j k : Nat} (hk : j < k) : dim f h j k = stp f h k := by
  unfold dim
  rw [if_neg (by omega)]
/-! rows passed, one after another -/
def passR (T : List Int) (x : Int) : Int := T.foldl (fun x t => if t ≤ x then x + 1 else x) x
theorem passR_eq : ∀ (T : List Int) (x : Int), passR T x = rowAbove T x
  | [], _ => rfl
  | t :: T, x => by
    show passR T (if t ≤ x then x + 1 else x) = if t ≤ x then rowAbove T (x + 1) else rowAbove T x
    rw [passR_eq T]
    split <;> rfl
theorem passR_take {T : List Int} {i : Nat} {t : Int} (h : T[i]? = some t) (x : Int) : passR (T.take (i + 1)) x = if t ≤ passR (T.take i) x then passR (T.take i) x + 1 else passR (T.take i) x := by
  unfold passR
  rw [List.take_add_one, h, List.foldl_append]
  rfl
end TS
namespace TS
open PySem PySem.Spec PyProof.Rows L2
theorem ip_mulW {X : Cx} : PIp X .Mult (rI CMulW fun i j => .int (i * j)) := opI fun _ _ _ _ _ _ _ hc q => PyProof.Rows.imul_int q hc.ok
theorem rep_flat (v : V) : ∀ n : Nat, (List.replicate n [v]).flatten = List.replicate n v
  | 0 => rfl
  | n + 1 => by
    show [v] ++ (List.replicate n [v]).flatten = v :: List.replicate n v
    rw [rep_flat v n]
    rfl
end TS
namespace TS
open PySem PySem.Spec PyProof.Rows L2
/-! for i, x in enumerate(xs); the same in a comprehension; for x in reversed(xs) -/
theorem for_enum {K : PySem.W.Frag} {a : Addr} {xs : List V} {g : TG} {tb : TS} {D : Ends} {σ : L2.St} {H : Hp} (Wd : Nat → L2.St → Hp → Prop) (h0 : Wd 0 σ H) (hl : ∀ i σ H, i ≤ xs.length → Wd i σ H → SqL K H a xs)
    (hs : ∀ i x T σ H, xs[i]? = some x → Wd i σ H → H T = none → g (.ref T) σ (upd H T (.tup [.int (i : Nat), x])) fun σ9 H9 => tb { D with nx := Wd (i + 1), ct := Wd (i + 1), bk := D.nx } σ9 H9) (hd : ∀ σ H, Wd xs.length σ H → D.nx σ H) :
    ∃ Y : Nat → Nat → L2.St → Hp → Prop, (∃ m, Y 0 m σ H) ∧ ∀ i m σ H, Y i m σ H →
      ((Ite K a).stop i H ∧ D.nx σ H) ∨ ((Ite K a).go i H ∧ ∃ N : L2.St → Hp → Prop, (∀ σ' H', N σ' H' → ∃ m', m' < m ∧ Y (i + 1) m' σ' H') ∧ ∀ x H', (Ite K a).yld i H x H' → g x σ H' fun σ9 H9 => tb { D with nx := N, ct := N, bk := D.nx } σ9 H9) := by
  refine ⟨fun i m σ H => m = xs.length - i ∧ i ≤ xs.length ∧ Wd i σ H, ⟨xs.length, by simp, Nat.zero_le _, h0⟩, ?_⟩
  rintro i m σ H ⟨rfl, hi, held⟩
  have seen := hl i σ H hi held
  by_cases inside : i < xs.length
  · refine .inr ⟨⟨xs, xs[i], seen, by simp [inside]⟩, Wd (i + 1), fun σ' H' p' => ⟨xs.length - (i + 1), by omega, rfl, inside, p'⟩, fun v H' y => ?_⟩
    obtain ⟨T, x, rfl, nT, rfl, e⟩ := y
    exact hs i x T σ _ (e xs seen) held nT
  · have atEnd : i = xs.length := by omega
    subst atEnd
    exact .inl ⟨⟨xs, seen, Nat.le_refl _⟩, hd σ H held⟩
theorem lc_enum {K : PySem.W.Frag} {a : Addr} {xs : List V} {g : TG} {tt : TT} {te : TE} {vs : List Nat} {σ : L2.St} {H1 : Hp} {D : Addr} {Qd : Hp → Prop} (Wd : Nat → Hp → Prop) (h0 : Wd 0 (upd H1 D (.lst []))) (hl : ∀ i H, i ≤ xs.length → Wd i H → SqL K H a xs)
    (hs : ∀ i x T H, xs[i]? = some x → Wd i H → H T = none → g (.ref T) (wipe σ vs) (upd H T (.tup [.int (i : Nat), x])) fun σ9 H9 => wipe σ9 vs = wipe σ vs ∧ tt σ9 H9 fun b H8 =>
      if b = true then te σ9 H8 fun y H7 => ∃ made, H7 D = some (.lst made) ∧ made.length < sizeLine ∧ Wd (i + 1) (upd H7 D (.lst (made ++ [y]))) else Wd (i + 1) H8) (hd : ∀ H, Wd xs.length H → Qd H) :
    ∃ Y : Nat → Nat → Hp → Prop, (∃ m, Y 0 m (upd H1 D (.lst []))) ∧ ∀ i m H, Y i m H →
      ((Ite K a).stop i H ∧ Qd H) ∨ ((Ite K a).go i H ∧ ∃ Nw : Hp → Prop, (∀ H', Nw H' → ∃ m', m' < m ∧ Y (i + 1) m' H') ∧ ∀ x H', (Ite K a).yld i H x H' → g x (wipe σ vs) H' fun σ9 H9 => wipe σ9 vs = wipe σ vs ∧ tt σ9 H9 fun b H8 =>
        if b = true then te σ9 H8 fun y H7 => ∃ made, H7 D = some (.lst made) ∧ made.length < sizeLine ∧ Nw (upd H7 D (.lst (made ++ [y]))) else Nw H8) := by
  refine ⟨fun i m H => m = xs.length - i ∧ i ≤ xs.length ∧ Wd i H, ⟨xs.length, by simp, Nat.zero_le _, h0⟩, ?_⟩
  rintro i m H ⟨rfl, hi, held⟩
  have seen := hl i H hi held
  by_cases inside : i < xs.length
  · refine .inr ⟨⟨xs, xs[i], seen, by simp [inside]⟩, Wd (i + 1), fun H' p' => ⟨xs.length - (i + 1), by omega, rfl, inside, p'⟩, fun v H' y => ?_⟩
    obtain ⟨T, x, rfl, nT, rfl, e⟩ := y
    exact hs i x T _ (e xs seen) held nT
  · have atEnd : i = xs.length := by omega
    subst atEnd
    exact .inl ⟨⟨xs, seen, Nat.le_refl _⟩, hd H held⟩
theorem for_rev {K : PySem.W.Frag} {a : Addr} {xs : List V} {g : TG} {tb : TS} {D : Ends} {σ : L2.St} {H : Hp} (Wd : Nat → L2.St → Hp → Prop) (h0 : Wd 0 σ H) (hl : ∀ i σ H, i ≤ xs.length → Wd i σ H → SqL K H a xs)
    (hs : ∀ i x σ H, i < xs.length → xs[xs.length - 1 - i]? = some x → Wd i σ H → g x σ H fun σ9 H9 => tb { D with nx := Wd (i + 1), ct := Wd (i + 1), bk := D.nx } σ9 H9) (hd : ∀ σ H, Wd xs.length σ H → D.nx σ H) :
    ∃ Y : Nat → Nat → L2.St → Hp → Prop, (∃ m, Y 0 m σ H) ∧ ∀ i m σ H, Y i m σ H →
      ((Itv K a xs.length).stop i H ∧ D.nx σ H) ∨ ((Itv K a xs.length).go i H ∧ ∃ N : L2.St → Hp → Prop, (∀ σ' H', N σ' H' → ∃ m', m' < m ∧ Y (i + 1) m' σ' H') ∧ ∀ x H', (Itv K a xs.length).yld i H x H' → g x σ H' fun σ9 H9 => tb { D with nx := N, ct := N, bk := D.nx } σ9 H9) := by
  refine ⟨fun i m σ H => m = xs.length - i ∧ i ≤ xs.length ∧ Wd i σ H, ⟨xs.length, by simp, Nat.zero_le _, h0⟩, ?_⟩
  rintro i m σ H ⟨rfl, hi, held⟩
  have seen := hl i σ H hi held
  by_cases inside : i < xs.length
  · have back : xs.length - 1 - i < xs.length := by omega
    refine .inr ⟨⟨inside, xs, xs[xs.length - 1 - i], seen, by simp [back]⟩, Wd (i + 1), fun σ' H' p' => ⟨xs.length - (i + 1), by omega, rfl, inside, p'⟩, fun v H' y => ?_⟩
    obtain ⟨rfl, e⟩ := y
    exact hs i v σ _ inside (e xs seen) held
  · have atEnd : i = xs.length := by omega
    subst atEnd
    exact .inl ⟨Nat.le_refl _, hd σ H held⟩
/-! rules within a comprehension: the written part named -/
theorem ixLK {X : Cx} {K : PySem.W.Frag} (h : X.K = K := by rfl) : IxR X (rIxL K) := by
  subst h
  exact ix_list
theorem ixTK {X : Cx} {K : PySem.W.Frag} (h : X.K = K := by rfl) : IxR X (rIxT K) := by
  subst h
  exact ix_tup
theorem notInK {X : Cx} {K : PySem.W.Frag} (h : X.K = K := by rfl) : OpR X (compareOp .NotIn) (rIn K true) := by
  subst h
  exact op_notIn_seq
theorem isiK {X : Cx} {K : PySem.W.Frag} (h : X.K = K := by rfl) : CallR X (.builtin "isinstance") (rIsi K) := by
  subst h
  exact call_isi
def rLenK (K : PySem.W.Frag) : List V → Hp → VK → Prop := fun xs H Q => ∃ p ys, xs = [.ref p] ∧ (SqL K H p ys ∨ SqT K H p ys) ∧ Q (.int ys.length) H
theorem lenK {X : Cx} {K : PySem.W.Frag} (h : X.K = K := by rfl) : CallR X (.builtin "len") (rLenK K) := by
  subst h
  exact call_len_seq
end TS
namespace TS
open PySem PySem.Spec PyProof.Rows L2
theorem inV_ints (r : Int) (rows : List Int) : inV (.int r) (rows.map V.int) = rows.contains r := by
  unfold inV
  induction rows with
  | nil => rfl
  | cons x xs ih =>
    rw [List.map_cons, List.any_cons, ih, List.contains_cons]
    congr 1
    show (x == r) = (r == x)
    exact Bool.beq_comm
theorem flat_ints (rows : List Int) : (rows.map V.int).all flatV = true := by
  induction rows with
  | nil => rfl
  | cons x xs ih => rw [List.map_cons, List.all_cons, ih]; rfl
/-! lists of pairs -/
abbrev Prs : Type := List (Addr × Nat × Int)
abbrev refsT (ps : Prs) : List V := ps.map fun p => V.ref p.1
abbrev cellV (q : Nat × Int) : List V := [.int (q.1 : Int), .int q.2]
def Tps (H : Hp) (ps : Prs) : Prop := ∀ p ∈ ps, H p.1 = some (.tup (cellV p.2))
theorem Tps.same {H H' : Hp} {ps : Prs} (h : Tps H ps) (s : Same H H') : Tps H' ps := fun p hp => s _ _ (h p hp)
theorem Tps.lst {H : Hp} {ps : Prs} {a : Addr} {xs ys : List V} (h : Tps H ps) (ha : H a = some (.lst xs)) : Tps (upd H a (.lst ys)) ps := fun p hp => by
  rw [upd_ne (ne_of (h p hp) ha (by intro z; cases z))]
  exact h p hp
theorem Tps.app {H : Hp} {ps qs : Prs} (h : Tps H ps) (k : Tps H qs) : Tps H (ps ++ qs) := fun p hp => by
  rcases List.mem_append.mp hp with hp | hp
  · exact h p hp
  · exact k p hp
theorem Tps.one {H : Hp} {a : Addr} {q : Nat × Int} (h : H a = some (.tup (cellV q))) : Tps H [(a, q)] := fun p hp => by
  rw [List.mem_singleton.mp hp]
  exact h
theorem Tps.nil {H : Hp} : Tps H [] := fun p hp => by cases hp
def PL (H : Hp) (a : Addr) (ts : List (Nat × Int)) : Prop := ∃ ps : Prs, H a = some (.lst (refsT ps)) ∧ Tps H ps ∧ ps.map Prod.snd = ts
theorem PL.same {H H' : Hp} {a : Addr} {ts : List (Nat × Int)} (h : PL H a ts) (s : Same H H') : PL H' a ts := let ⟨ps, x, y, z⟩ := h; ⟨ps, s _ _ x, y.same s, z⟩
theorem refsT_app (ps qs : Prs) : refsT (ps ++ qs) = refsT ps ++ refsT qs := List.map_append
theorem refsT_at {ps : Prs} {i : Nat} {x : V} (h : (refsT ps)[i]? = some x) : ∃ a q, x = .ref a ∧ ps[i]? = some (a, q) := by
  rw [List.getElem?_map] at h
  cases e : ps[i]? with
  | none => rw [e] at h; cases h
  | some p => rw [e] at h; exact ⟨p.1, p.2, (Option.some.inj h).symm, rfl⟩
theorem refsT_get {ps : Prs} {i : Nat} {q : Nat × Int} (h : (ps.map Prod.snd)[i]? = some q) : ∃ a, ps[i]? = some (a, q) := by
  rw [List.getElem?_map] at h
  cases e : ps[i]? with
  | none => rw [e] at h; cases h
  | some p => rw [e] at h; exact ⟨p.1, by rw [← Option.some.inj h]⟩
theorem snd_at {ps : Prs} {i : Nat} {a : Addr} {q : Nat × Int} (h : ps[i]? = some (a, q)) : (ps.map Prod.snd)[i]? = some q := by
  rw [List.getElem?_map, h]
  rfl
/-- a tuple behind what was put in -/
theorem PL.add {H : Hp} {a t : Addr} {ts : List (Nat × Int)} {q : Nat × Int} {xs : List V} (h : PL H a ts) (ht : H t = some (.tup (cellV q))) (hx : H a = some (.lst xs)) : PL (upd H a (.lst (xs ++ [.ref t]))) a (ts ++ [q]) := by
  obtain ⟨ps, e1, e2, e3⟩ := h
  rw [hx] at e1
  have e4 : xs = refsT ps := by injection e1 with e; injection e
  refine ⟨ps ++ [(t, q)], ?_, (e2.app (Tps.one ht)).lst hx, by rw [List.map_append, e3]; rfl⟩
  rw [upd_same, e4, refsT_app]
  rfl
theorem PL.empty {H : Hp} {a : Addr} (h : H a = some (.lst [])) : PL H a [] := ⟨[], h, Tps.nil, rfl⟩
/-- all but what stands at one address -/
def SameX (a : Addr) (H H' : Hp) : Prop := ∀ b o, b ≠ a → H b = some o → H' b = some o
theorem SameX.of {a : Addr} {H H' : Hp} (h : Same H H') : SameX a H H' := fun b o _ e => h b o e
theorem SameX.trans {a : Addr} {H H1 H2 : Hp} (x : SameX a H H1) (y : SameX a H1 H2) : SameX a H H2 := fun b o n e => y b o n (x b o n e)
theorem SameX.put {a : Addr} {H H1 : Hp} {o : HO} (x : SameX a H H1) : SameX a H (upd H1 a o) := fun b u n e => by
  rw [upd_ne n]
  exact x b u n e
theorem SameX.same {a : Addr} {H0 H H' : Hp} (s : Same H0 H) (n : H0 a = none) (x : SameX a H H') : Same H0 H' := fun b o e => x b o (ne_of_none e n) (s b o e)
theorem SameX.mut {a p : Addr} {H H1 : Hp} {o : HO} (x : SameX a H H1) (n : H p = none) : SameX a H (upd H1 p o) := fun b u hb e => by
  rw [upd_ne (ne_of_none e n)]
  exact x b u hb e
end TS
namespace TS
open PySem PySem.Spec PyProof.Rows L2
/-! a set of ints made by a comprehension over anything that is walked, without ifs -/
abbrev setMore (w : World) (D : Addr) (S : Int → Bool) (n : Nat) (c : Int) : HO := SetO w D (fun j => S j || decide (j = c)) (if S c = true then n else n + 1)
def tSci (w : World) (wi : TI) (g : TG) (te : TE) (vs : List Nat) : TE := fun σ H Q => wi σ H fun J H1 => ∀ D, H1 D = none →
  ∃ Y : Nat → Nat → Hp → Prop, (∃ m, Y 0 m (upd H1 D (SetO w D (fun _ => false) 0))) ∧ ∀ i m Hi, Y i m Hi → (J.stop i Hi ∧ Q (.ref D) Hi) ∨
    (J.go i Hi ∧ ∃ Nw : Hp → Prop, (∀ Hn, Nw Hn → ∃ m', m' < m ∧ Y (i + 1) m' Hn) ∧ ∀ x Hx, J.yld i Hi x Hx → g x (wipe σ vs) Hx fun σt Ht => wipe σt vs = wipe σ vs ∧
      te σt Ht fun y He => ∃ (c : Int) (S : Int → Bool) (n : Nat), y = .int c ∧ He D = some (SetO w D S n) ∧ n + 1 < scanBound ∧ Nw (upd He D (setMore w D S n c)))
section
variable {X : Cx}
theorem put_in {pins : List (Addr × Obj)} {σ : L2.St} {H : Hp} {s : Shared} {E : Value → Shared → Prop} {D : Addr} {S : Int → Bool} {n : Nat} {c : Int} {v : Value} {Q : Value → Shared → Prop} (inv : Inv X pins σ H s)
    (at' : H D = some (SetO X.w D S n)) (room : n + 1 < scanBound) (rv : RelV (.int c) v) (k : ∀ s', Inv X pins σ (upd H D (setMore X.w D S n c)) s' → Q .none s') :
    wpAny (model X.prog X.w) X.A (call (.builtin "set.add") [.ref D, v]) Q E s := by
  obtain ⟨tk, rfl⟩ := rv
  refine setR_add (setO_get inv at') room fun hp sb made => ?_
  have there : ∃ u, hp.get? D = some u := let ⟨o, _, _, _, ho, _⟩ := made; ⟨o, ho⟩
  exact k _ (inv.write (e := D) (t' := s.toks + 1) (by rw [at']; trivial) (.inl rfl) (fun b u away hb => (sb.2 b away).trans hb) there (setO_new made))
theorem pe_sci {elt tg iter : Expr} {scope : Scope} {own : List (PySem.Str × Nat)} {pos : Pos} {wi : TI} {g : TG} {te : TE} (calm : X.calm = true) (nd : X.N.Nodup) (walks : PI X tg iter wi) (blk : BlkOk X.N X.env.scope scope own)
    (tgt : ∀ (s : Shared) (H : Hp) (C : Addr) (cl : List (PySem.Str × Addr)) (fp : List Addr), PG (X.blk s H scope (compEnvC scope cl C X.env) fp) tg g)
    (val : ∀ (s : Shared) (H : Hp) (C : Addr) (cl : List (PySem.Str × Addr)) (fp : List Addr), PE (X.blk s H scope (compEnvC scope cl C X.env) fp) elt te)
    (fold : ∀ x, foldedSetIterable iter X.env x = pure x := by intro _; rfl) : PE X (.SetComp elt [⟨tg, iter, [], 0⟩] scope pos) (tSci X.w wi g te (own.map (·.2))) := by
  refine ⟨fun pins s σ H Q inv want => ?_⟩
  rw [PpSet.eval_SetComp]
  have caught : ∀ y ∈ scope.names, y.2 = .free → ∃ c, X.env.cells.lookup y.1 = some c := fun y hy e => (blk.free y hy e).elim (fun z => inv.ok.has _ (.inl z)) (fun z => inv.ok.has _ (.inr z))
  refine wpAny_comprehension_free (use := none) rfl fold (closure_ok caught) blk.kind (fun y hy e => (blk.uniq y hy).trans (by rw [e])) (thn (walks.run pins s σ H _ inv want) fun _ sa wa => thn wa fun _ sb wb => ?_)
  obtain ⟨it, fp, tn, J, Hb, rfl, Ib, turns, st0, apart, goes⟩ := wb
  refine PpSet.newSet_ok (newEnv_comp ?_)
  -- the new set
  obtain ⟨D, eD⟩ : ∃ D, D = sb.heap.objs.size := ⟨_, rfl⟩
  obtain ⟨o0, eo⟩ : ∃ o0 : Obj, o0 = { cls := .type "set", dict := none, data := .set #[] 0 (.fresh 0 0 (!X.w.params.followText "set-order")) } := ⟨_, rfl⟩
  rw [← eD, ← eo]
  have newD : Hb D = none := Ib.hok.fresh (Nat.le_of_eq eD.symm)
  obtain ⟨Y, ⟨m0, y0⟩, each⟩ := goes D newD
  obtain ⟨sc, esc⟩ : ∃ sc : Shared, sc = { sb with heap := sb.heap.push o0 } := ⟨_, rfl⟩
  have hpc : sc.heap = sb.heap.push o0 := by rw [esc]
  have Ic : Inv X pins σ (upd Hb D (SetO X.w D (fun _ => false) 0)) sc := by
    rw [esc]
    refine Ib.laid (t' := sb.toks) (fun b o e => Heap.get?_push_of_some _ e) (Nat.le_of_eq eD.symm) ?_
    rw [eD, eo]
    exact setO_new (setR_fresh X.w)
  have fpLt : ∀ b ∈ fp, b < sb.heap.objs.size := fun b hb => let ⟨o, e, _⟩ := turns.obj _ _ st0 b hb; Heap.lt_size e
  obtain ⟨Hc, eHc⟩ : ∃ Hc, Hc = upd Hb D (SetO X.w D (fun _ => false) 0) := ⟨_, rfl⟩
  rw [← eHc] at Ic y0
  have away : ∀ b ∈ fp, FpOk X pins Hc b ∧ b < sc.heap.objs.size := fun b hb => by
    have lt := fpLt b hb
    have ne : b ≠ D := by rw [eD]; exact Nat.ne_of_lt lt
    have q := apart b hb
    exact ⟨⟨by rw [eHc, upd_ne ne]; exact q.1, q.2⟩, by rw [hpc, Heap.size_push]; exact Nat.lt_succ_of_lt lt⟩
  have st1 : tn 0 sc.heap := turns.keep _ _ _ st0 fun b _ o e => by rw [hpc]; exact Heap.get?_push_of_some _ e
  -- the block's context
  have Id := block_start Ic blk nd away
  obtain ⟨env1, eE⟩ : ∃ e, e = compEnvC scope (cellsFrom (sc.heap.objs.size + 1) scope.names (cloFrom X.env.cells scope.names [])) sc.heap.objs.size X.env := ⟨_, rfl⟩
  have locE : env1.locals = sc.heap.objs.size := by rw [eE]; rfl
  have PGt := tgt sc Hc sc.heap.objs.size (cellsFrom (sc.heap.objs.size + 1) scope.names (cloFrom X.env.cells scope.names [])) fp
  have PEv := val sc Hc sc.heap.objs.size (cellsFrom (sc.heap.objs.size + 1) scope.names (cloFrom X.env.cells scope.names [])) fp
  rw [← eE] at Id PGt PEv
  obtain ⟨sd, esd⟩ : ∃ sd : Shared, sd = { sc with heap := pushCells (sc.heap.push { cls := .type "dict", data := .dict #[] }) scope.names } := ⟨_, rfl⟩
  rw [← esd] at Id
  have st2 : tn 0 sd.heap := turns.keep _ _ _ st1 fun b _ o e => by rw [esd]; exact pushCells_keeps _ _ _ _ (Heap.get?_push_of_some _ e)
  have noFp : ∀ b ∈ fp, Hc b = none := fun b hb => (away b hb).1.1
  obtain ⟨Z, eZ⟩ : ∃ Z, Z = X.blk sc Hc scope env1 fp := ⟨_, rfl⟩
  have still : ∀ {σ' : L2.St} {H' : Hp} {s' : Shared}, Inv (X.blk sc Hc scope env1 fp) [] σ' H' s' → (∀ b ∈ fp, H' b = none) → ∀ b ∈ fp, FpOk (X.blk sc Hc scope env1 fp) [] H' b := fun {σ' H' s'} inv' no b hb =>
    ⟨no b hb, (inv'.ok.exf b hb).1, inv'.ok.exfs b hb, .inl hb, fun x c e => (inv'.ok.exf b hb).2 x c e, fun p hp => absurd (show p ∈ ([] : List (Addr × Obj)) ++ [] from hp) (by simp)⟩
  have ends : ∀ {s' : Shared} {H' : Hp}, Inv X pins σ H' s' → Q (.ref D) H' → (∃ m, s'.heap.Ns sc.heap.objs.size m) → FpOk X pins H' sc.heap.objs.size →
      compPost (model X.prog X.w) X.A X.xe none (EP X pins σ Q) (.ref D) sc.heap.objs.size (.ok .next) s' := fun {s' H'} inv' q ⟨m, hn⟩ f => by
    refine ⟨m, hn, fun h2 sb2 => ?_⟩
    obtain ⟨a0, a1, a2, a3, a4, a5⟩ := f
    exact ⟨.ref D, H', inv'.turned (t' := s'.toks) (fun b o hb e => (sb2.2 b hb).trans e) a0 a1 a3 a4 a5, rfl, q⟩
  have run : codeAny (model X.prog X.w) X.A (.compLoop (.SetComp elt [⟨tg, iter, [], 0⟩] scope pos) 0 (.ref it) (.ref D) env1) (compPost (model X.prog X.w) X.A X.xe none (EP X pins σ Q) (.ref D) sc.heap.objs.size) sd := by
    refine PpSet.compLoopS_any (fun left s' => ∃ i H', Inv (X.blk sc Hc scope env1 fp) [] (wipe σ (own.map (·.2))) H' s' ∧ tn i s'.heap ∧ (∀ b ∈ fp, H' b = none) ∧ Y i left H') ?_ m0 ⟨0, Hc, Id, st2, noFp, y0⟩
    rintro left s5 ⟨i, H5, I5, st5, no5, y5⟩
    rcases each i left H5 y5 with ⟨stop, done⟩ | ⟨go, Nw, less, step⟩
    · refine thnF (turns.done (X.blk sc Hc scope env1 fp) rfl rfl rfl calm i [] s5 _ H5 (fun _ _ => False) I5 (still I5 no5) st5 stop) fun r s6 ⟨er, I6⟩ => ?_
      subst er
      have I7 : Inv X pins σ H5 s6 := Ic.call' (ch := fp) I6.os I6.base I6.hok I6.bare fun b hb => let z := (away b hb).1.2; ⟨z.2.2.1, z.1, z.2.2.2.1, z.2.2.2.2⟩
      have noC : H5 sc.heap.objs.size = none := by
        have z : H5 env1.locals = none := I6.free
        rw [locE] at z
        exact z
      obtain ⟨m, hn, _⟩ := I6.loc
      have hn' : s6.heap.Ns env1.locals m := hn
      rw [locE] at hn'
      exact ends I7 done ⟨m, hn'⟩ (Ic.fpOk (Nat.le_refl _) noC)
    · refine thnF (turns.item (X.blk sc Hc scope env1 fp) rfl rfl rfl calm i [] s5 _ H5 (fun _ _ => False) I5 (still I5 no5) st5 go) fun r s6 ⟨u, er, h6⟩ => ?_
      subst er
      refine thnF h6 fun _ s7 ⟨x, H7, I7, r7, y7, st7, no7⟩ => ?_
      refine thnF (PGt.run _ s7 _ H7 x u _ (I7.pinned (still I7 no7) (turns.obj _ _ st7)) r7 (step x H7 y7)) fun _ s8 ⟨σ8, H8, I8, eσ, q8⟩ => ?_
      refine thnF (wpAny_tests_nil (Q := fun b s' => b = true ∧ s' = s8) ⟨rfl, rfl⟩) fun b s9 ⟨eb, e9⟩ => ?_
      subst eb e9
      simp only [if_true]
      refine thnF (PEv.run _ s9 σ8 H8 _ I8 q8) fun z s10 ⟨yv, H10, I10, r10, c, S, n, ey, hD, room, nx⟩ => ?_
      subst ey
      refine put_in (X := X.blk sc Hc scope env1 fp) I10 hD room r10 fun s11 I11 => ?_
      obtain ⟨m', lt, y'⟩ := less _ nx
      have kept : ∀ b ∈ fp, ∀ o, s7.heap.get? b = some o → s11.heap.get? b = some o ∧ upd H10 D (setMore X.w D S n c) b = none := fun b hb o e =>
        let z := I11.pin (b, o) (List.mem_append_right _ (List.mem_append_right _ (mem_pinsAt hb e)))
        ⟨z.1, z.2.1⟩
      refine ⟨m', lt, i + 1, _, (I11.unpinned (pins := [])).weak (by rw [← eσ, wipe_length]) (fun j v e => ?_), turns.keep _ _ _ st7 fun b hb o e => (kept b hb o e).1, fun b hb => ?_, y'⟩
      · rw [← eσ] at e
        exact (wipe_some e).1
      · obtain ⟨o, e, _⟩ := turns.obj _ _ st7 b hb
        exact (kept b hb o e).2
  have fin := PpSet.codeAny_compStart_set run (turns.self X.A 0 _ _ _ st2 run)
  subst esd
  subst eE
  subst esc
  exact fin
end
end TS
namespace TS
open PySem PySem.Spec PyProof.Rows L2
theorem sci_list {w : World} {K : PySem.W.Frag} {a : Addr} {xs : List V} {g : TG} {te : TE} {vs : List Nat} {σ : L2.St} {H1 : Hp} {D : Addr} {Qd : Hp → Prop} (Wd : Nat → Hp → Prop) (start : Wd 0 (upd H1 D (SetO w D (fun _ => false) 0)))
    (there : ∀ i H, i ≤ xs.length → Wd i H → SqL K H a xs)
    (turn : ∀ i x H, xs[i]? = some x → Wd i H → g x (wipe σ vs) H fun σt Ht => wipe σt vs = wipe σ vs ∧ te σt Ht fun y He => ∃ (c : Int) (S : Int → Bool) (n : Nat), y = .int c ∧ He D = some (SetO w D S n) ∧ n + 1 < scanBound ∧ Wd (i + 1) (upd He D (setMore w D S n c)))
    (fin : ∀ H, Wd xs.length H → Qd H) :
    ∃ Y : Nat → Nat → Hp → Prop, (∃ m, Y 0 m (upd H1 D (SetO w D (fun _ => false) 0))) ∧ ∀ i m Hi, Y i m Hi → ((Itl K a).stop i Hi ∧ Qd Hi) ∨
      ((Itl K a).go i Hi ∧ ∃ Nw : Hp → Prop, (∀ Hn, Nw Hn → ∃ m', m' < m ∧ Y (i + 1) m' Hn) ∧ ∀ x Hx, (Itl K a).yld i Hi x Hx → g x (wipe σ vs) Hx fun σt Ht => wipe σt vs = wipe σ vs ∧
        te σt Ht fun y He => ∃ (c : Int) (S : Int → Bool) (n : Nat), y = .int c ∧ He D = some (SetO w D S n) ∧ n + 1 < scanBound ∧ Nw (upd He D (setMore w D S n c))) := by
  refine ⟨fun i m H => m + i = xs.length ∧ Wd i H, ⟨xs.length, by omega, start⟩, ?_⟩
  rintro i m H ⟨em, word⟩
  have seen := there i H (by omega) word
  by_cases inside : i < xs.length
  · refine .inr ⟨⟨xs, xs[i], seen, List.getElem?_eq_getElem inside⟩, Wd (i + 1), fun Hn nw => ⟨m - 1, by omega, by omega, nw⟩, fun x Hx y => ?_⟩
    obtain ⟨eH, ex⟩ := y
    subst eH
    exact turn i x _ (ex xs seen) word
  · have at' : i = xs.length := by omega
    rw [at'] at word ⊢
    exact .inl ⟨⟨xs, seen, Nat.le_refl _⟩, fin H word⟩
/-- len of a set of ints -/
def rLenSet (w : World) : List V → Hp → VK → Prop := fun xs H Q => ∃ (a : Addr) (S : Int → Bool) (n : Nat), xs = [V.ref a] ∧ H a = some (SetO w a S n) ∧ Q (.int (n : Int)) H
theorem cr_lenSet {X : Cx} : CallR X (.builtin "len") (rLenSet X.w) := by
  intro pins s σ H xs us Q inv r h
  obtain ⟨a, S, n, rfl, ha, q⟩ := h
  cases r with
  | cons r rr =>
    cases rr
    cases r
    obtain ⟨o, es, ep, t, ho, hex, hd, _, _, _, lt, hf, hn, _⟩ := setO_get inv ha
    have b : ((es.size : Nat) : Int) < 2 ^ 63 := by
      unfold scanBound at lt
      omega
    exact call_len_set ho hex hd hf b ⟨.int n, H, inv.tok _, ⟨_, by rw [hn]⟩, q⟩
end TS
namespace TS
open PySem PySem.Spec PyProof.Rows L2
section
variable {P : Program} {w : World} {K : PySem.W.Frag} {mg : Str → Option Value} {base : Heap}
def spCellAt (K : PySem.W.Frag) : Sp := fun vs H Q _ => ∃ (a : Addr) (ns : List Int) (k : Nat), vs = [.ref a, .int (k : Int)] ∧ IL K H a ns ∧ Q (.int (ns.getD k 0)) H
theorem ok_l_cell_at {f : Addr} {fd : FuncData} {n : Nat} (B : Bl mg) (F : Fun K "_law_cell_at" "_law_cell_at" s_l_cell_at f fd) : FnOk P w K mg base CX0 (n + 1) f fd ["_law_script", "_law_k"] (spCellAt K) := by
  refine F.ok sc_l_cell_at (fun vs H Q E h => ?_) (fun cdv A outer s H vs Q E hr h => ?_)
  · obtain ⟨a, ns, k, rfl, _⟩ := h
    rfl
  · obtain ⟨a, ns, k, rfl, hS, q⟩ := h
    refine ⟨_, (pss_cons (ps_if (pt_cmpR op_lt (pv 1) (pe_callB call_len_seq (by rfl) B.len PySem.boot_len (pa_cons (pv 0) pa_nil)) (nomark _))
  (pss_one (ps_ret (pe_ix ix_list (pv 0) (pv 1) (fun _ _ => rfl))))
  pss_nil)
 (pss_one (ps_ret pe_int))), ?_⟩
    refine ⟨_, rfl, _, rfl, a, _, rfl, .inl hS, _, _, rfl, rfl, _, rfl, ite2 (fun c => ?_) (fun c => ?_)⟩
    · have hk : k < ns.length := by
        have c' := of_decide_eq_true c
        rw [List.length_map] at c'
        omega
      exact ⟨_, rfl, _, rfl, a, _, _, _, rfl, rfl, hS, atI_nat (mapI_at (getD_at hk)), q⟩
    · have hk : ¬ k < ns.length := fun z => c (decide_eq_true (by rw [List.length_map]; omega))
      have e : ns.getD k 0 = 0 := by
        rw [List.getD_eq_getElem?_getD, List.getElem?_eq_none (by omega)]
        rfl
      rw [e] at q
      exact q
/-! drawn numbers -/
def primes : List Int := [1000003, 1000033, 1000037, 1000039, 1000081, 1000099, 1000117, 1000121, 1000133, 1000151, 1000159, 1000171, 1000183, 1000187, 1000193, 1000199]
def draw (c : Int) (k : Nat) (m : Int) : Int := (c * 48271 + (k : Int) * 69621) % primes.getD (k % 16) 1 % m
theorem draw_nonneg {c : Int} {k : Nat} {m : Int} (h : 0 < m) : 0 ≤ draw c k m := Int.emod_nonneg _ (by omega)
theorem draw_lt {c : Int} {k : Nat} {m : Int} (h : 0 < m) : draw c k m < m := Int.emod_lt_of_pos _ h
theorem primes_pos {j : Nat} (h : j < 16) : 0 < primes.getD j 1 := by
  have q : ∀ j : Fin 16, 0 < primes.getD j.val 1 := by decide +kernel
  exact q ⟨j, h⟩
def spDraw : Sp := fun vs H Q _ => ∃ (c m : Int) (k : Nat), vs = [.int c, .int (k : Int), .int m] ∧ 0 < m ∧ k < 1000000 ∧ ∀ H', Same H H' → Q (.int (draw c k m)) H'
theorem ok_l_draw {f : Addr} {fd : FuncData} {n : Nat} (B : Bl mg) (F : Fun K "_law_draw" "_law_draw" s_l_draw f fd) : FnOk P w K mg base CX0 (n + 1) f fd ["_law_cell", "_law_k", "_law_many"] spDraw := by
  refine F.ok sc_l_draw (fun vs H Q E h => ?_) (fun cdv A outer s H vs Q E hr h => ?_)
  · obtain ⟨c, m, k, rfl, _⟩ := h
    rfl
  · obtain ⟨c, m, k, rfl, hm, hk, q⟩ := h
    refine ⟨_, (pss_cons (ps_set (i := 3) sc_l_draw.nd rfl (.inl rfl) (pe_tup (pa_cons pe_int (pa_cons pe_int (pa_cons pe_int (pa_cons pe_int (pa_cons pe_int (pa_cons pe_int (pa_cons pe_int (pa_cons pe_int (pa_cons pe_int (pa_cons pe_int (pa_cons pe_int (pa_cons pe_int (pa_cons pe_int (pa_cons pe_int (pa_cons pe_int (pa_cons pe_int pa_nil))))))))))))))))))
 (pss_one (ps_ret (pe_op op_mod (pe_op op_mod (pe_op op_add (pe_op op_mul (pv 0) pe_int) (pe_op op_mul (pv 1) pe_int)) (pe_ix ix_tup (pv 3) (pe_op op_mod (pv 1) pe_int) (fun _ _ => rfl))) (pv 2))))), ?_⟩
    refine ⟨by show 16 ≤ sizeLine; decide, fun t ht => ?_⟩
    have hj : k % 16 < 16 := Nat.mod_lt _ (by decide)
    have ht2 : SqT K (upd H t (.tup (primes.map V.int))) t (primes.map V.int) := SqT.of upd_same
    have hat : atI (primes.map V.int) ((k : Int) % 16) = some (.int (primes.getD (k % 16) 1)) := by
      have e : ((k : Int) % 16) = ((k % 16 : Nat) : Int) := by omega
      rw [e]
      refine atI_nat (mapI_at ?_)
      rw [List.getD_eq_getElem?_getD, List.getElem?_eq_getElem (show k % 16 < primes.length from hj)]
      rfl
    refine ⟨_, rfl, _, _, rfl, rfl, .inr ⟨by decide, by decide⟩, _, rfl, _, _, rfl, rfl, .inr ⟨by decide, by decide⟩, _, _, rfl, rfl, _, rfl, _, rfl, _, _, rfl, rfl, (by show (0 : Int) < 16; decide), _, _, _, _, rfl, rfl, ht2, hat, _, _, rfl, rfl, primes_pos hj, _, rfl, _, _, rfl, rfl, hm, ?_⟩
    exact q _ (same_upd ht)
end
end TS
namespace TS
open PySem PySem.Spec PyProof.Rows L2
section
variable {P : Program} {w : World} {K : PySem.W.Frag} {mg : Str → Option Value} {base : Heap}
def spNoCols : Sp := fun vs H Q _ => ∃ n : Nat, vs = [.int (n : Int)] ∧ n ≤ 1000 ∧ ∀ H' p, Same H H' → H p = none → H' p = some (.lst ((tab f0 (n + 1)).map V.int)) → Q (.ref p) H'
theorem ok_ways_without_columns {f : Addr} {fd : FuncData} {n : Nat} (B : Bl mg) (F : Fun K "ways_without_columns" "ways_without_columns" s_ways_without_columns f fd) : FnOk P w K mg base CX0 (n + 1) f fd ["most"] spNoCols := by
  refine F.ok sc_ways_without_columns (fun vs H Q E h => ?_) (fun cdv A outer s H vs Q E hr h => ?_)
  · obtain ⟨n, rfl, _⟩ := h
    rfl
  · obtain ⟨n, rfl, hn, q⟩ := h
    refine ⟨_, (pss_one (ps_ret (pe_op op_cat (pe_lst (pa_cons pe_int pa_nil)) (pe_op op_rep (pe_lst (pa_cons pe_int pa_nil)) (pv 0))))), ?_⟩
    refine ⟨by show 1 ≤ sizeLine; decide, fun p1 n1 => ⟨by show 1 ≤ sizeLine; decide, fun p2 n2 => ?_⟩⟩
    have n21 : p1 ≠ p2 := ne_of_none upd_same n2
    refine ⟨_, rfl, p2, _, _, rfl, rfl, upd_same, by omega, by omega, ?_, fun p3 n3 => ?_⟩
    · show 1 * (n : Int).toNat ≤ sizeLine
      exact sz63 (by omega)
    have n32 : p2 ≠ p3 := ne_of_none upd_same n3
    have n31 : p1 ≠ p3 := ne_of_none (by rw [upd_ne n21]; exact upd_same) n3
    rw [rep_flat, Int.toNat_natCast]
    refine ⟨p1, p3, _, _, rfl, rfl, by rw [upd_ne n31, upd_ne n21]; exact upd_same, upd_same, ?_, fun p4 n4 => ?_⟩
    · show 1 + (List.replicate n (V.int 0)).length ≤ sizeLine
      rw [List.length_replicate]
      exact sz63 (by omega)
    refine q _ p4 ((same_upd n1).trans ((same_upd n2).trans ((same_upd n3).trans (same_upd n4)))) ?_ ?_
    · exact (((same_upd n1).trans ((same_upd n2).trans (same_upd n3)))).free n4
    · rw [upd_same, tab_f0, List.map_cons, List.map_replicate]
      rfl
def spAddCol : Sp := fun vs H Q _ => ∃ (a : Addr) (h : Int) (n e : Nat) (g : Nat → Int), vs = [.ref a, .int h] ∧ H a = some (.lst ((tab g (n + 1)).map V.int)) ∧ n ≤ 1000 ∧ 0 ≤ h ∧ h.natAbs < 2 ^ 209 ∧ 0 < e ∧ e ≤ 900000 ∧ (∀ k, (g k).natAbs < 2 ^ e) ∧
  Q .non (upd H a (.lst ((tab (stp g h) (n + 1)).map V.int)))
theorem ok_add_column {f : Addr} {fd : FuncData} {m : Nat} (B : Bl mg) (F : Fun K "add_column" "add_column" s_add_column f fd) : FnOk P w K mg base CX0 (m + 1) f fd ["ways", "height"] spAddCol := by
  refine F.ok sc_add_column (fun vs H Q E h => ?_) (fun cdv A outer s H vs Q E hr h => ?_)
  · obtain ⟨a, h, n, e, g, rfl, _⟩ := h
    rfl
  · obtain ⟨a, h, n, e, g, rfl, hA, hn, h0, hb, he0, he, hg, q⟩ := h
    refine ⟨_, (pss_one (ps_for PassesOwn.never rfl (pi_range3 rfl B.range (pa_cons (pe_callB (call_min2 rfl) (by rfl) B.min (by decide +kernel) (pa_cons (pe_op op_sub (pe_callB call_len_seq (by rfl) B.len PySem.boot_len (pa_cons (pv 0) pa_nil)) pe_int) (pa_cons (pv 1) pa_nil))) (pa_cons pe_int (pa_cons (pe_un un_neg pe_int) pa_nil)))) (pg_name (i := 2) sc_add_column.nd rfl (.inl rfl))
  (pss_one (ps_augS (pv 0) (pv 2) get_list (pe_op op_mulW (pe_ix ix_list (pv 0) (pe_op op_sub (pv 2) pe_int) (fun _ _ => rfl)) (pe_op op_add (pe_op op_sub (pv 1) (pv 2)) pe_int)) ip_add set_list)))), ?_⟩
    have hA' : SqL K H a ((tab g (n + 1)).map V.int) := .inl (.inl hA)
    obtain ⟨t, ht, ht2, ht3⟩ : ∃ t : Nat, (if h < (n : Int) then h else (n : Int)) = (t : Int) ∧ ((t : Int) = h ∨ n ≤ t) ∧ ((t : Int) ≤ h ∧ t ≤ n) := by
      by_cases c : h < (n : Int)
      · exact ⟨h.toNat, by rw [if_pos c]; omega, by omega, by omega, by omega⟩
      · exact ⟨n, by rw [if_neg c], by omega, by omega, by omega⟩
    have hlen : (((tab g (n + 1)).map V.int).length : Int) - 1 = (n : Int) := by
      rw [List.length_map, tab_len]
      omega
    refine ⟨_, rfl, a, _, rfl, .inl hA', _, _, rfl, rfl, _, rfl, _, _, rfl, ?_⟩
    rw [hlen, ht]
    refine ⟨_, rfl, _, _, _, _, rfl, RgC.neg (by omega) (by omega) (by omega) (by omega), for_rangeC (fun i σ H' => ∃ v, σ = [some (.ref a), some (.int h), v] ∧ H' = upd H a (.lst ((tab (mid g h t i) (n + 1)).map V.int)))
      ⟨none, rfl, by rw [mid_start ht2, upd_id hA]⟩ ?_ ?_⟩
    · rintro i σ H' hi ⟨v, rfl, rfl⟩
      have hi' : i < t := by omega
      obtain ⟨k, hk⟩ : ∃ k, k + 1 = t - i := ⟨t - i - 1, by omega⟩
      have ev : (t : Int) + (i : Int) * (-1) = ((k + 1 : Nat) : Int) := by omega
      have hS : SqL K (upd H a (.lst ((tab (mid g h t i) (n + 1)).map V.int))) a ((tab (mid g h t i) (n + 1)).map V.int) := SqL.of upd_same
      have g1 : ((tab (mid g h t i) (n + 1)).map V.int)[k + 1]? = some (.int (g (k + 1))) := by
        refine mapI_at ?_
        rw [tab_get (by omega), mid_at (by omega)]
      have g0 : ((tab (mid g h t i) (n + 1)).map V.int)[k]? = some (.int (g k)) := by
        refine mapI_at ?_
        rw [tab_get (by omega), mid_at (by omega)]
      rw [ev]
      refine ⟨_, rfl, _, rfl, a, _, _, _, rfl, rfl, hS, atI_nat g1, _, rfl, _, rfl, _, _, rfl, rfl, a, _, _, _, rfl, rfl, hS, at_of (by show ((k + 1 : Nat) : Int) - 1 = (k : Int); omega) g0, _, rfl, _, rfl, _, _, rfl, rfl, _, _, rfl, rfl, _, _, rfl, rfl, ?_, _, _, rfl, rfl, a, _, _, k + 1, rfl, rfl, upd_same, ?_, ?_⟩
      · refine wide_mul (hg k) (b := 210) ?_ he0 (by omega) (by omega)
        have : (2 : Nat) ^ 210 = 2 ^ 209 * 2 := rfl
        omega
      · unfold ixN
        rw [List.length_map, tab_len, if_pos (by omega), if_pos (by omega), Int.toNat_natCast]
      · refine ⟨_, rfl, ?_⟩
        rw [upd_upd, ← mid_turn ht3.1 hi' hk, List.map_set]
        rw [show h - ((k + 1 : Nat) : Int) + 1 = h - (k : Int) by omega]
    · rintro σ H' ⟨v, rfl, rfl⟩
      rw [show ((t : Int) - 0).toNat = t by omega, mid_end]
      exact q
end
end TS
namespace TS
open PySem PySem.Spec PyProof.Rows L2
/-- heights that are not too high, not too many -/
structure Good (hs : List Int) : Prop where
  rise : Rise hs
  pos : Pos0 hs
  low : ∀ x ∈ hs, x + 1 ≤ 2 ^ 208
  len : hs.length ≤ 100
theorem Good.b {hs : List Int} (g : Good hs) : ∀ x ∈ hs, 0 ≤ x ∧ x + 1 ≤ 2 ^ 208 := fun x hx => ⟨g.pos x hx, g.low x hx⟩
theorem cnt_take {hs : List Int} (g : Good hs) (i k : Nat) : (cntF (hs.take i) k).natAbs < 2 ^ (208 * 100 + 1) := by
  have q := cnt_abs (hs := hs.take i) (fun x hx => g.b x (List.mem_of_mem_take hx)) k
  refine pow_up q ?_
  have := g.len
  rw [List.length_take]
  omega
section
variable {P : Program} {w : World} {K : PySem.W.Frag} {mg : Str → Option Value} {base : Heap}
def spUpTo (K : PySem.W.Frag) : Sp := fun vs H Q _ => ∃ (a : Addr) (hs : List Int) (n : Nat), vs = [.ref a, .int (n : Int)] ∧ IL K H a hs ∧ Good hs ∧ n ≤ 1000 ∧
  ∀ H' p, Same H H' → H p = none → H' p = some (.lst ((tab (cntF hs) (n + 1)).map V.int)) → Q (.ref p) H'
theorem ok_ways_up_to {f fW fA : Addr} {fd fdW fdA : FuncData} {m : Nat} (B : Bl mg) (Dways_without_columns : Df P w K mg base "ways_without_columns" (m + 1) ["most"] spNoCols fW fdW) (Dadd_column : Df P w K mg base "add_column" (m + 1) ["ways", "height"] spAddCol fA fdA)
    (F : Fun K "ways_up_to" "ways_up_to" s_ways_up_to f fd) : FnOk P w K mg base CX0 (m + 1 + 1) f fd ["stairs", "most"] (spUpTo K) := by
  refine F.ok sc_ways_up_to (fun vs H Q E h => ?_) (fun cdv A outer s H vs Q E hr h => ?_)
  · obtain ⟨a, hs, n, rfl, _⟩ := h
    rfl
  · obtain ⟨a, hs, n, rfl, hS, G, hn, q⟩ := h
    refine ⟨_, (pss_cons (ps_set (i := 2) sc_ways_up_to.nd rfl (.inl rfl) (pe_call Dways_without_columns.ok (hr.mono (Nat.le_refl _)) (by rfl) Dways_without_columns.g Dways_without_columns.kp Dways_without_columns.b .nil pass0 (pa_cons (pv 1) pa_nil)))
 (pss_cons (ps_for PassesOwn.never rfl (pi_list (pv 0)) (pg_name (i := 3) sc_ways_up_to.nd rfl (.inl rfl))
  (pss_one (ps_expr (pe_call Dadd_column.ok (hr.mono (Nat.le_refl _)) (by rfl) Dadd_column.g Dadd_column.kp Dadd_column.b .nil pass0 (pa_cons (pv 2) (pa_cons (pv 3) pa_nil))))))
 (pss_one (ps_ret (pv 2))))), ?_⟩
    refine ⟨_, rfl, n, rfl, hn, fun H1 p s1 np hp => ?_⟩
    have st : ∀ o : HO, SqL K (upd H1 p o) a (hs.map V.int) := fun o => (same_mut s1 np).seq hS
    refine ⟨_, rfl, a, rfl, ⟨_, s1.seq hS⟩, for_list (K := K) (a := a) (xs := hs.map V.int) (fun i σ H' => ∃ v, σ = [some (.ref a), some (.int (n : Int)), some (.ref p), v] ∧ H' = upd H1 p (.lst ((tab (cntF (hs.take i)) (n + 1)).map V.int)))
      ⟨none, rfl, (upd_id hp).symm⟩ (fun i σ H' _ ⟨_, _, e⟩ => by rw [e]; exact st _) ?_ ?_⟩
    · rintro i x σ H' hi ⟨v, rfl, rfl⟩
      obtain ⟨h, rfl, hh⟩ := mapI_get hi
      have hm : h ∈ hs := List.mem_of_getElem? hh
      have b := G.b h hm
      refine ⟨_, rfl, _, rfl, p, h, n, 208 * 100 + 1, cntF (hs.take i), rfl, upd_same, hn, b.1, ?_, by decide, by decide, cnt_take G i, ?_⟩
      · have : (2 : Int) ^ 208 = ((2 ^ 208 : Nat) : Int) := rfl
        have h2 : (2 : Nat) ^ 209 = 2 ^ 208 * 2 := rfl
        omega
      · refine ⟨some (.int h), rfl, ?_⟩
        rw [upd_upd, cntF_take hh]
    · rintro σ H' ⟨v, rfl, rfl⟩
      rw [List.length_map, List.take_length]
      exact ⟨_, rfl, q _ p (same_mut s1 np) np upd_same⟩
end
end TS
namespace TS
open PySem PySem.Spec PyProof.Rows L2
theorem cut_to (xs : List V) (n : Nat) : cutV xs none (some (n : Int)) = xs.take n := by
  unfold cutV
  rw [HT.sIx_none, HT.sIx_nat, Nat.sub_zero]
  show (List.drop 0 xs).take (min n xs.length) = xs.take n
  rw [List.drop_zero, List.take_eq_take_iff]
  omega
theorem Good.of {n : Nat} {hs : List Int} (g : GoodS n hs) : Good hs := by
  have b : (10 : Int) ^ 59 + 1 ≤ 2 ^ 208 := by decide
  refine ⟨g.rise, g.pos, fun x hx => ?_, ?_⟩
  · have := g.low x hx
    omega
  · have := g.len
    omega
section
variable {P : Program} {w : World} {K : PySem.W.Frag} {mg : Str → Option Value} {base : Heap}
def spStairs (K : PySem.W.Frag) : Sp := fun vs H Q _ => ∃ (a : Addr) (ns : List Int), vs = [.ref a] ∧ IL K H a ns ∧
  ∀ hs H' p, GoodS ns.length hs → Same H H' → H p = none → H' p = some (.lst (hs.map V.int)) → Q (.ref p) H'
theorem ok_l_stairs {f fC fD : Addr} {fd fdC fdD : FuncData} {m : Nat} (B : Bl mg) (Dl_cell_at : Df P w K mg base "_law_cell_at" (m + 1) ["_law_script", "_law_k"] (spCellAt K) fC fdC)
    (Dl_draw : Df P w K mg base "_law_draw" (m + 1) ["_law_cell", "_law_k", "_law_many"] spDraw fD fdD)
    (F : Fun K "_law_stairs" "_law_stairs" s_l_stairs f fd) : FnOk P w K mg base CX0 (m + 1 + 1) f fd ["_law_script"] (spStairs K) := by
  refine F.ok sc_l_stairs (fun vs H Q E h => ?_) (fun cdv A outer s H vs Q E hr h => ?_)
  · obtain ⟨a, ns, rfl, _⟩ := h
    rfl
  · obtain ⟨a, ns, rfl, hS, q⟩ := h
    refine ⟨_, (pss_cons (ps_set (i := 0) sc_l_stairs.nd rfl (.inr rfl) (pe_slice sl_list (pv 0) po_none (po_some pe_int)))
 (pss_cons (ps_par (i := 1) (j := 2) rfl sc_l_stairs.nd rfl rfl (by decide) rfl rfl (pa_cons (pe_call Dl_draw.ok (hr.mono (Nat.le_refl _)) (by rfl) Dl_draw.g Dl_draw.kp Dl_draw.b .nil pass0 (pa_cons (pe_call Dl_cell_at.ok (hr.mono (Nat.le_refl _)) (by rfl) Dl_cell_at.g Dl_cell_at.kp Dl_cell_at.b .nil pass0 (pa_cons (pv 0) (pa_cons pe_int pa_nil))) (pa_cons pe_int (pa_cons pe_int pa_nil)))) (pa_cons (pe_callB call_len_seq (by rfl) B.len PySem.boot_len (pa_cons (pv 0) pa_nil)) pa_nil)) (by rfl))
 (pss_cons (ps_if (pt_cmpR op_eq (pv 1) pe_int (nomark _))
  (pss_one (ps_ret (pe_callB cr_sorted (by rfl) B.sorted (by decide +kernel) (pa_cons (pe_lc (own := [("_law_cell", 5)]) (g := gName 5) (tt := tYes) rfl sc_l_stairs.nd (pi_list (pv 0)) (blkOk_by (N := N_l_stairs) (sc := defScope s_l_stairs) (by decide +kernel)) (fun _ _ _ _ _ => pg_name (i := 5) sc_l_stairs.nd rfl (Or.inl rfl)) (fun _ _ _ _ _ => pts_nil) (fun _ _ _ _ _ => (pe_op op_mod (pe_op op_fdiv (pv 5) pe_int) (pe_op op_pow pe_int pe_int)))) pa_nil))))
  pss_nil)
 (pss_cons (ps_set (i := 3) sc_l_stairs.nd rfl (.inr rfl) (pe_ix ix_tup (pe_tup (pa_cons pe_int (pa_cons (pe_op op_add (pv 2) pe_int) (pa_cons pe_int (pa_cons (pe_op op_add (pe_op op_mul pe_int (pv 2)) pe_int) (pa_cons (pe_op op_add (pe_op op_fdiv (pv 2) pe_int) pe_int) pa_nil)))))) (pv 1) (fun _ _ => rfl)))
 (pss_cons (ps_set (i := 4) sc_l_stairs.nd rfl (.inl rfl) (pe_callB cr_sorted (by rfl) B.sorted (by decide +kernel) (pa_cons (pe_lc (own := [("_law_k", 6)]) (g := gName 6) (tt := tYes) rfl sc_l_stairs.nd (pi_range1 rfl B.range (pa_cons (pv 2) pa_nil)) (blkOk_by (N := N_l_stairs) (sc := defScope s_l_stairs) (by decide +kernel)) (fun _ _ _ _ _ => pg_name (i := 6) sc_l_stairs.nd rfl (Or.inl rfl)) (fun _ _ _ _ _ => pts_nil) (fun _ _ _ _ _ => (pe_call Dl_draw.ok (hr.mono (Nat.le_refl _)) (by rfl) Dl_draw.g Dl_draw.kp Dl_draw.b .nil pass0 (pa_cons (pe_ix ixLK (pv 0) (pv 6) (fun _ _ => rfl)) (pa_cons (pe_op op_add (pe_op op_mod (pv 6) pe_int) pe_int) (pa_cons (pv 3) pa_nil)))))) pa_nil)))
 (pss_cons (ps_if (pt_cmpR op_eq (pv 1) pe_int (nomark _))
  (pss_one (ps_setLc (i := 4) (own := [("_law_k", 6), ("_law_height", 7)]) (g := gTup K 2 (gCons (gName 6) (gCons (gName 7) (gNil)))) (tt := tYes) rfl sc_l_stairs.nd rfl rfl (sw_true rfl rfl rfl (by decide +kernel)) (pi_enum (by rfl) B.enumerate (pa_cons (pv 4) pa_nil)) (blkOk_by (N := N_l_stairs) (sc := defScope s_l_stairs) (by decide +kernel)) (fun _ _ _ _ _ => pg_tup rfl (pgs_cons (pg_name (i := 6) sc_l_stairs.nd rfl (.inl rfl)) (pgs_cons (pg_name (i := 7) sc_l_stairs.nd rfl (.inl rfl)) pgs_nil))) (fun _ _ _ _ _ => pts_nil) (fun _ _ _ _ _ => (pe_op op_add (pv 7) (pv 6)))))
  pss_nil)
 (pss_one (ps_ret (pv 4))))))))), ?_⟩
    refine ⟨_, rfl, (63 : Int), rfl, a, _, rfl, hS, fun c nc => ?_⟩
    rw [show cutV (ns.map V.int) none (some (63 : Int)) = (ns.take 63).map V.int by rw [List.map_take]; exact cut_to _ 63]
    obtain ⟨ms, hms⟩ : ∃ ms, ms = ns.take 63 := ⟨_, rfl⟩
    rw [← hms]
    have hml : ms.length = min 63 ns.length := by rw [hms, List.length_take]
    have s1 : Same H (upd H c (.lst (ms.map V.int))) := same_upd nc
    have hc : (upd H c (.lst (ms.map V.int))) c = some (.lst (ms.map V.int)) := upd_same
    revert s1 hc
    generalize upd H c (.lst (ms.map V.int)) = H1
    intro s1 hc
    refine ⟨_, rfl, c, ms, 0, rfl, il_of hc, _, 5, 6, rfl, by decide, by decide, fun H2 s2 => ?_⟩
    have hc2 : H2 c = some (.lst (ms.map V.int)) := s2 _ _ hc
    have sm := s1.trans s2
    have d0 := draw_nonneg (c := ms.getD 0 0) (k := 6) (m := 5) (by decide)
    have d1 := draw_lt (c := ms.getD 0 0) (k := 6) (m := 5) (by decide)
    revert d0 d1
    generalize draw (ms.getD 0 0) 6 5 = kind
    intro d0 d1
    have hml2 : (((ms.map V.int).length : Nat) : Int) = (ms.length : Int) := by rw [List.length_map]
    refine ⟨_, rfl, c, _, rfl, .inl (SqL.of hc2), _, _, rfl, ?_⟩
    rw [hml2]
    refine ⟨_, rfl, rfl, _, rfl, ite2 (fun e => ?_) (fun e => ?_)⟩
    · -- the numbers themselves
      refine ⟨_, rfl, c, rfl, ⟨_, SqL.of hc2⟩, fun L nL => lc_list (K := K) (a := c) (xs := ms.map V.int) (fun i H' => Same H2 H' ∧ H' L = some (.lst (((ms.map fun x => x / 5 % 10 ^ 59).take i).map V.int)))
        ⟨same_upd nL, upd_same⟩ (fun i H' _ p => p.1.seq (SqL.of hc2)) ?_ ?_⟩
      · rintro i x H' hi ⟨s3, hL⟩
        obtain ⟨n, rfl, hn⟩ := mapI_get hi
        refine ⟨rfl, _, rfl, _, _, rfl, rfl, ⟨by decide, by decide⟩, _, _, rfl, rfl, ⟨by decide, by decide, by decide⟩, _, _, rfl, rfl, (by show (0 : Int) < 10 ^ 59; decide), _, hL, ?_, same_mut s3 nL, ?_⟩
        · rw [List.length_map, List.length_take, List.length_map]
          exact sz63' (by omega)
        · rw [upd_same, List.take_add_one, List.getElem?_map, hn, List.map_append]
          rfl
      · rintro H' ⟨s3, hL⟩
        rw [List.length_map, List.take_of_length_le (by rw [List.length_map]; omega)] at hL
        refine ⟨L, _, rfl, SqL.of hL, by rw [List.length_map]; omega, fun hs p hp hw np => ?_⟩
        exact q hs _ p (goodS_mod hp hw hml) (sm.trans (s3.trans (same_upd np))) ((sm.trans s3).free np) upd_same
    · -- the menu
      obtain ⟨mo, m0, m3, hmo⟩ := most_menu (n := (ms.length : Int)) d0 d1 (by omega) (by omega)
      refine ⟨_, rfl, _, _, rfl, rfl, _, rfl, _, _, rfl, rfl, .inl ⟨by decide, by decide⟩, _, _, rfl, rfl, _, rfl, _, _, rfl, rfl, ⟨by decide, by decide⟩, _, _, rfl, rfl, by show 5 ≤ sizeLine; decide, fun t nt => ?_⟩
      have ht : SqT K (upd H2 t (.tup ([(1 : Int), (ms.length : Int) + 3, 4, 3 * (ms.length : Int) + 2, (ms.length : Int) / 2 + 2].map V.int))) t ([(1 : Int), (ms.length : Int) + 3, 4, 3 * (ms.length : Int) + 2, (ms.length : Int) / 2 + 2].map V.int) := SqT.of upd_same
      refine ⟨_, rfl, t, _, _, _, rfl, rfl, ht, at_of (j := kind.toNat) (by omega) (mapI_at hmo), ?_⟩
      have sm3 : Same H2 (upd H2 t (.tup ([(1 : Int), (ms.length : Int) + 3, 4, 3 * (ms.length : Int) + 2, (ms.length : Int) / 2 + 2].map V.int))) := same_upd nt
      show _
      revert sm3
      show Same H2 (upd H2 t (.tup ([V.int 1, V.int ((ms.length : Int) + 3), V.int 4, V.int (3 * (ms.length : Int) + 2), V.int ((ms.length : Int) / 2 + 2)]))) → _
      generalize upd H2 t (.tup ([V.int 1, V.int ((ms.length : Int) + 3), V.int 4, V.int (3 * (ms.length : Int) + 2), V.int ((ms.length : Int) / 2 + 2)])) = H3
      intro sm3
      have hc3 : H3 c = some (.lst (ms.map V.int)) := sm3 _ _ hc2
      have sm' := sm.trans sm3
      refine ⟨_, rfl, _, rfl, by omega, by omega, fun L nL => lc_range (lo := 0) (n := ((ms.length : Nat) : Int).toNat) (fun i H' => ∃ ds : List Int, Same H3 H' ∧ H' L = some (.lst (ds.map V.int)) ∧ ds.length = i ∧ ∀ x ∈ ds, 0 ≤ x ∧ x < mo)
        ⟨[], same_upd nL, upd_same, rfl, fun x hx => by cases hx⟩ ?_ ?_⟩
      · rintro i H' hi ⟨ds, s4, hL, hl, hd⟩
        have hi' : i < ms.length := by omega
        have hc4 : H' c = some (.lst (ms.map V.int)) := s4 _ _ hc3
        have ez : (0 : Int) + (i : Int) = (i : Int) := by omega
        have ek : ((i : Int)) % 5 + 1 = ((i % 5 + 1 : Nat) : Int) := by omega
        rw [ez]
        refine ⟨rfl, _, rfl, _, rfl, c, _, _, _, rfl, rfl, SqL.of hc4, atI_nat (mapI_at (getD_at hi')), _, rfl, _, _, rfl, rfl, (by show (0 : Int) < 5; decide), _, _, rfl, rfl, _, rfl, ms.getD i 0, mo, i % 5 + 1, ?_, m0, by omega, fun H5 s5 => ?_⟩
        · rw [← ek]
          rfl
        · refine ⟨_, s5 _ _ hL, ?_, ds ++ [draw (ms.getD i 0) (i % 5 + 1) mo], same_mut (s4.trans s5) nL, ?_, ?_, ?_⟩
          · rw [List.length_map]
            exact sz63' (by omega)
          · rw [upd_same, List.map_append]
            rfl
          · rw [List.length_append, List.length_singleton, hl]
          · intro x hx
            rcases List.mem_append.mp hx with hx | hx
            · exact hd x hx
            · rw [List.mem_singleton.mp hx]
              exact ⟨draw_nonneg m0, draw_lt m0⟩
      · rintro H' ⟨ds, s4, hL, hl, hd⟩
        rw [Int.toNat_natCast] at hl
        refine ⟨L, ds, rfl, SqL.of hL, by omega, fun hs p hp hw np => ?_⟩
        have good := goodS_draw (n := ns.length) hp hw m3 hd (hl.trans hml)
        have sp := sm'.trans (s4.trans (same_upd (o := .lst (hs.map V.int)) np))
        have hp5 : (upd H' p (.lst (hs.map V.int))) p = some (.lst (hs.map V.int)) := upd_same
        have np0 := (sm'.trans s4).free np
        revert sp hp5
        generalize upd H' p (.lst (hs.map V.int)) = H5
        intro sp hp5
        refine ⟨_, rfl, rfl, _, rfl, ite2 (fun e3 => ?_) (fun e3 => ?_)⟩
        · refine ⟨_, rfl, p, _, rfl, SqL.of hp5, fun L2 nL2 => lc_enum (K := K) (a := p) (xs := hs.map V.int) (fun i H' => Same H5 H' ∧ H' L2 = some (.lst ((lift hs i).map V.int)))
            ⟨same_upd nL2, upd_same⟩ (fun i H' _ p => p.1.seq (SqL.of hp5)) ?_ ?_⟩
          · rintro i x T H' hi ⟨s6, hL6⟩ nT
            obtain ⟨h, rfl, hh⟩ := mapI_get hi
            have hi' : i < hs.length := (List.getElem?_eq_some_iff.mp hh).1
            have lh := good.1.len
            refine ⟨T, _, rfl, SqT.of upd_same, rfl, _, _, rfl, _, _, rfl, rfl, rfl, _, rfl, _, rfl, _, _, rfl, rfl, _, (same_upd nT) _ _ hL6, ?_, same_mut (s6.trans (same_upd nT)) nL2, ?_⟩
            · rw [List.length_map, lift, tab_len]
              exact sz63' (by omega)
            · rw [upd_same, lift_succ hh, List.map_append]
              rfl
          · rintro H' ⟨s6, hL6⟩
            rw [List.length_map] at hL6
            exact ⟨_, rfl, q _ H' L2 good.2 (sp.trans s6) (sp.free nL2) hL6⟩
        · exact ⟨_, rfl, q hs H5 p good.1 sp np0 hp5⟩
end
end TS
namespace TS
open PySem PySem.Spec PyProof.Rows L2
section
variable {P : Program} {w : World} {K : PySem.W.Frag} {mg : Str → Option Value} {base : Heap}
def spTakeCol : Sp := fun vs H Q _ => ∃ (a : Addr) (h : Int) (n e : Nat) (g : Nat → Int), vs = [.ref a, .int h] ∧ H a = some (.lst ((tab (stp g h) (n + 1)).map V.int)) ∧ n ≤ 1000 ∧ 0 ≤ h ∧ h.natAbs < 2 ^ 209 ∧ 0 < e ∧ e ≤ 900000 ∧ (∀ k, (g k).natAbs < 2 ^ e) ∧
  Q .non (upd H a (.lst ((tab g (n + 1)).map V.int)))
theorem ok_take_column {f : Addr} {fd : FuncData} {m : Nat} (B : Bl mg) (F : Fun K "take_column" "take_column" s_take_column f fd) : FnOk P w K mg base CX0 (m + 1) f fd ["ways", "height"] spTakeCol := by
  refine F.ok sc_take_column (fun vs H Q E h => ?_) (fun cdv A outer s H vs Q E hr h => ?_)
  · obtain ⟨a, h, n, e, g, rfl, _⟩ := h
    rfl
  · obtain ⟨a, h, n, e, g, rfl, hA, hn, h0, hb, he0, he, hg, q⟩ := h
    refine ⟨_, (pss_one (ps_for PassesOwn.never rfl (pi_range2 rfl B.range (pa_cons pe_int (pa_cons (pe_op op_add (pe_callB (call_min2 rfl) (by rfl) B.min (by decide +kernel) (pa_cons (pe_op op_sub (pe_callB call_len_seq (by rfl) B.len PySem.boot_len (pa_cons (pv 0) pa_nil)) pe_int) (pa_cons (pv 1) pa_nil))) pe_int) pa_nil))) (pg_name (i := 2) sc_take_column.nd rfl (.inl rfl))
  (pss_one (ps_augS (pv 0) (pv 2) get_list (pe_op op_mulW (pe_ix ix_list (pv 0) (pe_op op_sub (pv 2) pe_int) (fun _ _ => rfl)) (pe_op op_add (pe_op op_sub (pv 1) (pv 2)) pe_int)) ip_sub set_list)))), ?_⟩
    have hA' : SqL K H a ((tab (stp g h) (n + 1)).map V.int) := .inl (.inl hA)
    obtain ⟨t, ht, ht2, ht3⟩ : ∃ t : Nat, (if h < (n : Int) then h else (n : Int)) = (t : Int) ∧ ((t : Int) = h ∨ n ≤ t) ∧ ((t : Int) ≤ h ∧ t ≤ n) := by
      by_cases c : h < (n : Int)
      · exact ⟨h.toNat, by rw [if_pos c]; omega, by omega, by omega, by omega⟩
      · exact ⟨n, by rw [if_neg c], by omega, by omega, by omega⟩
    have hlen : (((tab (stp g h) (n + 1)).map V.int).length : Int) - 1 = (n : Int) := by
      rw [List.length_map, tab_len]
      omega
    refine ⟨_, rfl, a, _, rfl, .inl hA', _, _, rfl, rfl, _, rfl, _, _, rfl, ?_⟩
    rw [hlen, ht]
    have et : ((t : Int) + 1 - 1).toNat = t := by omega
    refine ⟨_, _, rfl, rfl, _, _, rfl, ⟨by omega, by omega, by omega, by omega⟩, for_range (lo := 1) (n := ((t : Int) + 1 - 1).toNat) (fun i σ H' => ∃ v, σ = [some (.ref a), some (.int h), v] ∧ H' = upd H a (.lst ((tab (dim g h i) (n + 1)).map V.int)))
      ⟨none, rfl, by rw [dim_start, upd_id hA]⟩ ?_ ?_⟩
    · rintro i σ H' hi ⟨v, rfl, rfl⟩
      have hi' : i < t := by omega
      have ev : (1 : Int) + (i : Int) = ((i + 1 : Nat) : Int) := by omega
      have hS : SqL K (upd H a (.lst ((tab (dim g h i) (n + 1)).map V.int))) a ((tab (dim g h i) (n + 1)).map V.int) := SqL.of upd_same
      have g1 : ((tab (dim g h i) (n + 1)).map V.int)[i + 1]? = some (.int (stp g h (i + 1))) := by
        refine mapI_at ?_
        rw [tab_get (by omega), dim_hi (by omega)]
      have g0 : ((tab (dim g h i) (n + 1)).map V.int)[i]? = some (.int (g i)) := by
        refine mapI_at ?_
        rw [tab_get (by omega), dim_lo (by omega)]
      rw [ev]
      refine ⟨_, rfl, _, rfl, a, _, _, _, rfl, rfl, hS, atI_nat g1, _, rfl, _, rfl, _, _, rfl, rfl, a, _, _, _, rfl, rfl, hS, at_of (by show ((i + 1 : Nat) : Int) - 1 = (i : Int); omega) g0, _, rfl, _, rfl, _, _, rfl, rfl, _, _, rfl, rfl, _, _, rfl, rfl, ?_, _, _, rfl, rfl, a, _, _, i + 1, rfl, rfl, upd_same, ?_, ?_⟩
      · refine wide_mul (hg i) (b := 210) ?_ he0 (by omega) (by omega)
        have : (2 : Nat) ^ 210 = 2 ^ 209 * 2 := rfl
        omega
      · unfold ixN
        rw [List.length_map, tab_len, if_pos (by omega), if_pos (by omega), Int.toNat_natCast]
      · refine ⟨_, rfl, ?_⟩
        rw [upd_upd, ← dim_turn (by omega), List.map_set]
        rw [show h - ((i + 1 : Nat) : Int) + 1 = h - (i : Int) by omega]
    · rintro σ H' ⟨v, rfl, rfl⟩
      rw [et, dim_end ht2]
      exact q
def spRowAbove (K : PySem.W.Frag) : Sp := fun vs H Q _ => ∃ (a : Addr) (T : List Int) (x : Int), vs = [.ref a, .int x] ∧ IL K H a T ∧ Q (.int (rowAbove T x)) H
theorem ok__row_above {f : Addr} {fd : FuncData} {m : Nat} (B : Bl mg) (F : Fun K "_row_above" "_row_above" s__row_above f fd) : FnOk P w K mg base CX0 (m + 1) f fd ["taken", "free"] (spRowAbove K) := by
  refine F.ok sc__row_above (fun vs H Q E h => ?_) (fun cdv A outer s H vs Q E hr h => ?_)
  · obtain ⟨a, T, x, rfl, _⟩ := h
    rfl
  · obtain ⟨a, T, x, rfl, hS, q⟩ := h
    refine ⟨_, (pss_cons (ps_set (i := 2) sc__row_above.nd rfl (.inl rfl) (pv 1))
 (pss_cons (ps_for PassesOwn.never rfl (pi_list (pv 0)) (pg_name (i := 3) sc__row_above.nd rfl (.inl rfl))
  (pss_one (ps_if (pt_cmpR op_le (pv 3) (pv 2) (nomark _))
  (pss_one (ps_aug (i := 2) sc__row_above.nd rfl (.inl rfl) pe_int ip_add))
  pss_nil)))
 (pss_one (ps_ret (pv 2))))), ?_⟩
    refine ⟨_, rfl, _, rfl, a, rfl, ⟨_, hS⟩, for_list (K := K) (a := a) (xs := T.map V.int) (fun i σ H' => ∃ v, σ = [some (.ref a), some (.int x), some (.int (passR (T.take i) x)), v] ∧ H' = H)
      ⟨none, rfl, rfl⟩ (fun i σ H' _ ⟨_, _, e⟩ => by rw [e]; exact hS) ?_ ?_⟩
    · rintro i y σ H' hi ⟨v, rfl, rfl⟩
      obtain ⟨t, rfl, ht⟩ := mapI_get hi
      refine ⟨_, rfl, _, rfl, _, _, rfl, rfl, _, rfl, ite2 (fun c => ?_) (fun c => ?_)⟩
      · have c' : t ≤ passR (T.take i) x := of_decide_eq_true c
        refine ⟨_, rfl, _, _, rfl, rfl, some (.int t), ?_, rfl⟩
        rw [passR_take ht, if_pos c']
        rfl
      · have c' : ¬ t ≤ passR (T.take i) x := fun z => c (decide_eq_true z)
        refine ⟨some (.int t), ?_, rfl⟩
        rw [passR_take ht, if_neg c']
        rfl
    · rintro σ H' ⟨v, rfl, rfl⟩
      rw [List.length_map, List.take_length, passR_eq]
      exact ⟨_, rfl, q⟩
def spFreeBelow (K : PySem.W.Frag) : Sp := fun vs H Q _ => ∃ (a : Addr) (T : List Int) (r : Int), vs = [.ref a, .int r] ∧ IL K H a T ∧ T.length ≤ 1000 ∧ ∀ H', Same H H' → Q (.int (r - less T r)) H'
theorem ok__free_below {f : Addr} {fd : FuncData} {m : Nat} (B : Bl mg) (F : Fun K "_free_below" "_free_below" s__free_below f fd) : FnOk P w K mg base CX0 (m + 1) f fd ["taken", "row"] (spFreeBelow K) := by
  refine F.ok sc__free_below (fun vs H Q E h => ?_) (fun cdv A outer s H vs Q E hr h => ?_)
  · obtain ⟨a, T, r, rfl, _⟩ := h
    rfl
  · obtain ⟨a, T, r, rfl, hS, hl, q⟩ := h
    refine ⟨_, (pss_one (ps_ret (pe_op op_sub (pv 1) (pe_callB call_len_seq (by rfl) B.len PySem.boot_len (pa_cons (pe_lc (own := [("other", 2)]) (g := gName 2) rfl sc__free_below.nd (pi_list (pv 0)) (blkOk_by (N := N__free_below) (sc := defScope s__free_below) (by decide +kernel)) (fun _ _ _ _ _ => pg_name (i := 2) sc__free_below.nd rfl (Or.inl rfl)) (fun _ _ _ _ _ => pts_one (pt_cmpR op_lt (pv 2) (pv 1) (nomark _))) (fun _ _ _ _ _ => (pv 2))) pa_nil))))), ?_⟩
    refine ⟨_, rfl, _, rfl, a, rfl, ⟨_, hS⟩, fun D nD => lc_list (K := K) (a := a) (xs := T.map V.int) (fun i H' => Same H H' ∧ H' D = some (.lst (((T.take i).filter fun t => decide (t < r)).map V.int)))
      ⟨same_upd nD, upd_same⟩ (fun i H' _ e => e.1.seq hS) ?_ ?_⟩
    · rintro i x H' hi ⟨sm, hD⟩
      obtain ⟨t, rfl, ht⟩ := mapI_get hi
      have hil : i < T.length := (List.getElem?_eq_some_iff.mp ht).1
      refine ⟨rfl, _, rfl, _, rfl, _, _, rfl, rfl, _, rfl, ite2 (fun c => ?_) (fun c => ?_)⟩
      · refine ⟨_, rfl, _, hD, ?_, same_mut sm nD, ?_⟩
        · rw [List.length_map]
          have := List.length_filter_le (fun t => decide (t < r)) (T.take i)
          rw [List.length_take] at this
          exact sz63' (by omega)
        · have c' : decide (t < r) = true := c
          rw [upd_same, List.take_add_one, ht, List.filter_append, Option.toList_some, List.filter_cons, if_pos c', List.map_append]
          rfl
      · have c' : ¬ decide (t < r) = true := c
        refine ⟨sm, ?_⟩
        rw [hD, List.take_add_one, ht, List.filter_append, Option.toList_some, List.filter_cons, if_neg c']
        simp
    · rintro H' ⟨sm, hD⟩
      rw [List.length_map, List.take_length] at hD
      refine ⟨D, _, rfl, .inl (SqL.of hD), _, _, rfl, rfl, ?_⟩
      rw [List.length_map]
      exact q H' sm
end
end TS
namespace TS
open PySem PySem.Spec PyProof.Rows L2
theorem divp_low {i j : Int} (h : 0 < j) (hb : j.natAbs < 2 ^ 210) : CDivP i j := ⟨h, PyProof.noPylong_of_log2 (Nat.lt_of_lt_of_le (PySem.Flt.log2_lt_of (by decide) hb) (by decide))⟩
theorem cn_abs {hs : List Int} (g : Good hs) (i k : Nat) : (cn hs i k).natAbs < 2 ^ (208 * 100 + 1) := cnt_take g i k
section
variable {P : Program} {w : World} {K : PySem.W.Frag} {mg : Str → Option Value} {base : Heap}
def spChoices (K : PySem.W.Frag) : Sp := fun vs H Q _ => ∃ (a b : Addr) (hs : List Int) (k : Nat) (num : Int), vs = [.ref a, .ref b, .int num] ∧ H a = some (.lst (hs.map V.int)) ∧ a ≠ b ∧ H b = some (.lst ((tab (cn hs hs.length) (k + 1)).map V.int)) ∧ Good hs ∧ k ≤ 1000 ∧ 0 ≤ num ∧ num < cn hs hs.length k ∧
  ∀ H' p, SameX b H H' → H p = none → PL H' p (ch hs hs.length k num) → Q (.ref p) H'
theorem ok__choices {f fT : Addr} {fd fdT : FuncData} {m : Nat} (B : Bl mg) (Dtake_column : Df P w K mg base "take_column" (m + 1) ["ways", "height"] spTakeCol fT fdT) (F : Fun K "_choices" "_choices" s__choices f fd) :
    FnOk P w K mg base CX0 (m + 1 + 1) f fd ["stairs", "ways", "number"] (spChoices K) := by
  refine F.ok sc__choices (fun vs H Q E h => ?_) (fun cdv A outer s H vs Q E hr h => ?_)
  · obtain ⟨a, b, hs, k, num, rfl, _⟩ := h
    rfl
  · obtain ⟨a, b, hs, k, num, rfl, hS, nab, hB, G, hk, n0, n1, q⟩ := h
    refine ⟨_, (pss_cons (ps_set (i := 3) sc__choices.nd rfl (.inl rfl) (pe_op op_sub (pe_callB call_len_seq (by rfl) B.len PySem.boot_len (pa_cons (pv 1) pa_nil)) pe_int))
 (pss_cons (ps_set (i := 4) sc__choices.nd rfl (.inl rfl) (pe_lst pa_nil))
 (pss_cons (ps_for PassesOwn.never rfl (pi_revR (by rfl) B.reversed (prg_1 (by rfl) B.range (pe_callB call_len_seq (by rfl) B.len PySem.boot_len (pa_cons (pv 0) pa_nil)))) (pg_name (i := 5) sc__choices.nd rfl (.inl rfl))
  (pss_cons (ps_set (i := 6) sc__choices.nd rfl (.inl rfl) (pe_ix ix_list (pv 0) (pv 5) (fun _ _ => rfl)))
 (pss_cons (ps_expr (pe_call Dtake_column.ok (hr.mono (Nat.le_refl _)) (by rfl) Dtake_column.g Dtake_column.kp Dtake_column.b .nil pass0 (pa_cons (pv 1) (pa_cons (pv 6) pa_nil))))
 (pss_one (ps_if (pt_cmpR op_ge (pv 2) (pe_ix ix_list (pv 1) (pv 3) (fun _ _ => rfl)) (nomark _))
  (pss_cons (ps_asg (pe_callB call_divmodW (by rfl) B.divmod (by decide +kernel) (pa_cons (pe_op op_sub (pv 2) (pe_ix ix_list (pv 1) (pv 3) (fun _ _ => rfl))) (pa_cons (pe_op op_add (pe_op op_sub (pv 6) (pv 3)) pe_int) pa_nil))) (pg_tup rfl (pgs_cons (pg_name (i := 2) sc__choices.nd rfl (.inl rfl)) (pgs_cons (pg_name (i := 7) sc__choices.nd rfl (.inl rfl)) pgs_nil))))
 (pss_cons (ps_expr (pe_bm PySem.F.plainAttrs_list PySem.F.slot_list_append PySem.F.type_list_append mt_append (pv 4) (pa_cons (pe_tup (pa_cons (pv 5) (pa_cons (pv 7) pa_nil))) pa_nil)))
 (pss_one (ps_aug (i := 3) sc__choices.nd rfl (.inl rfl) pe_int ip_sub))))
  pss_nil)))))
 (pss_one (ps_ret (pv 4)))))), ?_⟩
    have hl := G.len
    have elen : (((tab (cn hs hs.length) (k + 1)).map V.int).length : Int) - 1 = (k : Int) := by
      rw [List.length_map, tab_len]
      omega
    refine ⟨_, rfl, b, _, rfl, .inl (SqL.of hB), _, _, rfl, rfl, Nat.zero_le _, fun c nc => ?_⟩
    have sc : Same H (upd H c (.lst [])) := same_upd nc
    have hc : (upd H c (.lst [])) c = some (.lst []) := upd_same
    have ncb : c ≠ b := (ne_of_none hB nc).symm
    have nac : a ≠ c := ne_of_none hS nc
    have eh : ((0 : Int) + ((((((hs.map V.int).length : Nat) : Int) - 0).toNat : Nat) : Int) - 1) = (hs.length : Int) - 1 := by rw [List.length_map]; omega
    have en : (((((hs.map V.int).length : Nat) : Int) - 0).toNat) = hs.length := by rw [List.length_map]; omega
    refine ⟨_, rfl, a, _, rfl, .inl (SqL.of (sc _ _ hS)), _, rfl, by decide, by decide, by omega, by rw [List.length_map]; omega, ?_⟩
    rw [eh, en]
    refine for_rangeC (fun t σ H' => ∃ (kt : Nat) (nt : Int) (ds : List (Nat × Int)) (x y z : Option V), σ = [some (.ref a), some (.ref b), some (.int nt), some (.int (kt : Int)), some (.ref c), x, y, z] ∧ SameX b H H' ∧ H' a = some (.lst (hs.map V.int)) ∧ H' b = some (.lst ((tab (cn hs (hs.length - t)) (k + 1)).map V.int)) ∧ PL H' c ds ∧
        ds ++ ch hs (hs.length - t) kt nt = ch hs hs.length k num ∧ 0 ≤ nt ∧ nt < cn hs (hs.length - t) kt ∧ kt ≤ k ∧ ds.length ≤ t)
      ⟨k, num, [], none, none, none, (by show [some (V.ref a), some (V.ref b), some (V.int num), some (V.int ((((tab (cn hs hs.length) (k + 1)).map V.int).length : Int) - 1)), some (V.ref c), none, none, none] = _; rw [elen]), SameX.of sc, sc _ _ hS, sc _ _ hB, PL.empty hc, rfl, n0, n1, Nat.le_refl _, Nat.le_refl _⟩ ?_ ?_
    · rintro t σ H' hlt0 ⟨kt, nt, ds, x, y, z, rfl, sx, hS', hB', hP, eds, m0, m1, hkt, hdl⟩
      obtain ⟨i, ei⟩ : ∃ i, i + 1 = hs.length - t := ⟨hs.length - t - 1, by omega⟩
      have ev : (hs.length : Int) - 1 + (t : Int) * (-1) = (i : Int) := by omega
      have hi : i < hs.length := by omega
      have hh := ht_at hi
      have hm : ht hs i ∈ hs := List.mem_of_getElem? hh
      have bb := G.b _ hm
      have b208 : (2 : Int) ^ 208 = ((2 ^ 208 : Nat) : Int) := rfl
      have b209 : (2 : Nat) ^ 209 = 2 ^ 208 * 2 := rfl
      have b210 : (2 : Nat) ^ 210 = 2 ^ 208 * 4 := rfl
      have b1000 : 1000 ≤ (2 : Nat) ^ 208 := by decide
      rw [← ei] at hB' eds m1
      have hB2 : H' b = some (.lst ((tab (stp (cntF (hs.take i)) (ht hs i)) (k + 1)).map V.int)) := by rw [hB', ← cntF_take hh]
      obtain ⟨ps, hPl, hPt, hPe⟩ := id hP
      have nbc : b ≠ c := ncb.symm
      rw [ev]
      refine ⟨_, rfl, _, rfl, a, _, _, _, rfl, rfl, SqL.of hS', atI_nat (mapI_at hh), _, rfl, _, rfl, b, ht hs i, k, 208 * 100 + 1, cntF (hs.take i), rfl, hB2, hk, bb.1, by omega, by decide, by decide, cnt_take G i, ?_⟩
      have hSn : (upd H' b (.lst ((tab (cntF (hs.take i)) (k + 1)).map V.int))) a = some (.lst (hs.map V.int)) := by
        rw [upd_ne nab]
        exact hS'
      have hBn : (upd H' b (.lst ((tab (cntF (hs.take i)) (k + 1)).map V.int))) b = some (.lst ((tab (cn hs i) (k + 1)).map V.int)) := upd_same
      have hPn : PL (upd H' b (.lst ((tab (cntF (hs.take i)) (k + 1)).map V.int))) c ds := ⟨ps, by rw [upd_ne ncb]; exact hPl, hPt.lst hB2, hPe⟩
      have sxn : SameX b H (upd H' b (.lst ((tab (cntF (hs.take i)) (k + 1)).map V.int))) := sx.put
      have hgw : ((tab (cn hs i) (k + 1)).map V.int)[kt]? = some (.int (cn hs i kt)) := mapI_at (tab_get (by omega))
      have ent : hs.length - (t + 1) = i := by omega
      revert hSn hBn hPn sxn
      generalize upd H' b (.lst ((tab (cntF (hs.take i)) (k + 1)).map V.int)) = H2
      intro hSn hBn hPn sxn
      obtain ⟨qs, hQl, hQt, hQe⟩ := id hPn
      refine ⟨_, rfl, _, rfl, _, rfl, b, _, _, _, rfl, rfl, SqL.of hBn, atI_nat hgw, _, _, rfl, rfl, _, rfl, ite2 (fun cc => ?_) (fun cc => ?_)⟩
      · have c' : cn hs i kt ≤ nt := of_decide_eq_true cc
        obtain ⟨k', rfl⟩ : ∃ k', kt = k' + 1 := ⟨kt - 1, by
          cases kt with
          | zero => rw [cn_zero] at c' m1; omega
          | succ j => omega⟩
        have hlt : (k' : Int) < ht hs i := by
          rw [cn_succ hi] at m1
          by_cases g : (k' : Int) < ht hs i
          · exact g
          · rw [if_neg g] at m1
            omega
        rw [cn_succ hi, if_pos hlt] at m1
        have ej : ht hs i - ((k' + 1 : Nat) : Int) + 1 = ht hs i - k' := by omega
        refine ⟨_, rfl, _, rfl, _, rfl, b, _, _, _, rfl, rfl, SqL.of hBn, atI_nat hgw, _, _, rfl, rfl, _, rfl, _, rfl, _, _, rfl, rfl, _, _, rfl, rfl, _, _, rfl, divp_low (by omega) (by omega), fun p np => ?_⟩
        rw [ej]
        refine ⟨p, _, rfl, SqT.of upd_same, rfl, _, _, rfl, _, _, rfl, rfl, ?_⟩
        refine ⟨_, rfl, .inl ⟨rfl, refsT qs, SqL.of (same_upd np _ _ hQl)⟩, ?_⟩
        refine ⟨_, rfl, _, rfl, by show 2 ≤ sizeLine; decide, fun u nu => ?_⟩
        have hc2 := same_upd (o := .tup [V.int ((nt - cn hs i (k' + 1)) / (ht hs i - k')), V.int ((nt - cn hs i (k' + 1)) % (ht hs i - k'))]) np _ _ hQl
        have hc3 := same_upd (o := .tup [V.int (i : Int), V.int ((nt - cn hs i (k' + 1)) % (ht hs i - k'))]) nu _ _ hc2
        have dl : qs.length = ds.length := by rw [← hQe, List.length_map]
        refine ⟨c, _, _, rfl, rfl, hc3, ?_, ?_⟩
        · rw [List.length_map, dl]
          exact sz63' (by omega)
        have sm2 := (same_upd (o := .tup [V.int ((nt - cn hs i (k' + 1)) / (ht hs i - k')), V.int ((nt - cn hs i (k' + 1)) % (ht hs i - k'))]) np).trans (same_upd (o := .tup [V.int (i : Int), V.int ((nt - cn hs i (k' + 1)) % (ht hs i - k'))]) nu)
        have hu : (upd (upd H2 p (.tup [V.int ((nt - cn hs i (k' + 1)) / (ht hs i - k')), V.int ((nt - cn hs i (k' + 1)) % (ht hs i - k'))])) u (.tup [V.int (i : Int), V.int ((nt - cn hs i (k' + 1)) % (ht hs i - k'))])) u = some (.tup (cellV (i, (nt - cn hs i (k' + 1)) % (ht hs i - k')))) := upd_same
        refine ⟨_, rfl, _, _, rfl, rfl, k', (nt - cn hs i (k' + 1)) / (ht hs i - k'), ds ++ [(i, (nt - cn hs i (k' + 1)) % (ht hs i - k'))], some (.int (i : Int)), some (.int (ht hs i)), some (.int ((nt - cn hs i (k' + 1)) % (ht hs i - k'))), ?_, (sxn.trans (SameX.of sm2)).mut nc, ?_, ?_, (hPn.same sm2).add hu hc3, ?_, ?_, ?_, by omega, ?_⟩
        · rw [show (k' : Int) = ((k' + 1 : Nat) : Int) - 1 by omega]
          rfl
        · rw [upd_ne nac]
          exact sm2 _ _ hSn
        · rw [ent, upd_ne nbc]
          exact sm2 _ _ hBn
        · rw [ent, ← eds, ch_succ, if_pos c', ej, List.append_assoc]
          rfl
        · exact Int.ediv_nonneg (by omega) (by omega)
        · rw [ent]
          exact Int.ediv_lt_of_lt_mul (by omega) (by omega)
        · rw [List.length_append, List.length_singleton]
          omega
      · have c' : ¬ cn hs i kt ≤ nt := fun g => cc (decide_eq_true g)
        refine ⟨kt, nt, ds, _, _, _, rfl, sxn, hSn, by rw [ent]; exact hBn, hPn, ?_, m0, by rw [ent]; omega, hkt, by omega⟩
        rw [ent, ← eds, ch_succ, if_neg c']
    · rintro σ H' ⟨kt, nt, ds, x, y, z, rfl, sx, hS', hB', hP, eds, m0, m1, hkt, hdl⟩
      rw [Nat.sub_self] at eds
      have e0 : ch hs 0 kt nt = [] := rfl
      rw [e0, List.append_nil] at eds
      rw [eds] at hP
      exact ⟨_, rfl, q H' c sx nc hP⟩
end
end TS
namespace TS
open PySem PySem.Spec PyProof.Rows L2
theorem drop_back {α : Type} {l : List α} {j : Nat} {x : α} (hj : j < l.length) (h : l[l.length - 1 - j]? = some x) : l.drop (l.length - (j + 1)) = x :: l.drop (l.length - j) := by
  have e1 : l.length - (j + 1) = l.length - 1 - j := by omega
  have e2 : l.length - j = l.length - 1 - j + 1 := by omega
  rw [e1, e2]
  obtain ⟨hlt, rfl⟩ := List.getElem?_eq_some_iff.mp h
  rw [List.drop_eq_getElem_cons hlt]
section
variable {P : Program} {w : World} {K : PySem.W.Frag} {mg : Str → Option Value} {base : Heap}
def spWithRows : Sp := fun vs H Q _ => ∃ (a : Addr) (ds : List (Nat × Int)), vs = [.ref a] ∧ PL H a ds ∧ ds.length ≤ 1000 ∧ ∀ H' p, Same H H' → H p = none → PL H' p (tw ds) → Q (.ref p) H'
theorem ok__with_rows {f fT : Addr} {fd fdT : FuncData} {m : Nat} (B : Bl mg) (D_row_above : Df P w K mg base "_row_above" (m + 1) ["taken", "free"] (spRowAbove K) fT fdT) (F : Fun K "_with_rows" "_with_rows" s__with_rows f fd) :
    FnOk P w K mg base CX0 (m + 1 + 1) f fd ["choices"] spWithRows := by
  refine F.ok sc__with_rows (fun vs H Q E h => ?_) (fun cdv A outer s H vs Q E hr h => ?_)
  · obtain ⟨a, ds, rfl, _⟩ := h
    rfl
  · obtain ⟨a, ds, rfl, ⟨qs, hA, hT, rfl⟩, hl, q⟩ := h
    rw [List.length_map] at hl
    refine ⟨_, (pss_cons (ps_set (i := 1) sc__with_rows.nd rfl (.inl rfl) (pe_lst pa_nil))
 (pss_cons (ps_set (i := 2) sc__with_rows.nd rfl (.inl rfl) (pe_lst pa_nil))
 (pss_cons (ps_for PassesOwn.never rfl (pi_reversed (by rfl) B.reversed (pa_cons (pv 0) pa_nil)) (pg_tup rfl (pgs_cons (pg_name (i := 3) sc__with_rows.nd rfl (.inl rfl)) (pgs_cons (pg_name (i := 4) sc__with_rows.nd rfl (.inl rfl)) pgs_nil)))
  (pss_cons (ps_set (i := 5) sc__with_rows.nd rfl (.inl rfl) (pe_call D_row_above.ok (hr.mono (Nat.le_refl _)) (by rfl) D_row_above.g D_row_above.kp D_row_above.b .nil pass0 (pa_cons (pv 2) (pa_cons (pv 4) pa_nil))))
 (pss_cons (ps_expr (pe_bm PySem.F.plainAttrs_list PySem.F.slot_list_append PySem.F.type_list_append mt_append (pv 1) (pa_cons (pe_tup (pa_cons (pv 3) (pa_cons (pv 5) pa_nil))) pa_nil)))
 (pss_one (ps_set (i := 2) sc__with_rows.nd rfl (.inl rfl) (pe_callB cr_sortedI (by rfl) B.sorted (by decide +kernel) (pa_cons (pe_op op_cat (pv 2) (pe_lst (pa_cons (pv 5) pa_nil))) pa_nil)))))))
 (pss_one (ps_ret (pv 1)))))), ?_⟩
    refine ⟨Nat.zero_le _, fun tv ntv => ⟨Nat.zero_le _, fun t0 nt0 => ?_⟩⟩
    have s0 := (same_upd (o := .lst []) ntv).trans (same_upd (o := .lst []) nt0)
    have htv := same_upd (o := .lst []) nt0 tv _ upd_same
    have ht0 : (upd (upd H tv (.lst [])) t0 (.lst [])) t0 = some (.lst []) := upd_same
    have nt : tv ≠ t0 := ne_of_none upd_same nt0
    refine ⟨_, rfl, a, _, rfl, SqL.of (s0 _ _ hA), for_rev (K := K) (a := a) (xs := refsT qs) (fun j σ H' => ∃ (tk : Addr) (x y z : Option V), σ = [some (.ref a), some (.ref tv), some (.ref tk), x, y, z] ∧ Same H H' ∧ PL H' tv (tw ((qs.map Prod.snd).drop (qs.length - j))) ∧ tk ≠ tv ∧
        H' tk = some (.lst ((srt (rowsOf (tw ((qs.map Prod.snd).drop (qs.length - j))))).map V.int)))
      ⟨t0, none, none, none, rfl, s0, ?_, nt.symm, ?_⟩ (fun j σ H' _ ⟨_, _, _, _, _, e, _⟩ => SqL.of (e _ _ hA)) ?_ ?_⟩
    · rw [Nat.sub_zero, List.drop_of_length_le (by rw [List.length_map]; exact Nat.le_refl _)]
      exact PL.empty htv
    · rw [Nat.sub_zero, List.drop_of_length_le (by rw [List.length_map]; exact Nat.le_refl _)]
      exact ht0
    · rintro j x σ H' hj hx ⟨tk, y1, y2, y3, rfl, sm, hP, ntk, hTk⟩
      have hj' : j < qs.length := by rw [List.length_map] at hj; exact hj
      have el : (refsT qs).length = (qs.map Prod.snd).length := by rw [List.length_map, List.length_map]
      rw [el] at hx
      obtain ⟨ta, ⟨c, fr⟩, rfl, hq⟩ := refsT_at hx
      have hq2 := snd_at hq
      have hcell : H' ta = some (.tup (cellV (c, fr))) := sm _ _ (hT _ (List.mem_of_getElem? hq))
      have hd := drop_back (l := qs.map Prod.snd) (j := j) (by rw [List.length_map]; exact hj') hq2
      rw [List.length_map] at hd
      obtain ⟨ps, hPl, hPt, hPe⟩ := id hP
      have lT : (srt (rowsOf (tw ((qs.map Prod.snd).drop (qs.length - j))))).length ≤ 1000 := by
        rw [(srt_perm _).length_eq, List.length_map, tw_len, List.length_drop, List.length_map]
        omega
      have lps : ps.length ≤ 1000 := by
        have : ps.length = (tw ((qs.map Prod.snd).drop (qs.length - j))).length := by rw [← hPe, List.length_map]
        rw [this, tw_len, List.length_drop, List.length_map]
        omega
      obtain ⟨T, eT⟩ : ∃ T, T = srt (rowsOf (tw ((qs.map Prod.snd).drop (qs.length - j)))) := ⟨_, rfl⟩
      rw [← eT] at hTk lT
      refine ⟨ta, _, rfl, SqT.of hcell, rfl, _, _, rfl, _, _, rfl, rfl, ?_⟩
      refine ⟨_, rfl, _, rfl, tk, T, fr, rfl, il_of hTk, ?_⟩
      refine ⟨_, rfl, .inl ⟨rfl, _, SqL.of hPl⟩, ?_⟩
      refine ⟨_, rfl, _, rfl, by show 2 ≤ sizeLine; decide, fun u nu => ?_⟩
      have su : Same H' (upd H' u (.tup (cellV (c, rowAbove T fr)))) := same_upd nu
      have hu : (upd H' u (.tup (cellV (c, rowAbove T fr)))) u = some (.tup (cellV (c, rowAbove T fr))) := upd_same
      have hP2 := hP.same su
      have hPl2 := su _ _ hPl
      have hTk2 := su _ _ hTk
      have sm2 := sm.trans su
      revert su hu hP2 hPl2 hTk2 sm2
      show Same H' (upd H' u (.tup [V.int (c : Int), V.int (rowAbove T fr)])) → (upd H' u (.tup [V.int (c : Int), V.int (rowAbove T fr)])) u = some (.tup (cellV (c, rowAbove T fr))) → PL (upd H' u (.tup [V.int (c : Int), V.int (rowAbove T fr)])) tv _ →
        (upd H' u (.tup [V.int (c : Int), V.int (rowAbove T fr)])) tv = _ → (upd H' u (.tup [V.int (c : Int), V.int (rowAbove T fr)])) tk = _ → Same H (upd H' u (.tup [V.int (c : Int), V.int (rowAbove T fr)])) → _
      generalize upd H' u (.tup [V.int (c : Int), V.int (rowAbove T fr)]) = H2
      intro su hu hP2 hPl2 hTk2 sm2
      refine ⟨tv, _, _, rfl, rfl, hPl2, by rw [List.length_map]; exact sz63' (by omega), ?_⟩
      have hP3 := hP2.add hu hPl2
      have hTk3 : (upd H2 tv (.lst (refsT ps ++ [V.ref u]))) tk = some (.lst (T.map V.int)) := by
        rw [upd_ne ntk]
        exact hTk2
      have sm3 := same_mut (o := .lst (refsT ps ++ [V.ref u])) sm2 ntv
      revert hP3 hTk3 sm3
      generalize upd H2 tv (.lst (refsT ps ++ [V.ref u])) = H3
      intro hP3 hTk3 sm3
      refine ⟨_, rfl, _, rfl, by show 1 ≤ sizeLine; decide, fun w1 nw1 => ?_⟩
      have nkw : tk ≠ w1 := ne_of_none hTk3 nw1
      refine ⟨tk, w1, _, _, rfl, rfl, by rw [upd_ne nkw]; exact hTk3, upd_same, ?_, fun w2 nw2 => ?_⟩
      · rw [List.length_map]
        exact sz63 (by show T.length + 1 ≤ 100000; omega)
      have e12 : T.map V.int ++ [V.int (rowAbove T fr)] = (T ++ [rowAbove T fr]).map V.int := by rw [List.map_append]; rfl
      have s12 := (same_upd (o := .lst [V.int (rowAbove T fr)]) nw1).trans (same_upd (o := .lst (T.map V.int ++ [V.int (rowAbove T fr)])) nw2)
      refine ⟨w2, T ++ [rowAbove T fr], rfl, SqL.of (by rw [upd_same, e12]), fun U w3 pU oU nw3 => ?_⟩
      have s123 := s12.trans (same_upd (o := .lst (U.map V.int)) nw3)
      have eU : U = srt (rowsOf (tw ((qs.map Prod.snd).drop (qs.length - (j + 1))))) := by
        rw [hd]
        show U = srt (rowsOf (tw ((qs.map Prod.snd).drop (qs.length - j)) ++ [(c, rowAbove (srt (rowsOf (tw ((qs.map Prod.snd).drop (qs.length - j))))) fr)]))
        rw [← eT]
        refine srt_of (pU.trans ?_) oU
        show (T ++ [rowAbove T fr]).Perm (List.map Prod.snd (tw ((qs.map Prod.snd).drop (qs.length - j)) ++ [(c, rowAbove T fr)]))
        rw [List.map_append]
        refine List.Perm.append_right _ ?_
        rw [eT]
        exact srt_perm _
      refine ⟨w3, some (.int (c : Int)), some (.int fr), some (.int (rowAbove T fr)), rfl, sm3.trans s123, ?_, ?_, ?_⟩
      · have e : tw ((qs.map Prod.snd).drop (qs.length - (j + 1))) = tw ((qs.map Prod.snd).drop (qs.length - j)) ++ [(c, rowAbove T fr)] := by
          rw [hd, eT]
          rfl
        rw [e]
        exact hP3.same s123
      · obtain ⟨ps3, hPl3, _⟩ := hP3
        exact (ne_of_none (s12 _ _ hPl3) nw3).symm
      · rw [upd_same, eU]
    · rintro σ H' ⟨tk, y1, y2, y3, rfl, sm, hP, ntk, hTk⟩
      rw [List.length_map, Nat.sub_self, List.drop_zero] at hP
      exact ⟨_, rfl, q H' tv sm ntv hP⟩
end
end TS
namespace TS
open PySem PySem.Spec PyProof.Rows L2 L2H
/-! the error that a suite holds, handed to a def: its object stays pinned while the def runs -/
structure Caught (D : Addr) (p : Addr × Obj) : Prop where
  z : Zc (.ref D) none p.2
  f : ∃ vs, p.2.data = .fields vs
theorem Caught.inst {D : Addr} {p : Addr × Obj} (c : Caught D p) {h : Heap} (g : h.get? p.1 = some p.2) : PySem.W.InstAt h p.1 p.2 D none := by
  obtain ⟨a, oc, od, dt, sl⟩ := p
  obtain ⟨⟨e1, e2⟩, vs, e3⟩ := c
  simp only at e1 e2 e3 g
  cases e1
  cases e2
  cases e3
  exact ⟨g, rfl, rfl, trivial⟩
theorem isi_err {X : Cx} {D : Addr} {p : Addr × Obj} (C : ExcC X.K D) (hp : p ∈ X.pn) (hc : Caught D p) : CallR X (.builtin "isinstance") (rIsE X.K D p.1) := by
  rintro pins s σ H xs us Q I (_ | ⟨r1, _ | ⟨r2, _ | _⟩⟩) ⟨c, cv, b, ex, ec, kit, q⟩
  all_goals cases ex
  cases r1
  cases ec _ r2
  exact PySem.W.kia_one (PySem.W.handS_kitx_exc C.hg C.hk C.hs C.hd C.ha C.hn C.ht C.hm) I.kIn (hc.inst (I.pin p (List.mem_append_left _ hp)).1) kit (fun z => nomatch z)
    fun tk => ⟨.bl b, H, I.kept (t' := tk) fun _ _ e => e, rfl, q⟩
/-- what a def promises of such an error, p: it raises nothing -/
structure FnP (P : Program) (w : World) (K : PySem.W.Frag) (mg : Str → Option Value) (base : Heap) (k : Nat) (f : Addr) (fd : FuncData) (ps : List Str) (sp : Addr × Obj → Sp) : Prop where
  size : ∀ p vs H Q E, sp p vs H Q E → vs.length = ps.length
  goes : ∀ (p : Addr × Obj) (A : Around) (outer : List Env) (s : Shared) (H : Hp) (us : List Value) (vs : List V) (Q : VK) (E : XK), RoomH k A → PinOk outer H s p → Env0 P w K mg base A outer s H → BindsTo s fd ⟨us, []⟩ (ps.zip us) → Vals vs us → sp p vs H Q E →
    codeAny (model P w) A (.call (.ref f) ⟨us, []⟩) (CR CX0 outer P w H s Q E) s
section
variable {P : Program} {w : World} {K : PySem.W.Frag} {mg : Str → Option Value} {base : Heap}
theorem fun_okP {x qual : Str} {st : Stmt} {f : Addr} {fd : FuncData} {N ps : List Str} {k : Nat} {sp : Addr × Obj → Sp} (F : Fun K x qual st f fd) (S : FnScope N ps (defScope st)) (len : ∀ p vs H Q E, sp p vs H Q E → vs.length = ps.length)
    (body : ∀ (cdv : Value) (A : Around) (outer : List Env) (s : Shared) (H : Hp) (vs : List V) (Q : VK) (E : XK) (p : Addr × Obj), sp p vs H Q E →
      ∃ t, PSs (cxH CX0 P w K mg base N qual (defScope st) f cdv A outer s H E p) (defBody st) t ∧ t { nx := fun _ H' => Q .non H', rt := Q } (L2.start N vs) H) : FnP P w K mg base (k + 1) f fd ps sp := by
  obtain ⟨oc, od, kV, doc, pm, an, cdv, ct, osl, rfl, lk, hcd⟩ := F.ex
  constructor
  · exact len
  intro p A outer s H us vs Q E room pinned e0 binds rel h
  have kin : K.In s.heap := e0.mod.kin.keeps fun b o e => (e0.bs b o e).1
  have named : ∀ y ∈ ps.zip us, (defScope st).names.lookup y.1 = some .local ∨ ((defScope st).names.lookup y.1 = some .cell ∧ ((cellsFrom (s.heap.objs.size + 1) (defScope st).names []).lookup y.1).isSome = true) := by
    rintro ⟨n, v⟩ m
    exact (S.par n (List.of_mem_zip m).1).imp id fun q => ⟨q, PySem.W.cellsFrom_some _ _ _ (.inl q)⟩
  refine codeAny_call_function room.depth (kin _ _ lk) rfl S.co S.gen rfl (PySem.W.codeRec_of kin hcd) (binds _ _ _ _ (wpAny_newFunctionEnv_cells S.kind named ?_))
  rintro _ rfl s1 made
  have lim : s.heap.NoLimit := e0.mod.nolimit.keeps fun b o e => (e0.bs b o e).1
  obtain ⟨t, run, read⟩ := body cdv A outer s H vs Q E p h
  refine ⟨lim.keeps made.toInCall.keep, codeAny_func (wpAny_mono (run.run [] s1 _ H _ (inv_startH S pinned e0 (len _ _ _ _ _ h) rel made) read) ?_ fun _ _ z => z)⟩
  rintro (_ | _ | _ | u) s2 out
  · obtain ⟨σ2, H2, J, q⟩ := out
    exact ⟨.non, H2, J.os, J.bare, J.base, J.hok, rfl, q⟩
  · exact out.elim fun _ z => z.elim fun _ z => z.2.elim
  · exact out.elim fun _ z => z.elim fun _ z => z.2.elim
  · obtain ⟨v, σ2, H2, J, rv, q⟩ := out
    exact ⟨v, H2, J.os, J.bare, J.base, J.hok, rv, q⟩
end
theorem pe_callP {X : Cx} {k : Nat} {f : Addr} {fd : FuncData} {ps : List Str} {sp : Addr × Obj → Sp} {x : Str} {q pos : Pos} {e : Expr} {es : List Expr} {t : TA} {p : Addr × Obj} (F : FnP X.prog X.w X.K X.mg X.base k f fd ps sp) (hr : RoomH k X.A) (hp : p ∈ X.pn)
    (hg : Gl X x) (hm : X.mg x = some (.ref f)) (hk : PySem.W.keepIn X.K (.ref f) = true) (hb : Binds X.K fd ps []) (ha : PA X (e :: es) t)
    (hdb : (x == ("__debug__" : Str)) = false := by decide) (he : starEach (e :: es) X.env = (false, eval e X.env) :: starEach es X.env := by rfl) (hpl : (backTo pos (starEach es X.env)).any (·.1) = false := by rfl) :
    PE X (.Call (.Name x q) (e :: es) [] pos) (fun σ H Q => t σ H fun vs H1 => sp p vs H1 Q fun _ _ _ => False) := by
  constructor
  intro pins s σ H Q I h
  refine wpAny_Call_Name_kw (ld_glob I hg hm (PySem.W.callWith_K (h₀ := X.base) I.ok.mod.kin hk (thn (ha.run pos pins s σ H _ I h) ?_) he hpl) hdb)
  rintro us s1 ⟨vs, H1, J, rel, h1⟩
  refine ⟨J.kIn, ?_⟩
  have hl : us.length = ps.length := rel.length.symm.trans (F.size _ _ _ _ _ h1)
  have bnd := hb s1 us J.kIn (by rw [List.append_nil]; exact hl)
  rw [List.append_nil] at bnd
  obtain ⟨g1, g2, g3, g4, g5⟩ := J.pin p (List.mem_append_left _ hp)
  have away : p.1 ∉ frs X.stack := fun m => by
    rcases List.mem_cons.mp (J.stkSub p.1 m) with z | z
    · exact g3 z
    · exact g4 z
  refine wpAny_call (codeAny_mono (F.goes p X.A X.stack s1 H1 us vs Q _ hr ⟨g1, g2, away, g5⟩ J.env0 bnd rel h1) ?_)
  rintro (z | z | z | z | u) s2 out
  · exact out.elim
  all_goals first | exact J.after out | exact False.elim out
end TS
namespace TS
open PySem PySem.Spec PyProof.Rows L2
/-! what was handed in, of any kind -/
/-- its type is none of those that isinstance(_, T) takes -/
def NoTy (K : PySem.W.Frag) (T : String) (H : Hp) (x : V) : Prop := ∃ t, TyX K H x t ∧ PySem.W.kitOne K t (.type T) = some false
/-- neither a whole number, or it is a truth value -/
def NoNum (K : PySem.W.Frag) (H : Hp) (x : V) : Prop := (∃ b, x = .bl b) ∨ NoTy K "int" H x
theorem noTy_non {K : PySem.W.Frag} {T : String} {H : Hp} (e : kitB "NoneType" T = some false) : NoTy K T H .non := ⟨_, .base .non, kit_ty e⟩
theorem noTy_str {K : PySem.W.Frag} {T : String} {H : Hp} (x : Str) (e : kitB "str" T = some false) : NoTy K T H (.str x) := ⟨_, .base (.str x), kit_ty e⟩
theorem noTy_int {K : PySem.W.Frag} {T : String} {H : Hp} (i : Int) (e : kitB "int" T = some false) : NoTy K T H (.int i) := ⟨_, .base (.int i), kit_ty e⟩
theorem noTy_bl {K : PySem.W.Frag} {T : String} {H : Hp} (b : Bool) (e : kitB "bool" T = some false) : NoTy K T H (.bl b) := ⟨_, .base (.bl b), kit_ty e⟩
theorem noTy_lst {K : PySem.W.Frag} {T : String} {H : Hp} {a : Addr} {xs : List V} (h : H a = some (.lst xs)) (e : kitB "list" T = some false) : NoTy K T H (.ref a) := ⟨_, .base (.lst h), kit_ty e⟩
theorem noTy_tup {K : PySem.W.Frag} {T : String} {H : Hp} {a : Addr} {xs : List V} (h : H a = some (.tup xs)) (e : kitB "tuple" T = some false) : NoTy K T H (.ref a) := ⟨_, .base (.tup h), kit_ty e⟩
theorem noTy_dict {K : PySem.W.Frag} {T : String} {H : Hp} {a : Addr} {kvs : List (Key × V)} (h : H a = some (.dK kvs)) (e : kitB "dict" T = some false) : NoTy K T H (.ref a) := ⟨_, .base (.dK h), kit_ty e⟩
/-- heights from which on the list is bad, z the least that is due -/
def BadFrom (K : PySem.W.Frag) (H : Hp) : Int → List V → Prop
  | _, [] => False
  | z, x :: r => NoNum K H x ∨ ∃ i, x = .int i ∧ (i < 0 ∨ i < z ∨ BadFrom K H i r)
/-- no stairs -/
def NoStairs (K : PySem.W.Frag) (H : Hp) (x : V) : Prop := NoTy K "list" H x ∨ ∃ a xs, x = .ref a ∧ H a = some (.lst xs) ∧ BadFrom K H 0 xs
/-- stairs -/
def Stairs (H : Hp) (x : V) (hs : List Int) : Prop := ∃ a, x = .ref a ∧ H a = some (.lst (hs.map V.int)) ∧ Rise hs ∧ Pos0 hs
section
variable {P : Program} {w : World} {K : PySem.W.Frag} {mg : Str → Option Value} {base : Heap}
def spCount (K : PySem.W.Frag) : Sp := fun vs H Q _ => ∃ x, vs = [x] ∧ ((∃ i, x = .int i ∧ Q (.bl (decide (0 ≤ i))) H) ∨ (NoNum K H x ∧ Q (.bl false) H))
theorem okG_is_count {f : Addr} {fd : FuncData} {m : Nat} (B : Bl mg) (F : Fun K "is_count" "is_count" s_is_count f fd) : FnOk P w K mg base CX0 (m + 1) f fd ["value"] (spCount K) := by
  refine F.ok sc_is_count (fun vs H Q E h => ?_) (fun cdv A outer s H vs Q E hr h => ?_)
  · obtain ⟨x, rfl, _⟩ := h
    rfl
  · obtain ⟨x, rfl, h⟩ := h
    refine ⟨_, (pss_one (ps_ret (pe_and (pe_callB call_isi (by rfl) B.isinstance (by decide +kernel) (pa_cons (pv 0) (pa_cons (pe_bltn (v := .ty "int") (by rfl) B.int PyProof.Rows.boot_int rfl) pa_nil))) (pe_and (pe_not (pe_callB call_isi (by rfl) B.isinstance (by decide +kernel) (pa_cons (pv 0) (pa_cons (pe_bltn (v := .ty "bool") (by rfl) B.bool PyProof.Rows.boot_bool rfl) pa_nil)))) (pe_one (pe_cmpR op_ge (pv 0) pe_int (nomark _))))))), ?_⟩
    rcases h with ⟨i, rfl, q⟩ | ⟨⟨b, rfl⟩ | ⟨t, ht, hk⟩, q⟩
    · exact ⟨_, rfl, _, _, _, _, true, rfl, .ty _, .base (.int i), kit_ty (by decide +kernel), true, rfl, iteT ⟨_, rfl, _, _, _, _, false, rfl, .ty _, .base (.int i), kit_ty (by decide +kernel), false, rfl, true, rfl, iteT ⟨_, rfl, _, _, rfl, rfl, q⟩⟩⟩
    · exact ⟨_, rfl, _, _, _, _, true, rfl, .ty _, .base (.bl b), kit_ty (by decide +kernel), true, rfl, iteT ⟨_, rfl, _, _, _, _, true, rfl, .ty _, .base (.bl b), kit_ty (by decide +kernel), true, rfl, false, rfl, iteF q⟩⟩
    · exact ⟨_, rfl, _, _, _, _, false, rfl, .ty _, ht, hk, false, rfl, iteF q⟩
def spIsSt (K : PySem.W.Frag) : Sp := fun vs H Q _ => ∃ x, vs = [x] ∧ (((∃ hs, Stairs H x hs) ∧ Q (.bl true) H) ∨ (NoStairs K H x ∧ Q (.bl false) H))
theorem okG_is_stairs {f fC : Addr} {fd fdC : FuncData} {m : Nat} (B : Bl mg) (Dis_count : Df P w K mg base "is_count" (m + 1) ["value"] (spCount K) fC fdC) (F : Fun K "is_stairs" "is_stairs" s_is_stairs f fd) :
    FnOk P w K mg base CX0 (m + 1 + 1) f fd ["stairs"] (spIsSt K) := by
  refine F.ok sc_is_stairs (fun vs H Q E h => ?_) (fun cdv A outer s H vs Q E hr h => ?_)
  · obtain ⟨x, rfl, _⟩ := h
    rfl
  · obtain ⟨x, rfl, h⟩ := h
    refine ⟨_, (pss_cons (ps_if (pt_not (pt_val (pe_callB call_isi (by rfl) B.isinstance (by decide +kernel) (pa_cons (pv 0) (pa_cons (pe_bltn (v := .ty "list") (by rfl) B.list PyProof.Rows.boot_list rfl) pa_nil)))))
  (pss_one (ps_ret pe_bl))
  pss_nil)
 (pss_cons (ps_set (i := 1) sc_is_stairs.nd rfl (.inl rfl) pe_int)
 (pss_cons (ps_for PassesOwn.never rfl (pi_list (pv 0)) (pg_name (i := 2) sc_is_stairs.nd rfl (.inl rfl))
  (pss_cons (ps_if (PW.pt (pw_or (pt_not (pt_val (pe_call Dis_count.ok (hr.mono (Nat.le_refl _)) (by rfl) Dis_count.g Dis_count.kp Dis_count.b .nil pass0 (pa_cons (pv 2) pa_nil)))) (pw_or1 (pt_cmpR op_lt (pv 2) (pv 1) (nomark _)))))
  (pss_one (ps_ret pe_bl))
  pss_nil)
 (pss_one (ps_set (i := 1) sc_is_stairs.nd rfl (.inl rfl) (pv 2)))))
 (pss_one (ps_ret pe_bl))))), ?_⟩
    rcases h with ⟨⟨hs, a, rfl, hA, rise, pos⟩, q⟩ | ⟨⟨t, ht, hk⟩ | ⟨a, xs, rfl, hA, bad⟩, q⟩
    · refine ⟨_, rfl, _, _, _, _, true, rfl, .ty _, .base (.lst hA), kit_ty (by decide +kernel), true, rfl, iteF ?_⟩
      refine ⟨_, rfl, a, rfl, ⟨_, SqL.of hA⟩, for_list (K := K) (a := a) (xs := hs.map V.int) (fun i σ H' => ∃ (z : Int) (v : Option V), σ = [some (.ref a), some (.int z), v] ∧ H' = H ∧ ∀ x, hs[i]? = some x → z ≤ x)
        ⟨0, none, rfl, rfl, fun x hx => pos x (List.mem_of_getElem? hx)⟩ (fun i σ H' _ ⟨_, _, _, e, _⟩ => by rw [e]; exact SqL.of hA) ?_ ?_⟩
      · rintro i x σ H' hi ⟨z, v, rfl, rfl, hz⟩
        obtain ⟨h, rfl, hh⟩ := mapI_get hi
        have h0 : 0 ≤ h := pos h (List.mem_of_getElem? hh)
        have hz' := hz h hh
        refine ⟨_, rfl, _, rfl, .inl ⟨h, rfl, _, rfl, ?_⟩⟩
        rw [decide_eq_true h0]
        refine iteF ?_
        refine ⟨_, rfl, _, rfl, _, _, rfl, rfl, _, rfl, ?_⟩
        rw [decide_eq_false (by omega)]
        refine iteF ?_
        exact ⟨_, rfl, h, some (.int h), rfl, rfl, fun x hx => rise i (i + 1) h x (by omega) hh hx⟩
      · rintro σ H' ⟨z, v, rfl, rfl, _⟩
        exact q
    · exact ⟨_, rfl, _, _, _, _, false, rfl, .ty _, ht, hk, false, rfl, iteT q⟩
    · refine ⟨_, rfl, _, _, _, _, true, rfl, .ty _, .base (.lst hA), kit_ty (by decide +kernel), true, rfl, iteF ?_⟩
      refine ⟨_, rfl, a, rfl, ⟨_, SqL.of hA⟩, for_list (K := K) (a := a) (xs := xs) (fun i σ H' => ∃ (z : Int) (v : Option V), σ = [some (.ref a), some (.int z), v] ∧ H' = H ∧ BadFrom K H z (xs.drop i))
        ⟨0, none, rfl, rfl, bad⟩ (fun i σ H' _ ⟨_, _, _, e, _⟩ => by rw [e]; exact SqL.of hA) ?_ ?_⟩
      · rintro i x σ H' hi ⟨z, v, rfl, rfl, hb⟩
        obtain ⟨hl, hx⟩ := List.getElem?_eq_some_iff.mp hi
        rw [List.drop_eq_getElem_cons hl, hx] at hb
        rcases hb with hn | ⟨h, rfl, hb⟩
        · refine ⟨_, rfl, _, rfl, .inr ⟨hn, _, rfl, iteT (iteT q)⟩⟩
        · refine ⟨_, rfl, _, rfl, .inl ⟨h, rfl, _, rfl, ?_⟩⟩
          by_cases h0 : 0 ≤ h
          · rw [decide_eq_true h0]
            refine iteF ⟨_, rfl, _, rfl, _, _, rfl, rfl, _, rfl, ?_⟩
            by_cases hz : h < z
            · rw [decide_eq_true hz]
              exact iteT q
            · rw [decide_eq_false hz]
              refine iteF ⟨_, rfl, h, _, rfl, rfl, ?_⟩
              rcases hb with hb | hb | hb
              · omega
              · omega
              · exact hb
          · rw [decide_eq_false h0]
            exact iteT (iteT q)
      · rintro σ H' ⟨z, v, rfl, rfl, hb⟩
        rw [List.drop_length] at hb
        exact hb.elim
end
end TS
namespace TS
open PySem PySem.Spec PyProof.Rows L2
/-- an own error class, straight or not under ValueError -/
structure Er (K : PySem.W.Frag) (mg : Str → Option Value) (x : Str) (C : Addr) : Prop where
  g : mg x = some (.ref C)
  k : PySem.W.keepIn K (.ref C) = true
  e : PySem.W.excIn K C [.type "ValueError", .type "Exception", .type "BaseException", .type "object"] "ValueError.__new__" = true
  b : PySem.W.subIn K (.ref C) (.type "BaseException") = some true
  t : PySem.W.typeIn K (.ref C) = some (.type "type")
/-- a def that may raise, with what its callers need -/
structure DfX (P : Program) (w : World) (K : PySem.W.Frag) (mg : Str → Option Value) (base : Heap) (x : Str) (k : Nat) (ps : List Str) (sp : Sp) (f : Addr) (fd : FuncData) : Prop where
  ok : FnOk P w K mg base (L2.CX P w) k f fd ps sp
  g : mg x = some (.ref f)
  kp : PySem.W.keepIn K (.ref f) = true
  b : Binds K fd ps []
section
variable {P : Program} {w : World} {K : PySem.W.Frag} {mg : Str → Option Value} {base : Heap}
def spCheckX (K : PySem.W.Frag) (C : Addr) : Sp := fun vs H Q E => ∃ x, vs = [x] ∧ (((∃ hs, Stairs H x hs) ∧ Q .non H) ∨ (NoStairs K H x ∧ E (.ref C) none H))
theorem okG_check_stairs {f fC C : Addr} {fd fdC : FuncData} {m : Nat} (B : Bl mg) (X : Er K mg "BadStairs" C) (Dis_stairs : Df P w K mg base "is_stairs" (m + 1) ["stairs"] (spIsSt K) fC fdC) (F : Fun K "check_stairs" "check_stairs" s_check_stairs f fd) :
    FnOk P w K mg base (L2.CX P w) (m + 1 + 1) f fd ["stairs"] (spCheckX K C) := by
  refine F.okX sc_check_stairs (fun vs H Q E h => ?_) (fun cdv A outer s H vs Q E hr h => ?_)
  · obtain ⟨x, rfl, _⟩ := h
    rfl
  · obtain ⟨x, rfl, h⟩ := h
    refine ⟨_, (pss_one (ps_if (pt_not (pt_val (pe_call Dis_stairs.ok (hr.mono (Nat.le_refl _)) (by rfl) Dis_stairs.g Dis_stairs.kp Dis_stairs.b .nil pass0 (pa_cons (pv 0) pa_nil))))
  (pss_one (ps_raise rfl (takes_of rfl rfl rfl rfl) (pmk_own PySem.F.excBase_ValueError X.e X.g X.k (raises_own X.b X.t) (by rfl))))
  pss_nil)), ?_⟩
    rcases h with ⟨hs, q⟩ | ⟨hn, q⟩
    · exact ⟨_, rfl, _, rfl, .inl ⟨hs, true, rfl, iteF q⟩⟩
    · exact ⟨_, rfl, _, rfl, .inr ⟨hn, false, rfl, iteT q⟩⟩
end
end TS
namespace TS
open PySem PySem.Spec PyProof.Rows L2
theorem fnOk_imp {P : Program} {w : World} {K : PySem.W.Frag} {mg : Str → Option Value} {base : Heap} {CX : CXT} {k : Nat} {f : Addr} {fd : FuncData} {ps : List Str} {sp sp' : Sp} (F : FnOk P w K mg base CX k f fd ps sp) (h : ∀ vs H Q E, sp' vs H Q E → sp vs H Q E) : FnOk P w K mg base CX k f fd ps sp' :=
  ⟨fun vs H Q E q => F.len vs H Q E (h vs H Q E q), fun A outer s H args us vs Q E r e b v q => F.run A outer s H args us vs Q E r e b v (h vs H Q E q)⟩
/-! types stand while what is tracked stands -/
theorem tyOf_same {K : PySem.W.Frag} {H H' : Hp} {x : V} {t : Value} (s : Same H H') (h : TyOf K H x t) : TyOf K H' x t := by
  cases h with
  | non => exact .non
  | bl b => exact .bl b
  | int i => exact .int i
  | str y => exact .str y
  | flt y => exact .flt y
  | lst e => exact .lst (s _ _ e)
  | frz e => exact .frz (s _ _ e)
  | tup e => exact .tup (s _ _ e)
  | dK e => exact .dK (s _ _ e)
  | dT e => exact .dT (s _ _ e)
  | ins e a b c d g => exact .ins (s _ _ e) a b c d g
theorem tyX_same {K : PySem.W.Frag} {H H' : Hp} {x : V} {t : Value} (s : Same H H') (h : TyX K H x t) : TyX K H' x t := by
  cases h with
  | base h => exact .base (tyOf_same s h)
  | byt b => exact .byt b
  | set e => exact .set (s _ _ e)
  | kList l c => exact .kList l c
  | kTuple l c => exact .kTuple l c
  | kDict l c => exact .kDict l c
  | fTuple e => exact .fTuple (s _ _ e)
  | fDict e => exact .fDict (s _ _ e)
theorem NoTy.same {K : PySem.W.Frag} {T : String} {H H' : Hp} {x : V} (s : Same H H') : NoTy K T H x → NoTy K T H' x := fun ⟨t, h, e⟩ => ⟨t, tyX_same s h, e⟩
theorem NoNum.same {K : PySem.W.Frag} {H H' : Hp} {x : V} (s : Same H H') : NoNum K H x → NoNum K H' x := fun h => h.imp id fun e => e.same s
theorem BadFrom.same {K : PySem.W.Frag} {H H' : Hp} (s : Same H H') : ∀ (xs : List V) (z : Int), BadFrom K H z xs → BadFrom K H' z xs
  | [], _, h => h
  | x :: r, z, h => by
    rcases h with h | ⟨i, e, h⟩
    · exact .inl (h.same s)
    · exact .inr ⟨i, e, h.imp id fun h => h.imp id fun h => BadFrom.same s r i h⟩
theorem NoStairs.same {K : PySem.W.Frag} {H H' : Hp} {x : V} (s : Same H H') : NoStairs K H x → NoStairs K H' x := by
  rintro (h | ⟨a, xs, e, h, b⟩)
  · exact .inl (h.same s)
  · exact .inr ⟨a, xs, e, s _ _ h, b.same s⟩
theorem Stairs.same {H H' : Hp} {x : V} {hs : List Int} (s : Same H H') : Stairs H x hs → Stairs H' x hs := fun ⟨a, e, h, r, p⟩ => ⟨a, e, s _ _ h, r, p⟩
/-- no count -/
def NoCount (K : PySem.W.Frag) (H : Hp) (x : V) : Prop := NoNum K H x ∨ ∃ i, x = .int i ∧ i < 0
theorem NoCount.same {K : PySem.W.Frag} {H H' : Hp} {x : V} (s : Same H H') : NoCount K H x → NoCount K H' x := fun h => h.imp (fun e => e.same s) id
section
variable {P : Program} {w : World} {K : PySem.W.Frag} {mg : Str → Option Value} {base : Heap}
def spCountsX (K : PySem.W.Frag) (C : Addr) : Sp := fun vs H Q E => ∃ x, vs = [x] ∧ NoStairs K H x ∧ E (.ref C) none H
theorem okX_counts {f f1 C : Addr} {fd d1 : FuncData} {m : Nat} (B : Bl mg) (Dcheck_stairs : DfX P w K mg base "check_stairs" (m + 3) ["stairs"] (spCheckX K C) f1 d1) (F : Fun K "counts" "counts" s_counts f fd) :
    FnOk P w K mg base (L2.CX P w) (m + 3 + 1) f fd ["stairs"] (spCountsX K C) := by
  refine F.okX sc_counts (fun vs H Q E h => ?_) (fun cdv A outer s H vs Q E hr h => ?_)
  · obtain ⟨x, rfl, _⟩ := h
    rfl
  · obtain ⟨x, rfl, hn, q⟩ := h
    refine ⟨_, (pss_cons (ps_expr (pe_callS Dcheck_stairs.ok (hr.mono (Nat.le_refl _)) (by rfl) Dcheck_stairs.g Dcheck_stairs.kp Dcheck_stairs.b (fun σ => passAt (takes_of rfl rfl rfl rfl) σ) (pa_cons (pv 0) pa_nil))) (pss_one ps_never)), ?_⟩
    exact ⟨_, rfl, x, rfl, .inr ⟨hn, q⟩⟩
def spFilledX (K : PySem.W.Frag) (C0 C1 : Addr) : Sp := fun vs H Q E => ∃ x y, vs = [x, y] ∧ ((NoStairs K H x ∧ E (.ref C0) none H) ∨ ((∃ hs, Stairs H x hs) ∧ NoCount K H y ∧ E (.ref C1) none H))
theorem okX_filled {f f1 f2 C0 C1 : Addr} {fd d1 d2 : FuncData} {m : Nat} (B : Bl mg) (X : Er K mg "BadCount" C1) (Dcheck_stairs : DfX P w K mg base "check_stairs" (m + 3) ["stairs"] (spCheckX K C0) f1 d1) (Dis_count : Df P w K mg base "is_count" (m + 1) ["value"] (spCount K) f2 d2)
    (F : Fun K "filled" "filled" s_filled f fd) : FnOk P w K mg base (L2.CX P w) (m + 3 + 1) f fd ["stairs", "more"] (spFilledX K C0 C1) := by
  refine F.okX sc_filled (fun vs H Q E h => ?_) (fun cdv A outer s H vs Q E hr h => ?_)
  · obtain ⟨x, y, rfl, _⟩ := h
    rfl
  · obtain ⟨x, y, rfl, h⟩ := h
    refine ⟨_, (pss_cons (ps_expr (pe_callS Dcheck_stairs.ok (hr.mono (Nat.le_refl _)) (by rfl) Dcheck_stairs.g Dcheck_stairs.kp Dcheck_stairs.b (fun σ => passAt (takes_of rfl rfl rfl rfl) σ) (pa_cons (pv 0) pa_nil)))
 (pss_cons (ps_if (pt_not (pt_val (pe_call Dis_count.ok (hr.mono (by omega)) (by rfl) Dis_count.g Dis_count.kp Dis_count.b .nil pass0 (pa_cons (pv 1) pa_nil))))
  (pss_one (ps_raise rfl (takes_of rfl rfl rfl rfl) (pmk_own PySem.F.excBase_ValueError X.e X.g X.k (raises_own X.b X.t) (by rfl))))
  pss_nil)
 (pss_cons ps_never (pss_cons ps_never (pss_one ps_never))))), ?_⟩
    rcases h with ⟨hn, q⟩ | ⟨hs, hn, q⟩
    · exact ⟨_, rfl, x, rfl, .inr ⟨hn, q⟩⟩
    · refine ⟨_, rfl, x, rfl, .inl ⟨hs, _, rfl, y, rfl, ?_⟩⟩
      rcases hn with hn | ⟨i, rfl, hi⟩
      · exact .inr ⟨hn, false, rfl, iteT q⟩
      · refine .inl ⟨i, rfl, _, rfl, ?_⟩
        rw [decide_eq_false (by omega)]
        exact iteT q
end
end TS
namespace TS
open PySem PySem.Spec PyProof.Rows L2
section
variable {P : Program} {w : World} {K : PySem.W.Frag} {mg : Str → Option Value} {base : Heap}
/-- way_of where it refuses: the stairs, the count, the number -/
def spWayX (K : PySem.W.Frag) (C0 C1 C2 : Addr) : Sp := fun vs H Q E => ∃ x y z, vs = [x, y, z] ∧
  ((NoStairs K H x ∧ E (.ref C0) none H) ∨
   ∃ hs, Stairs H x hs ∧ (((NoCount K H y ∨ ∃ i, y = .int i ∧ (hs.length : Int) < i) ∧ E (.ref C1) none H) ∨
     ∃ k : Nat, y = .int (k : Int) ∧ k ≤ hs.length ∧ Good hs ∧ (((NoCount K H z ∨ ∃ i, z = .int i ∧ cntF hs k ≤ i) ∧ ∀ H', Same H H' → E (.ref C2) none H') ∨
       ∃ num : Int, z = .int num ∧ 0 ≤ num ∧ num < cntF hs k ∧ ∀ H' p, Same H H' → H p = none → PL H' p (tw (ch hs hs.length k num)) → Q (.ref p) H')))
theorem okX_way_of {f f1 f2 f3 f4 f5 C0 C1 C2 : Addr} {fd d1 d2 d3 d4 d5 : FuncData} {m : Nat} (B : Bl mg) (X1 : Er K mg "BadCount" C1) (X2 : Er K mg "BadNumber" C2) (Dcheck_stairs : DfX P w K mg base "check_stairs" (m + 3) ["stairs"] (spCheckX K C0) f1 d1) (Dis_count : Df P w K mg base "is_count" (m + 1) ["value"] (spCount K) f2 d2)
    (Dways_up_to : Df P w K mg base "ways_up_to" (m + 2) ["stairs", "most"] (spUpTo K) f3 d3)
    (D_with_rows : Df P w K mg base "_with_rows" (m + 2) ["choices"] spWithRows f4 d4) (D_choices : Df P w K mg base "_choices" (m + 2) ["stairs", "ways", "number"] (spChoices K) f5 d5) (F : Fun K "way_of" "way_of" s_way_of f fd) : FnOk P w K mg base (L2.CX P w) (m + 3 + 1) f fd ["stairs", "many", "number"] (spWayX K C0 C1 C2) := by
  refine F.okX sc_way_of (fun vs H Q E h => ?_) (fun cdv A outer s H vs Q E hr h => ?_)
  · obtain ⟨x, y, z, rfl, _⟩ := h
    rfl
  · obtain ⟨x, y, z, rfl, h⟩ := h
    refine ⟨_, (pss_cons (ps_expr (pe_callS Dcheck_stairs.ok (hr.mono (Nat.le_refl _)) (by rfl) Dcheck_stairs.g Dcheck_stairs.kp Dcheck_stairs.b (fun σ => passAt (takes_of rfl rfl rfl rfl) σ) (pa_cons (pv 0) pa_nil)))
 (pss_cons (ps_if (PW.pt (pw_or (pt_not (pt_val (pe_call Dis_count.ok (hr.mono (by omega)) (by rfl) Dis_count.g Dis_count.kp Dis_count.b .nil pass0 (pa_cons (pv 1) pa_nil)))) (pw_or1 (pt_cmpR op_gt (pv 1) (pe_callB call_len_seq (by rfl) B.len PySem.boot_len (pa_cons (pv 0) pa_nil)) (nomark _)))))
  (pss_one (ps_raise rfl (takes_of rfl rfl rfl rfl) (pmk_own PySem.F.excBase_ValueError X1.e X1.g X1.k (raises_own X1.b X1.t) (by rfl))))
  pss_nil)
 (pss_cons (ps_set (i := 3) sc_way_of.nd rfl (.inl rfl) (pe_call Dways_up_to.ok (hr.mono (by omega)) (by rfl) Dways_up_to.g Dways_up_to.kp Dways_up_to.b .nil pass0 (pa_cons (pv 0) (pa_cons (pv 1) pa_nil))))
 (pss_cons (ps_if (PW.pt (pw_or (pt_not (pt_val (pe_call Dis_count.ok (hr.mono (by omega)) (by rfl) Dis_count.g Dis_count.kp Dis_count.b .nil pass0 (pa_cons (pv 2) pa_nil)))) (pw_or1 (pt_cmpR op_ge (pv 2) (pe_ix ix_list (pv 3) (pv 1) (fun _ _ => rfl)) (nomark _)))))
  (pss_one (ps_raise rfl (takes_of rfl rfl rfl rfl) (pmk_own PySem.F.excBase_ValueError X2.e X2.g X2.k (raises_own X2.b X2.t) (by rfl))))
  pss_nil)
 (pss_one (ps_ret (pe_call D_with_rows.ok (hr.mono (by omega)) (by rfl) D_with_rows.g D_with_rows.kp D_with_rows.b .nil pass0 (pa_cons (pe_call D_choices.ok (hr.mono (by omega)) (by rfl) D_choices.g D_choices.kp D_choices.b .nil pass0 (pa_cons (pv 0) (pa_cons (pv 3) (pa_cons (pv 2) pa_nil)))) pa_nil)))))))), ?_⟩
    rcases h with ⟨hn, q⟩ | ⟨hs, st, h⟩
    · exact ⟨_, rfl, x, rfl, .inr ⟨hn, q⟩⟩
    refine ⟨_, rfl, x, rfl, .inl ⟨⟨hs, st⟩, _, rfl, y, rfl, ?_⟩⟩
    obtain ⟨a, rfl, hA, rise, pos⟩ := st
    rcases h with ⟨(hn | ⟨i, rfl, hi⟩) | ⟨i, rfl, hi⟩, q⟩ | ⟨k, rfl, hk, G, ⟨hz, q⟩ | ⟨num, rfl, n0, n1, q⟩⟩
    · exact .inr ⟨hn, _, rfl, iteT (iteT q)⟩
    · refine .inl ⟨i, rfl, _, rfl, ?_⟩
      rw [decide_eq_false (by omega)]
      exact iteT (iteT q)
    · refine .inl ⟨i, rfl, _, rfl, ?_⟩
      rw [decide_eq_true (by omega)]
      refine iteF ⟨_, rfl, _, rfl, a, _, rfl, .inl (SqL.of hA), _, _, rfl, rfl, _, rfl, ?_⟩
      rw [decide_eq_true (by rw [List.length_map]; omega)]
      exact iteT q
    · have hl := G.len
      refine .inl ⟨_, rfl, _, rfl, ?_⟩
      rw [decide_eq_true (by omega)]
      refine iteF ⟨_, rfl, _, rfl, a, _, rfl, .inl (SqL.of hA), _, _, rfl, rfl, _, rfl, ?_⟩
      rw [decide_eq_false (by rw [List.length_map]; omega)]
      refine iteF ⟨_, rfl, _, rfl, a, hs, k, rfl, SqL.of hA, G, by omega, fun H1 b s1 nb hb => ?_⟩
      have hg : ((tab (cntF hs) (k + 1)).map V.int)[k]? = some (.int (cntF hs k)) := mapI_at (tab_get (by omega))
      rcases hz with (hn | ⟨i, rfl, hi⟩) | ⟨i, rfl, hi⟩
      · exact ⟨_, rfl, z, rfl, .inr ⟨hn.same s1, _, rfl, iteT (iteT (q _ s1))⟩⟩
      · refine ⟨_, rfl, _, rfl, .inl ⟨i, rfl, _, rfl, ?_⟩⟩
        rw [decide_eq_false (by omega)]
        exact iteT (iteT (q _ s1))
      · refine ⟨_, rfl, _, rfl, .inl ⟨i, rfl, _, rfl, ?_⟩⟩
        by_cases h0 : 0 ≤ i
        · rw [decide_eq_true h0]
          refine iteF ⟨_, rfl, _, rfl, _, rfl, b, _, _, _, rfl, rfl, SqL.of hb, atI_nat hg, _, _, rfl, rfl, _, rfl, ?_⟩
          rw [decide_eq_true (by omega)]
          exact iteT (q _ s1)
        · rw [decide_eq_false h0]
          exact iteT (iteT (q _ s1))
    · have hl := G.len
      refine .inl ⟨_, rfl, true, by rw [decide_eq_true (by omega)], iteF ?_⟩
      refine ⟨_, rfl, _, rfl, a, _, rfl, .inl (SqL.of hA), _, _, rfl, rfl, _, rfl, ?_⟩
      rw [decide_eq_false (by rw [List.length_map]; omega)]
      refine iteF ⟨_, rfl, _, rfl, a, hs, k, rfl, SqL.of hA, G, by omega, fun H1 b s1 nb hb => ?_⟩
      refine ⟨_, rfl, _, rfl, .inl ⟨num, rfl, true, by rw [decide_eq_true n0], iteF ?_⟩⟩
      have ecn : cntF hs = cn hs hs.length := by
        show cntF hs = cntF (hs.take hs.length)
        rw [List.take_length]
      rw [ecn] at hb n1
      have hg : ((tab (cn hs hs.length) (k + 1)).map V.int)[k]? = some (.int (cn hs hs.length k)) := mapI_at (tab_get (by omega))
      refine ⟨_, rfl, _, rfl, _, rfl, b, _, _, _, rfl, rfl, SqL.of hb, atI_nat hg, _, _, rfl, rfl, _, rfl, ?_⟩
      rw [decide_eq_false (by omega)]
      refine iteF ?_
      have nab : a ≠ b := ne_of_none hA nb
      refine ⟨_, rfl, _, rfl, _, rfl, a, b, hs, k, num, rfl, s1 _ _ hA, nab, hb, G, by omega, n0, n1, fun H2 c sx nc hc => ?_⟩
      have s2 : Same H H2 := SameX.same s1 nb sx
      have ld : (ch hs hs.length k num).length ≤ 1000 := by
        obtain ⟨ds, e, el⟩ := enc_ex G.pos hs.length (Nat.le_refl _) k num n0 n1
        subst el
        rw [e.ch_eq G.pos (Nat.le_refl _)]
        omega
      exact ⟨c, _, rfl, hc, ld, fun H3 p s3 np hp => q H3 p (s2.trans s3) (s2.free np) hp⟩
end
end TS
namespace TS
open PySem PySem.Spec PyProof.Rows L2
/-- no cell of the stairs -/
def NoCell (K : PySem.W.Frag) (hs : List Int) (H : Hp) (x : V) : Prop := NoTy K "tuple" H x ∨ ∃ t xs, x = .ref t ∧ H t = some (.tup xs) ∧ (xs.length ≠ 2 ∨ ∃ u v, xs = [u, v] ∧
  (NoCount K H u ∨ ∃ i, u = .int i ∧ 0 ≤ i ∧ (NoCount K H v ∨ ∃ j, v = .int j ∧ 0 ≤ j ∧ ((hs.length : Int) ≤ i ∨ ∃ n : Nat, i = (n : Int) ∧ n < hs.length ∧ ht hs n ≤ j))))
/-- a cell of the stairs -/
def ACell (hs : List Int) (H : Hp) (x : V) (q : Nat × Int) : Prop := ∃ t, x = .ref t ∧ H t = some (.tup (cellV q)) ∧ q.1 < hs.length ∧ 0 ≤ q.2 ∧ q.2 < ht hs q.1
section
variable {P : Program} {w : World} {K : PySem.W.Frag} {mg : Str → Option Value} {base : Heap}
def spCellG (K : PySem.W.Frag) : Sp := fun vs H Q _ => ∃ (a : Addr) (hs : List Int) (x : V), vs = [.ref a, x] ∧ H a = some (.lst (hs.map V.int)) ∧ (((∃ q, ACell hs H x q) ∧ Q (.bl true) H) ∨ (NoCell K hs H x ∧ Q (.bl false) H))
theorem okG_is_cell {f fC : Addr} {fd fdC : FuncData} {m : Nat} (B : Bl mg) (Dis_count : Df P w K mg base "is_count" (m + 1) ["value"] (spCount K) fC fdC) (F : Fun K "is_cell" "is_cell" s_is_cell f fd) :
    FnOk P w K mg base CX0 (m + 1 + 1) f fd ["stairs", "cell"] (spCellG K) := by
  refine F.ok sc_is_cell (fun vs H Q E h => ?_) (fun cdv A outer s H vs Q E hr h => ?_)
  · obtain ⟨a, hs, x, rfl, _⟩ := h
    rfl
  · obtain ⟨a, hs, x, rfl, hA, h⟩ := h
    refine ⟨_, (pss_cons (ps_if (PW.pt (pw_or (pt_not (pt_val (pe_callB call_isi (by rfl) B.isinstance (by decide +kernel) (pa_cons (pv 1) (pa_cons (pe_bltn (v := .ty "tuple") (by rfl) B.tuple PyProof.Rows.boot_tuple rfl) pa_nil))))) (pw_or1 (pt_cmpR op_ne (pe_callB call_len_seq (by rfl) B.len PySem.boot_len (pa_cons (pv 1) pa_nil)) pe_int (nomark _)))))
  (pss_one (ps_ret pe_bl))
  pss_nil)
 (pss_cons (ps_asg (pv 1) (pg_tup rfl (pgs_cons (pg_name (i := 2) sc_is_cell.nd rfl (.inl rfl)) (pgs_cons (pg_name (i := 3) sc_is_cell.nd rfl (.inl rfl)) pgs_nil))))
 (pss_cons (ps_if (PW.pt (pw_or (pt_not (pt_val (pe_call Dis_count.ok (hr.mono (Nat.le_refl _)) (by rfl) Dis_count.g Dis_count.kp Dis_count.b .nil pass0 (pa_cons (pv 2) pa_nil)))) (pw_or1 (pt_not (pt_val (pe_call Dis_count.ok (hr.mono (Nat.le_refl _)) (by rfl) Dis_count.g Dis_count.kp Dis_count.b .nil pass0 (pa_cons (pv 3) pa_nil)))))))
  (pss_one (ps_ret pe_bl))
  pss_nil)
 (pss_one (ps_ret (pe_and (pe_cmpR op_lt (pv 2) (pe_callB call_len_seq (by rfl) B.len PySem.boot_len (pa_cons (pv 0) pa_nil)) (nomark _)) (pe_one (pe_cmpR op_lt (pv 3) (pe_ix ix_list (pv 0) (pv 2) (fun _ _ => rfl)) (nomark _))))))))), ?_⟩
    rcases h with ⟨⟨q, t, rfl, hT, c1, c2, c3⟩, k⟩ | ⟨⟨ty, ht1, hk⟩ | ⟨t, xs, rfl, hT, h⟩, k⟩
    · have hT' : SqT K H t (cellV q) := SqT.of hT
      refine ⟨_, rfl, _, _, _, _, true, rfl, .ty _, .base (.tup hT), kit_ty (by decide +kernel), true, rfl, iteF ?_⟩
      refine ⟨_, rfl, t, _, rfl, .inr hT', rfl, _, rfl, ?_⟩
      rw [show (!decide (V.int (((cellV q).length : Nat) : Int) = V.int 2)) = false by rfl]
      refine iteF ⟨_, rfl, t, _, rfl, hT', rfl, _, _, rfl, _, _, rfl, rfl, ?_⟩
      refine ⟨_, rfl, _, rfl, .inl ⟨(q.1 : Int), rfl, true, by rw [decide_eq_true (by omega)], iteF ?_⟩⟩
      refine ⟨_, rfl, _, rfl, .inl ⟨q.2, rfl, true, by rw [decide_eq_true c2], iteF ?_⟩⟩
      refine ⟨_, rfl, _, rfl, a, _, rfl, .inl (SqL.of hA), _, _, rfl, rfl, true, (by show V.bl (decide ((q.1 : Int) < (((hs.map V.int).length : Nat) : Int))) = V.bl true; rw [decide_eq_true (by rw [List.length_map]; omega)]), iteT ?_⟩
      refine ⟨_, rfl, _, rfl, _, rfl, a, _, _, _, rfl, rfl, SqL.of hA, atI_nat (mapI_at (ht_at c1)), _, _, rfl, rfl, ?_⟩
      show Q (V.bl (decide (q.2 < ht hs q.1))) H
      rw [decide_eq_true c3]
      exact k
    · exact ⟨_, rfl, _, _, _, _, false, rfl, .ty _, ht1, hk, false, rfl, iteT (iteT k)⟩
    · have hT' : SqT K H t xs := SqT.of hT
      refine ⟨_, rfl, _, _, _, _, true, rfl, .ty _, .base (.tup hT), kit_ty (by decide +kernel), true, rfl, iteF ?_⟩
      refine ⟨_, rfl, t, _, rfl, .inr hT', rfl, _, rfl, ?_⟩
      rcases h with hl | ⟨u, v, rfl, h⟩
      · rw [show (!decide (V.int ((xs.length : Nat) : Int) = V.int 2)) = true by
          rw [Bool.not_eq_true']
          exact decide_eq_false fun e => hl (Int.ofNat.inj (V.int.inj e))]
        exact iteT k
      rw [show (!decide (V.int ((([u, v] : List V).length : Nat) : Int) = V.int 2)) = false by rfl]
      refine iteF ⟨_, rfl, t, _, rfl, hT', rfl, _, _, rfl, _, _, rfl, rfl, ?_⟩
      refine ⟨_, rfl, _, rfl, ?_⟩
      rcases h with (hn | ⟨i, rfl, hi⟩) | ⟨i, rfl, h0, h⟩
      · exact .inr ⟨hn, _, rfl, iteT (iteT k)⟩
      · refine .inl ⟨i, rfl, _, rfl, ?_⟩
        rw [decide_eq_false (by omega)]
        exact iteT (iteT k)
      refine .inl ⟨i, rfl, true, by rw [decide_eq_true h0], iteF ⟨_, rfl, _, rfl, ?_⟩⟩
      rcases h with (hn | ⟨j, rfl, hj⟩) | ⟨j, rfl, hj, h⟩
      · exact .inr ⟨hn, _, rfl, iteT k⟩
      · refine .inl ⟨j, rfl, _, rfl, ?_⟩
        rw [decide_eq_false (by omega)]
        exact iteT k
      refine .inl ⟨j, rfl, true, by rw [decide_eq_true hj], iteF ?_⟩
      refine ⟨_, rfl, _, rfl, a, _, rfl, .inl (SqL.of hA), _, _, rfl, rfl, _, rfl, ?_⟩
      rcases h with h | ⟨n, rfl, hn, h⟩
      · rw [decide_eq_false (by rw [List.length_map]; omega)]
        exact iteF k
      · rw [decide_eq_true (by rw [List.length_map]; omega)]
        refine iteT ⟨_, rfl, _, rfl, _, rfl, a, _, _, _, rfl, rfl, SqL.of hA, atI_nat (mapI_at (ht_at hn)), _, _, rfl, rfl, ?_⟩
        show Q (V.bl (decide (j < ht hs n))) H
        rw [decide_eq_false (by omega)]
        exact k
end
end TS
namespace TS
open PySem PySem.Spec PyProof.Rows L2
theorem pair0 (q : Nat × Int) : atI (cellV q) 0 = some (.int (q.1 : Int)) := atI_nat (j := 0) rfl
theorem pair1 (q : Nat × Int) : atI (cellV q) 1 = some (.int q.2) := atI_nat (j := 1) rfl
/-- cells from which on the list is bad, z the least column that is due -/
def BadCells (K : PySem.W.Frag) (hs : List Int) (H : Hp) : Int → List V → Prop
  | _, [] => False
  | z, x :: r => NoCell K hs H x ∨ ∃ q, ACell hs H x q ∧ ((q.1 : Int) < z ∨ BadCells K hs H ((q.1 : Int) + 1) r)
/-- cells, columns rising; the rows may come twice -/
structure Cells (hs : List Int) (ts : List (Nat × Int)) : Prop where
  asc : ts.Pairwise fun a b => a.1 < b.1
  cell : ∀ q ∈ ts, q.1 < hs.length ∧ 0 ≤ q.2 ∧ q.2 < ht hs q.1
/-- no list of such cells -/
def NoCells (K : PySem.W.Frag) (hs : List Int) (H : Hp) (x : V) : Prop := NoTy K "list" H x ∨ ∃ b ys, x = .ref b ∧ H b = some (.lst ys) ∧ BadCells K hs H 0 ys
section
variable {P : Program} {w : World} {K : PySem.W.Frag} {mg : Str → Option Value} {base : Heap}
def spTowersG (K : PySem.W.Frag) : Sp := fun vs H Q _ => ∃ (a : Addr) (hs : List Int) (x : V), vs = [.ref a, x] ∧ H a = some (.lst (hs.map V.int)) ∧ ((NoCells K hs H x ∧ Q (.bl false) H) ∨
  ∃ b ts, x = .ref b ∧ PL H b ts ∧ Cells hs ts ∧ ts.length ≤ 1000 ∧ ∀ H', Same H H' → Q (.bl (decide (rowsOf ts).Nodup)) H')
theorem okG_are_towers {f fC : Addr} {fd fdC : FuncData} {m : Nat} (B : Bl mg) (Dis_cell : Df P w K mg base "is_cell" (m + 1) ["stairs", "cell"] (spCellG K) fC fdC) (F : Fun K "are_towers" "are_towers" s_are_towers f fd) :
    FnOk P w K mg base CX0 (m + 1 + 1) f fd ["stairs", "towers"] (spTowersG K) := by
  refine F.ok sc_are_towers (fun vs H Q E h => ?_) (fun cdv A outer s H vs Q E hr h => ?_)
  · obtain ⟨a, hs, x, rfl, _⟩ := h
    rfl
  · obtain ⟨a, hs, x, rfl, hA, h⟩ := h
    refine ⟨_, (pss_cons (ps_if (pt_not (pt_val (pe_callB call_isi (by rfl) B.isinstance (by decide +kernel) (pa_cons (pv 1) (pa_cons (pe_bltn (v := .ty "list") (by rfl) B.list PyProof.Rows.boot_list rfl) pa_nil)))))
  (pss_one (ps_ret pe_bl))
  pss_nil)
 (pss_cons (ps_set (i := 2) sc_are_towers.nd rfl (.inl rfl) pe_int)
 (pss_cons (ps_for PassesOwn.never rfl (pi_list (pv 1)) (pg_name (i := 3) sc_are_towers.nd rfl (.inl rfl))
  (pss_cons (ps_if (PW.pt (pw_or (pt_not (pt_val (pe_call Dis_cell.ok (hr.mono (Nat.le_refl _)) (by rfl) Dis_cell.g Dis_cell.kp Dis_cell.b .nil pass0 (pa_cons (pv 0) (pa_cons (pv 3) pa_nil))))) (pw_or1 (pt_cmpR op_lt (pe_ix ix_tup (pv 3) pe_int (fun _ _ => rfl)) (pv 2) (nomark _)))))
  (pss_one (ps_ret pe_bl))
  pss_nil)
 (pss_one (ps_set (i := 2) sc_are_towers.nd rfl (.inl rfl) (pe_op op_add (pe_ix ix_tup (pv 3) pe_int (fun _ _ => rfl)) pe_int)))))
 (pss_one (ps_ret (pe_cmpR op_eq (pe_callB cr_lenSet (by rfl) B.len PySem.boot_len (pa_cons (pe_sci (own := [("cell", 3)]) (g := gName 3) rfl sc_are_towers.nd (pi_list (pv 1)) (blkOk_by (N := N_are_towers) (sc := defScope s_are_towers) (by decide +kernel)) (fun _ _ _ _ _ => pg_name (i := 3) sc_are_towers.nd rfl (Or.inl rfl)) (fun _ _ _ _ _ => (pe_ix (ixTK (K := K)) (pv 3) pe_int (fun _ _ => rfl)))) pa_nil)) (pe_callB call_len_seq (by rfl) B.len PySem.boot_len (pa_cons (pv 1) pa_nil)) (nomark _))))))), ?_⟩
    rcases h with ⟨⟨ty, ht1, hk⟩ | ⟨b, ys, rfl, hB, bad⟩, k⟩ | ⟨b, ts, rfl, ⟨ps, hB, hP, rfl⟩, Vd, hl, k⟩
    · exact ⟨_, rfl, _, _, _, _, false, rfl, .ty _, ht1, hk, false, rfl, iteT k⟩
    · refine ⟨_, rfl, _, _, _, _, true, rfl, .ty _, .base (.lst hB), kit_ty (by decide +kernel), true, rfl, iteF ?_⟩
      refine ⟨_, rfl, b, rfl, ⟨_, SqL.of hB⟩, for_list (K := K) (a := b) (xs := ys) (fun i σ H' => ∃ (z : Int) (v : Option V), σ = [some (.ref a), some (.ref b), some (.int z), v] ∧ H' = H ∧ BadCells K hs H z (ys.drop i))
        ⟨0, none, rfl, rfl, bad⟩ (fun i σ H' _ ⟨_, _, _, e, _⟩ => by rw [e]; exact SqL.of hB) ?_ ?_⟩
      · rintro i x σ H' hi ⟨z, v, rfl, rfl, hb⟩
        obtain ⟨hl, hx⟩ := List.getElem?_eq_some_iff.mp hi
        rw [List.drop_eq_getElem_cons hl, hx] at hb
        rcases hb with hn | ⟨q, hc, hb⟩
        · exact ⟨_, rfl, _, rfl, a, hs, x, rfl, hA, .inr ⟨hn, _, rfl, iteT (iteT k)⟩⟩
        refine ⟨_, rfl, _, rfl, a, hs, x, rfl, hA, .inl ⟨⟨q, hc⟩, true, rfl, iteF ?_⟩⟩
        obtain ⟨t, rfl, hT, _⟩ := hc
        refine ⟨_, rfl, t, _, _, _, rfl, rfl, SqT.of hT, pair0 q, _, rfl, _, _, rfl, rfl, _, rfl, ?_⟩
        by_cases c : (q.1 : Int) < z
        · rw [decide_eq_true c]
          exact iteT k
        · rw [decide_eq_false c]
          refine iteF ⟨_, rfl, t, _, _, _, rfl, rfl, SqT.of hT, pair0 q, _, _, rfl, rfl, (q.1 : Int) + 1, _, rfl, rfl, ?_⟩
          exact hb.resolve_left c
      · rintro σ H' ⟨z, v, rfl, rfl, hb⟩
        rw [List.drop_length] at hb
        exact hb.elim
    · rw [List.length_map] at hl
      refine ⟨_, rfl, _, _, _, _, true, rfl, .ty _, .base (.lst hB), kit_ty (by decide +kernel), true, rfl, iteF ?_⟩
      refine ⟨_, rfl, b, rfl, ⟨_, SqL.of hB⟩, for_list (K := K) (a := b) (xs := refsT ps) (fun i σ H' => ∃ (z : Int) (v : Option V), σ = [some (.ref a), some (.ref b), some (.int z), v] ∧ H' = H ∧ ∀ q, (ps.map Prod.snd)[i]? = some q → z ≤ (q.1 : Int))
        ⟨0, none, rfl, rfl, fun q _ => by omega⟩ (fun i σ H' _ ⟨_, _, _, e, _⟩ => by rw [e]; exact SqL.of hB) ?_ ?_⟩
      · rintro i x σ H' hi ⟨z, v, rfl, rfl, hz⟩
        obtain ⟨t, q, rfl, hq⟩ := refsT_at hi
        have hq2 := snd_at hq
        have hz' := hz q hq2
        have hT : H' t = some (.tup (cellV q)) := hP _ (List.mem_of_getElem? hq)
        refine ⟨_, rfl, _, rfl, a, hs, _, rfl, hA, .inl ⟨⟨q, t, rfl, hT, Vd.cell q (List.mem_of_getElem? hq2)⟩, true, rfl, iteF ?_⟩⟩
        refine ⟨_, rfl, t, _, _, _, rfl, rfl, SqT.of hT, pair0 q, _, rfl, _, _, rfl, rfl, _, rfl, ?_⟩
        rw [decide_eq_false (by omega)]
        refine iteF ⟨_, rfl, t, _, _, _, rfl, rfl, SqT.of hT, pair0 q, _, _, rfl, rfl, (q.1 : Int) + 1, some (.ref t), rfl, rfl, fun q' hq' => ?_⟩
        obtain ⟨l1, e1⟩ := List.getElem?_eq_some_iff.mp hq2
        obtain ⟨l2, e2⟩ := List.getElem?_eq_some_iff.mp hq'
        have := List.pairwise_iff_getElem.mp Vd.asc i (i + 1) l1 l2 (by omega)
        rw [e1, e2] at this
        omega
      · rintro σ H' ⟨z, v, rfl, rfl, _⟩
        have elen : (rowsOf (ps.map Prod.snd)).length = ps.length := by rw [List.length_map, List.length_map]
        refine ⟨_, rfl, b, rfl, ⟨_, SqL.of hB⟩, fun D nD => sci_list (K := K) (a := b) (xs := refsT ps) (fun i H2 => ∃ S n, Same H' H2 ∧ H2 D = some (SetO w D S n) ∧ (∀ j, S j = true ↔ j ∈ (rowsOf (ps.map Prod.snd)).take i) ∧ n ≤ i ∧ (n = i ↔ ((rowsOf (ps.map Prod.snd)).take i).Nodup))
          ⟨_, 0, same_upd nD, upd_same, fun j => by simp, Nat.le_refl _, by simp⟩ (fun i H2 _ ⟨_, _, e, _⟩ => SqL.of (e _ _ hB)) ?_ ?_⟩
        · rintro i x H2 hi ⟨S, n, sm, hD, hS, hn, he⟩
          obtain ⟨t, q, rfl, hq⟩ := refsT_at hi
          have hT : H2 t = some (.tup (cellV q)) := sm _ _ (hP _ (List.mem_of_getElem? hq))
          have hil : i < ps.length := (List.getElem?_eq_some_iff.mp hq).1
          have hr : (rowsOf (ps.map Prod.snd))[i]? = some q.2 := by rw [List.getElem?_map, snd_at hq]; rfl
          have et : (rowsOf (ps.map Prod.snd)).take (i + 1) = (rowsOf (ps.map Prod.snd)).take i ++ [q.2] := by rw [List.take_add_one, hr]; rfl
          refine ⟨rfl, _, rfl, t, _, _, _, rfl, rfl, SqT.of hT, pair1 q, q.2, S, n, rfl, hD, by unfold scanBound; omega, ?_⟩
          refine ⟨fun j => S j || decide (j = q.2), if S q.2 = true then n else n + 1, same_mut sm nD, upd_same, fun j => ?_, ?_, ?_⟩
          · rw [et, List.mem_append, List.mem_singleton, ← hS j]
            simp
          · split <;> omega
          · rw [et, List.nodup_append]
            have hm := hS q.2
            cases e : S q.2 with
            | true =>
              rw [if_pos rfl]
              have m := hm.mp e
              constructor
              · intro z
                omega
              · rintro ⟨_, _, z⟩
                exact absurd rfl (z _ m _ (List.mem_singleton.mpr rfl))
            | false =>
              rw [if_neg (by simp)]
              have m : q.2 ∉ (rowsOf (ps.map Prod.snd)).take i := fun z => by
                rw [hm.mpr z] at e
                cases e
              constructor
              · intro z
                refine ⟨he.mp (by omega), by simp, fun y hy y' hy' e' => ?_⟩
                rw [List.mem_singleton.mp hy'] at e'
                rw [e'] at hy
                exact m hy
              · rintro ⟨z, _, _⟩
                have := he.mpr z
                omega
        · rintro H2 ⟨S, n, sm, hD, hS, hn, he⟩
          rw [show (refsT ps).length = ps.length from List.length_map _] at hn he
          rw [← elen, List.take_length, elen] at he
          refine ⟨D, S, _, rfl, hD, _, rfl, b, _, rfl, .inl (SqL.of (sm _ _ hB)), rfl, ?_⟩
          have e : decide (V.int (n : Int) = V.int (((refsT ps).length : Nat) : Int)) = decide (rowsOf (ps.map Prod.snd)).Nodup := by
            refine decide_eq_decide.mpr (Iff.trans ?_ he)
            rw [show (refsT ps).length = ps.length from List.length_map _]
            exact ⟨fun z => Int.ofNat.inj (V.int.inj z), fun z => by rw [z]⟩
          rw [e]
          exact k H2 sm
end
end TS
namespace TS
open PySem PySem.Spec PyProof.Rows L2
/-- no towers -/
def NoTowers (K : PySem.W.Frag) (hs : List Int) (H : Hp) (x : V) : Prop := NoCells K hs H x ∨ ∃ b ts, x = .ref b ∧ PL H b ts ∧ Cells hs ts ∧ ts.length ≤ 1000 ∧ ¬ (rowsOf ts).Nodup
section
variable {P : Program} {w : World} {K : PySem.W.Frag} {mg : Str → Option Value} {base : Heap}
def spNumberX (K : PySem.W.Frag) (C0 C3 : Addr) : Sp := fun vs H Q E => ∃ x y, vs = [x, y] ∧ ((NoStairs K H x ∧ E (.ref C0) none H) ∨ ∃ hs, Stairs H x hs ∧ NoTowers K hs H y ∧ ∀ H', Same H H' → E (.ref C3) none H')
theorem okX_number_of {f f1 f2 C0 C3 : Addr} {fd d1 d2 : FuncData} {m : Nat} (X : Er K mg "BadTowers" C3) (Dcheck_stairs : DfX P w K mg base "check_stairs" (m + 3) ["stairs"] (spCheckX K C0) f1 d1) (Dare_towers : Df P w K mg base "are_towers" (m + 3) ["stairs", "towers"] (spTowersG K) f2 d2)
    (F : Fun K "number_of" "number_of" s_number_of f fd) : FnOk P w K mg base (L2.CX P w) (m + 3 + 1) f fd ["stairs", "towers"] (spNumberX K C0 C3) := by
  refine F.okX sc_number_of (fun vs H Q E h => ?_) (fun cdv A outer s H vs Q E hr h => ?_)
  · obtain ⟨x, y, rfl, _⟩ := h
    rfl
  · obtain ⟨x, y, rfl, h⟩ := h
    refine ⟨_, (pss_cons (ps_expr (pe_callS Dcheck_stairs.ok (hr.mono (Nat.le_refl _)) (by rfl) Dcheck_stairs.g Dcheck_stairs.kp Dcheck_stairs.b (fun σ => passAt (takes_of rfl rfl rfl rfl) σ) (pa_cons (pv 0) pa_nil)))
 (pss_cons (ps_if (pt_not (pt_val (pe_call Dare_towers.ok (hr.mono (Nat.le_refl _)) (by rfl) Dare_towers.g Dare_towers.kp Dare_towers.b .nil pass0 (pa_cons (pv 0) (pa_cons (pv 1) pa_nil)))))
  (pss_one (ps_raise rfl (takes_of rfl rfl rfl rfl) (pmk_own PySem.F.excBase_ValueError X.e X.g X.k (raises_own X.b X.t) (by rfl))))
  pss_nil)
 (pss_cons ps_never (pss_cons ps_never (pss_cons ps_never (pss_cons ps_never (pss_cons ps_never (pss_one ps_never)))))))), ?_⟩
    rcases h with ⟨hn, q⟩ | ⟨hs, st, hn, q⟩
    · exact ⟨_, rfl, x, rfl, .inr ⟨hn, q⟩⟩
    refine ⟨_, rfl, x, rfl, .inl ⟨⟨hs, st⟩, ?_⟩⟩
    obtain ⟨a, rfl, hA, _⟩ := st
    refine ⟨_, rfl, _, rfl, a, hs, y, rfl, hA, ?_⟩
    rcases hn with hn | ⟨b, ts, rfl, hP, hc, hl, hr⟩
    · exact .inl ⟨hn, false, rfl, iteT (q _ (Same.refl _))⟩
    · refine .inr ⟨b, ts, rfl, hP, hc, hl, fun H' sm => ?_⟩
      rw [decide_eq_false hr]
      exact ⟨false, rfl, iteT (q _ sm)⟩
/-! the law's askers -/
theorem rise12 : Rise [1, 2] := fun i j x y hij hx hy => by
  match i, j, hij, hx, hy with
  | 0, 0, _, rfl, rfl => decide
  | 0, 1, _, rfl, rfl => decide
  | 1, 1, _, rfl, rfl => decide
  | 1, 0, h, _, _ => omega
  | 0, j + 2, _, _, h => cases h
  | 1, j + 2, _, _, h => cases h
  | i + 2, j, _, h, _ => cases h
def spWithCount (K : PySem.W.Frag) (C1 : Addr) : Sp := fun vs H _ E => ∃ (d : Int) (y : V), vs = [.int d, y] ∧ (NoCount K H y ∨ (d ≠ 0 ∧ ∃ i, y = .int i ∧ 2 < i)) ∧ ∀ H', Same H H' → E (.ref C1) none H'
theorem okX_l_with_count {f f1 f2 C0 C1 C2 : Addr} {fd d1 d2 : FuncData} {m : Nat} (Dfilled : DfX P w K mg base "filled" (m + 1) ["stairs", "more"] (spFilledX K C0 C1) f1 d1) (Dway_of : DfX P w K mg base "way_of" (m + 1) ["stairs", "many", "number"] (spWayX K C0 C1 C2) f2 d2)
    (F : Fun K "_law_with_count" "_law_with_count" s_l_with_count f fd) : FnOk P w K mg base (L2.CX P w) (m + 1 + 1) f fd ["_law_door", "_law_number"] (spWithCount K C1) := by
  refine F.okX sc_l_with_count (fun vs H Q E h => ?_) (fun cdv A outer s H vs Q E hr h => ?_)
  · obtain ⟨d, y, rfl, _⟩ := h
    rfl
  · obtain ⟨d, y, rfl, hn, q⟩ := h
    refine ⟨_, (pss_one (ps_ret (pe_ifExp (pt_cmpR op_eq (pv 0) pe_int (nomark _)) (pe_callS Dfilled.ok (hr.mono (Nat.le_refl _)) (by rfl) Dfilled.g Dfilled.kp Dfilled.b (fun σ => passAt (takes_of rfl rfl rfl rfl) σ) (pa_cons (pe_lst (pa_cons pe_int (pa_cons pe_int pa_nil))) (pa_cons (pv 1) pa_nil))) (pe_callS Dway_of.ok (hr.mono (Nat.le_refl _)) (by rfl) Dway_of.g Dway_of.kp Dway_of.b (fun σ => passAt (takes_of rfl rfl rfl rfl) σ) (pa_cons (pe_lst (pa_cons pe_int (pa_cons pe_int pa_nil))) (pa_cons (pv 1) (pa_cons pe_non pa_nil))))))), ?_⟩
    have st : ∀ p, Stairs (upd H p (.lst [.int 1, .int 2])) (.ref p) [1, 2] := fun p => ⟨p, rfl, upd_same, rise12, by unfold Pos0; decide⟩
    refine ⟨_, rfl, rfl, _, rfl, ite2 (fun c => ?_) (fun c => ?_)⟩
    · have c' : V.int d = V.int 0 := of_decide_eq_true c
      have c2 : d = 0 := V.int.inj c'
      refine ⟨by show 2 ≤ sizeLine; decide, fun p hp => ⟨_, rfl, _, y, rfl, .inr ⟨⟨_, st p⟩, ?_, q _ (same_upd hp)⟩⟩⟩
      rcases hn with hn | ⟨z, _⟩
      · exact hn.same (same_upd hp)
      · exact absurd c2 z
    · refine ⟨by show 2 ≤ sizeLine; decide, fun p hp => ⟨_, rfl, _, y, _, rfl, .inr ⟨_, st p, .inl ⟨?_, q _ (same_upd hp)⟩⟩⟩⟩
      rcases hn with hn | ⟨_, i, e, hi⟩
      · exact .inl (hn.same (same_upd hp))
      · exact .inr ⟨i, e, hi⟩
def spWithNumber (K : PySem.W.Frag) (C2 : Addr) : Sp := fun vs H _ E => ∃ (x y : V) (hs : List Int), vs = [x, y] ∧ Stairs H x hs ∧ Good hs ∧ (NoCount K H y ∨ ∃ i, y = .int i ∧ cntF hs 0 ≤ i) ∧ ∀ H', Same H H' → E (.ref C2) none H'
theorem okX_l_with_number {f f2 C0 C1 C2 : Addr} {fd d2 : FuncData} {m : Nat} (Dway_of : DfX P w K mg base "way_of" (m + 1) ["stairs", "many", "number"] (spWayX K C0 C1 C2) f2 d2)
    (F : Fun K "_law_with_number" "_law_with_number" s_l_with_number f fd) : FnOk P w K mg base (L2.CX P w) (m + 1 + 1) f fd ["_law_stairs_here", "_law_number"] (spWithNumber K C2) := by
  refine F.okX sc_l_with_number (fun vs H Q E h => ?_) (fun cdv A outer s H vs Q E hr h => ?_)
  · obtain ⟨x, y, hs, rfl, _⟩ := h
    rfl
  · obtain ⟨x, y, hs, rfl, st, G, hn, q⟩ := h
    refine ⟨_, (pss_one (ps_ret (pe_callS Dway_of.ok (hr.mono (Nat.le_refl _)) (by rfl) Dway_of.g Dway_of.kp Dway_of.b (fun σ => passAt (takes_of rfl rfl rfl rfl) σ) (pa_cons (pv 0) (pa_cons pe_int (pa_cons (pv 1) pa_nil)))))), ?_⟩
    exact ⟨_, rfl, _, rfl, x, _, y, rfl, .inr ⟨hs, st, .inr ⟨0, rfl, Nat.zero_le _, G, .inl ⟨hn, q⟩⟩⟩⟩
def spWithFirst (K : PySem.W.Frag) (C2 : Addr) : Sp := fun vs H _ E => ∃ (x y : V) (hs : List Int), vs = [x, y] ∧ Stairs H x hs ∧ Good hs ∧ 1 ≤ hs.length ∧ (NoCount K H y ∨ ∃ i, y = .int i ∧ cntF hs 1 ≤ i) ∧ ∀ H', Same H H' → E (.ref C2) none H'
theorem okX_l_with_first {f f2 C0 C1 C2 : Addr} {fd d2 : FuncData} {m : Nat} (Dway_of : DfX P w K mg base "way_of" (m + 1) ["stairs", "many", "number"] (spWayX K C0 C1 C2) f2 d2)
    (F : Fun K "_law_with_first" "_law_with_first" s_l_with_first f fd) : FnOk P w K mg base (L2.CX P w) (m + 1 + 1) f fd ["_law_stairs_here", "_law_number"] (spWithFirst K C2) := by
  refine F.okX sc_l_with_first (fun vs H Q E h => ?_) (fun cdv A outer s H vs Q E hr h => ?_)
  · obtain ⟨x, y, hs, rfl, _⟩ := h
    rfl
  · obtain ⟨x, y, hs, rfl, st, G, h1, hn, q⟩ := h
    refine ⟨_, (pss_one (ps_ret (pe_callS Dway_of.ok (hr.mono (Nat.le_refl _)) (by rfl) Dway_of.g Dway_of.kp Dway_of.b (fun σ => passAt (takes_of rfl rfl rfl rfl) σ) (pa_cons (pv 0) (pa_cons pe_int (pa_cons (pv 1) pa_nil)))))), ?_⟩
    exact ⟨_, rfl, _, rfl, x, _, y, rfl, .inr ⟨hs, st, .inr ⟨1, rfl, h1, G, .inl ⟨hn, q⟩⟩⟩⟩
end
end TS
namespace TS
open PySem PySem.Spec PyProof.Rows L2 L2H
/-- the own classes: StairError at S, those under it -/
structure Cs (K : PySem.W.Frag) (mg : Str → Option Value) (S : Addr) (c : Nat → Addr) : Prop where
  gS : mg "StairError" = some (.ref S)
  g0 : mg "BadStairs" = some (.ref (c 0))
  g1 : mg "BadCount" = some (.ref (c 1))
  g2 : mg "BadNumber" = some (.ref (c 2))
  g3 : mg "BadTowers" = some (.ref (c 3))
  g4 : mg "BadText" = some (.ref (c 4))
/-- what the errors of the j-th class are -/
structure Kind (K : PySem.W.Frag) (S : Addr) (c : Nat → Addr) (j : Nat) : Prop where
  x : ExcC K (c j)
  i0 : PySem.W.kitOne K (.ref (c j)) (.ref (c 0)) = some (decide (j = 0))
  i1 : PySem.W.kitOne K (.ref (c j)) (.ref (c 1)) = some (decide (j = 1))
  i2 : PySem.W.kitOne K (.ref (c j)) (.ref (c 2)) = some (decide (j = 2))
  i3 : PySem.W.kitOne K (.ref (c j)) (.ref (c 3)) = some (decide (j = 3))
  i4 : PySem.W.kitOne K (.ref (c j)) (.ref (c 4)) = some (decide (j = 4))
  iV : PySem.W.kitOne K (.ref (c j)) (.type "ValueError") = some true
  te : PySem.W.exmOne K (.ref (c j)) (.ref S) = some true
def kinds (j : Nat) : List Bool := [decide (j = 0), decide (j = 1), decide (j = 2), decide (j = 3), decide (j = 4), true]
section
variable {P : Program} {w : World} {K : PySem.W.Frag} {mg : Str → Option Value} {base : Heap}
def spKinds (S : Addr) (K : PySem.W.Frag) (c : Nat → Addr) : Addr × Obj → Sp := fun p vs H Q _ => ∃ j, vs = [.ref p.1] ∧ Kind K S c j ∧ Caught (c j) p ∧ ∀ H' a, Same H H' → H a = none → H' a = some (.lst ((kinds j).map V.bl)) → Q (.ref a) H'
theorem okP_l_kinds {S f : Addr} {c : Nat → Addr} {fd : FuncData} {m : Nat} (B : Bl mg) (T : Cs K mg S c) (F : Fun K "_law_kinds" "_law_kinds" s_l_kinds f fd) : FnP P w K mg base (m + 1) f fd ["_law_error"] (spKinds S K c) := by
  refine fun_okP F sc_l_kinds (fun p vs H Q E h => ?_) (fun cdv A outer s H vs Q E p h => ?_)
  · obtain ⟨j, rfl, _⟩ := h
    rfl
  · obtain ⟨j, rfl, kd, cg, q⟩ := h
    refine ⟨_, (pss_cons (ps_set (i := 1) sc_l_kinds.nd rfl (.inl rfl) (pe_lst (pa_cons (pe_callB (isi_err kd.x (by exact List.mem_singleton.mpr rfl) cg) (by rfl) B.isinstance (by decide +kernel) (pa_cons (pv 0) (pa_cons (pe_glob (v := .ref (c 0)) (by rfl) T.g0 rfl) pa_nil))) (pa_cons (pe_callB (isi_err kd.x (by exact List.mem_singleton.mpr rfl) cg) (by rfl) B.isinstance (by decide +kernel) (pa_cons (pv 0) (pa_cons (pe_glob (v := .ref (c 1)) (by rfl) T.g1 rfl) pa_nil))) (pa_cons (pe_callB (isi_err kd.x (by exact List.mem_singleton.mpr rfl) cg) (by rfl) B.isinstance (by decide +kernel) (pa_cons (pv 0) (pa_cons (pe_glob (v := .ref (c 2)) (by rfl) T.g2 rfl) pa_nil))) pa_nil)))))
 (pss_one (ps_ret (pe_op op_cat (pv 1) (pe_lst (pa_cons (pe_callB (isi_err kd.x (by exact List.mem_singleton.mpr rfl) cg) (by rfl) B.isinstance (by decide +kernel) (pa_cons (pv 0) (pa_cons (pe_glob (v := .ref (c 3)) (by rfl) T.g3 rfl) pa_nil))) (pa_cons (pe_callB (isi_err kd.x (by exact List.mem_singleton.mpr rfl) cg) (by rfl) B.isinstance (by decide +kernel) (pa_cons (pv 0) (pa_cons (pe_glob (v := .ref (c 4)) (by rfl) T.g4 rfl) pa_nil))) (pa_cons (pe_callB (isi_err kd.x (by exact List.mem_singleton.mpr rfl) cg) (by rfl) B.isinstance (by decide +kernel) (pa_cons (pv 0) (pa_cons (pe_bltn (v := .ty "ValueError") (by rfl) B.valueError (by decide +kernel) rfl) pa_nil))) pa_nil)))))))), ?_⟩
    refine ⟨_, rfl, .ref (c 0), .ref (c 0), _, rfl, fun _ e => e, kd.i0, _, rfl, .ref (c 1), .ref (c 1), _, rfl, fun _ e => e, kd.i1, _, rfl, .ref (c 2), .ref (c 2), _, rfl, fun _ e => e, kd.i2, by show 3 ≤ sizeLine; decide, fun l nl => ?_⟩
    refine ⟨_, rfl, _, rfl, .ref (c 3), .ref (c 3), _, rfl, fun _ e => e, kd.i3, _, rfl, .ref (c 4), .ref (c 4), _, rfl, fun _ e => e, kd.i4, _, rfl, .ty "ValueError", .type "ValueError", _, rfl, fun _ e => e, kd.iV, by show 3 ≤ sizeLine; decide, fun r nr => ?_⟩
    have s1 : Same H (upd (upd H l (.lst ([decide (j = 0), decide (j = 1), decide (j = 2)].map V.bl))) r (.lst ([decide (j = 3), decide (j = 4), true].map V.bl))) := (same_upd nl).trans (same_upd nr)
    refine ⟨l, r, _, _, rfl, rfl, (upd_ne (ne_of_none (upd_same (o := .lst ([decide (j = 0), decide (j = 1), decide (j = 2)].map V.bl))) nr)).trans upd_same, upd_same, by show 6 ≤ sizeLine; decide, fun a na => ?_⟩
    exact q _ a (s1.trans (same_upd na)) (s1.free na) upd_same
end
end TS
namespace TS
open PySem PySem.Spec PyProof.Rows L2 L2H
/-- a local that holds a def which may raise is called -/
theorem pe_callLX {X : Cx} {CX : CXT} {k i : Nat} {f : Addr} {fd : FuncData} {ps : List Str} {sp : Sp} {E : L2.St → XK} {x : Str} {p pos : Pos} {e : Expr} {es : List Expr} {t : TA} (F : FnOk X.prog X.w X.K X.mg X.base CX k f fd ps sp) (hr : Room k X.A) (hN : X.N[i]? = some x) (hv : Vis X.env.scope x)
    (hk : PySem.W.keepIn X.K (.ref f) = true) (hb : Binds X.K fd ps []) (hx : ∀ σ, PassesAt CX X σ (E σ)) (ha : PA X (e :: es) t) (hdb : (x == ("__debug__" : Str)) = false := by decide) (hcd : (x == ("__classdict__" : Str)) = false := by decide)
    (he : starEach (e :: es) X.env = (false, eval e X.env) :: starEach es X.env := by rfl) (hpl : (backTo pos (starEach es X.env)).any (·.1) = false := by rfl) :
    PE X (.Call (.Name x p) (e :: es) [] pos) (fun σ H Q => σ[i]? = some (some (.ref f)) ∧ t σ H fun vs H1 => sp vs H1 Q (E σ)) := by
  constructor
  rintro pins s σ H Q I ⟨at_i, h⟩
  refine wpAny_Call_Name_kw (thn ((pe_var (pos := p) hN hv hdb hcd).run pins s σ H (fun v H1 => v = .ref f ∧ H1 = H) I ⟨.ref f, at_i, rfl, rfl⟩) ?_)
  rintro u s1 ⟨v, H1, J, rel, rfl, rfl⟩
  cases rel
  refine PySem.W.callWith_K (h₀ := X.base) J.ok.mod.kin hk (thn (ha.run pos pins s1 σ _ _ J h) ?_) he hpl
  rintro us s2 ⟨vs, H2, J2, rel2, q⟩
  exact ⟨J2.kIn, run_fnS F hr hb (hx σ) J2 rel2 q⟩
section
variable {P : Program} {w : World} {K : PySem.W.Frag} {mg : Str → Option Value} {base : Heap}
/-- a def that is given a caught error, with what its callers need -/
structure DfP (P : Program) (w : World) (K : PySem.W.Frag) (mg : Str → Option Value) (base : Heap) (x : Str) (k : Nat) (ps : List Str) (sp : Addr × Obj → Sp) (f : Addr) (fd : FuncData) : Prop where
  ok : FnP P w K mg base k f fd ps sp
  g : mg x = some (.ref f)
  kp : PySem.W.keepIn K (.ref f) = true
  b : Binds K fd ps []
/-- asked, the def raises an error of the j-th class; all that is tracked stands -/
def Refuses (spA : Sp) (c : Nat → Addr) (j : Nat) (vs : List V) (H : Hp) : Prop := ∀ (Q : VK) (E : XK), (∀ H', Same H H' → E (.ref (c j)) none H') → spA vs H Q E
def spTold (fa : Addr) (spA : Sp) (K : PySem.W.Frag) (S : Addr) (c : Nat → Addr) : Sp := fun vs H Q _ => ∃ x y j, vs = [.ref fa, x, y] ∧ Kind K S c j ∧ Refuses spA c j [x, y] H ∧ ∀ H' b, Same H H' → H b = none → H' b = some (.lst ((kinds j).map V.bl)) → Q (.ref b) H'
/-- what the suite's call of _law_kinds reads: the slot that holds the error, its class -/
def tKinds (K : PySem.W.Frag) (S : Addr) (c : Nat → Addr) (a : Addr) (cls : Value) (d : Option Addr) : TE := fun σ H Q => σ[3]? = some (some (.ref a)) ∧ ∃ j, cls = .ref (c j) ∧ d = none ∧ Kind K S c j ∧ ∀ H' b, Same H H' → H b = none → H' b = some (.lst ((kinds j).map V.bl)) → Q (.ref b) H'
theorem ok_l_told {S f fK fa : Addr} {c : Nat → Addr} {fd dK dA : FuncData} {m : Nat} {pA : List Str} {spA : Sp} (T : Cs K mg S c) (Dl_kinds : DfP P w K mg base "_law_kinds" (m + 1) ["_law_error"] (spKinds S K c) fK dK) (A : FnOk P w K mg base (L2.CX P w) (m + 1) fa dA pA spA) (kA : PySem.W.keepIn K (.ref fa) = true) (bA : Binds K dA pA [])
    (F : Fun K "_law_told" "_law_told" s_l_told f fd) : FnOk P w K mg base CX0 (m + 1 + 1) f fd ["_law_ask", "_law_one", "_law_other"] (spTold fa spA K S c) := by
  refine F.ok sc_l_told (fun vs H Q E h => ?_) (fun cdv A' outer s H vs Q E hr h => ?_)
  · obtain ⟨x, y, j, rfl, _⟩ := h
    rfl
  · obtain ⟨x, y, j, rfl, kd, ask, q⟩ := h
    refine ⟨_, (pss_cons (ps_try_as (i := 3) (ts := fun a cls d => tRet (tKinds K S c a cls d)) rfl rfl sc_l_told.nd rfl rfl ⟨rfl, by decide, .inl T.gS⟩ takes0
      (fun W pn xe tk _ => pss_one (ps_expr (pe_callLX (i := 0) A hr rfl (.inl rfl) kA bA (fun σ => passAt tk σ) (by exact pa_cons (pv 1) (pa_cons (pv 2) pa_nil)))))
      (fun a oe cls d pn hz hf => pss_one (ps_ret ?_)))
 (pss_one (ps_ret (pe_lst pa_nil)))), ?_⟩
    · constructor
      rintro pins s σ H Q I ⟨h3, j, rfl, rfl, kd, q⟩
      refine PE.run (t := fun σ H Q => tCons (tVar 3) tNil σ H fun vs H1 => spKinds S K c (a, oe) vs H1 Q fun _ _ _ => False) ?_ pins s σ H Q I ⟨_, h3, j, rfl, kd, ⟨hz, hf⟩, q⟩
      exact pe_callP (p := (a, oe)) Dl_kinds.ok (by exact ⟨hr.dp, hr.un⟩) (by exact List.mem_cons_self) (by rfl) Dl_kinds.g Dl_kinds.kp Dl_kinds.b (by exact (pa_cons (pv 3) pa_nil))
    · refine ⟨rfl, _, rfl, _, rfl, ask _ _ fun H1 s1 => ⟨true, kd.te, fun _ a ha => ?_, fun z => Bool.noConfusion z⟩⟩
      exact ⟨rfl, j, rfl, rfl, kd, fun H2 b s2 n2 h2 => q H2 b (s1.trans s2) (s1.free n2) h2⟩
end
end TS
namespace TS
open PySem PySem.Spec PyProof.Rows L2
/-! the kinds of an error are the due ones -/
def kdat (j : Nat) : PyData := .list ((kinds j).map PyData.bool)
theorem kdat_dp {K : PySem.W.Frag} {H : Hp} {a : Addr} {j : Nat} (h : H a = some (.lst ((kinds j).map V.bl))) : Dp K H (.ref a) (kdat j) :=
  .lst (SqL.of h) (.cons (.bl _) (.cons (.bl _) (.cons (.bl _) (.cons (.bl _) (.cons (.bl _) (.cons (.bl _) .nil))))))
theorem kdat_all (b0 b1 b2 b3 b4 : Bool) : SeqAt.shaped (.list [.bool b0, .bool b1, .bool b2, .bool b3, .bool b4, .bool true]) = true ∧ PyData.eqv (.list [.bool b0, .bool b1, .bool b2, .bool b3, .bool b4, .bool true]) (.list [.bool b0, .bool b1, .bool b2, .bool b3, .bool b4, .bool true]) = true := by
  revert b0 b1 b2 b3 b4
  decide +kernel
theorem kdat_shaped (j : Nat) : SeqAt.shaped (kdat j) = true := (kdat_all _ _ _ _ _).1
theorem kdat_eqv (j : Nat) : PyData.eqv (kdat j) (kdat j) = true := (kdat_all _ _ _ _ _).2
theorem rep_all : ∀ n : Nat, (List.replicate n true).all id = true
  | 0 => rfl
  | n + 1 => by rw [List.replicate_succ, List.all_cons, rep_all n]; rfl
theorem eqDK {X : Cx} {K : PySem.W.Frag} (hu : X.A.units + 64 < cLine) (hk : X.K = K := by rfl) : OpR X (compareOp .Eq) (rEqD K) := by
  subst hk
  exact op_eqD hu
section
variable {P : Program} {w : World} {K : PySem.W.Frag} {mg : Str → Option Value} {base : Heap}
def spAll (fa : Addr) (spA : Sp) (K : PySem.W.Frag) (S : Addr) (c : Nat → Addr) : Sp := fun vs H Q _ => ∃ (ad at_ du : Addr) (ds ts : List V) (j : Nat), vs = [.ref fa, .ref ad, .ref at_, .ref du] ∧ SqL K H ad ds ∧ SqL K H at_ ts ∧ H du = some (.lst ((kinds j).map V.bl)) ∧ Kind K S c j ∧ ts.length ≤ 1000 ∧
  (∀ x ∈ ds, ∀ y ∈ ts, ∀ H', Same H H' → Refuses spA c j [x, y] H') ∧ ∀ H', Same H H' → Q (.bl true) H'
theorem ok_l_all {S f fT fa : Addr} {c : Nat → Addr} {fd dT : FuncData} {m : Nat} {spA : Sp} (B : Bl mg) (Dl_told : Df P w K mg base "_law_told" (m + 1) ["_law_ask", "_law_one", "_law_other"] (spTold fa spA K S c) fT dT)
    (F : Fun K "_law_all" "_law_all" s_l_all f fd) : FnOk P w K mg base CX0 (m + 1 + 1) f fd ["_law_ask", "_law_doors", "_law_things", "_law_due"] (spAll fa spA K S c) := by
  refine F.ok sc_l_all (fun vs H Q E h => ?_) (fun cdv A' outer s H vs Q E hr h => ?_)
  · obtain ⟨ad, at_, du, ds, ts, j, rfl, _⟩ := h
    rfl
  · obtain ⟨ad, at_, du, ds, ts, j, rfl, hD, hT, hU, kd, hl, ask, q⟩ := h
    refine ⟨_, (pss_cons (ps_for PassesOwn.never rfl (pi_list (pv 1)) (pg_name (i := 4) sc_l_all.nd rfl (.inr rfl))
  (pss_one (ps_if (pt_not (pt_val (pe_callB (cr_all rfl) (by rfl) B.all (by decide +kernel) (pa_cons (pe_lc (own := [("_law_thing", 5)]) (g := gName 5) (tt := tYes) rfl sc_l_all.nd (pi_list (pv 2)) (blkOk_by (N := N_l_all) (sc := defScope s_l_all) (by decide +kernel)) (fun _ _ _ _ _ => pg_name (i := 5) sc_l_all.nd rfl (Or.inl rfl)) (fun _ _ _ _ _ => pts_nil) (fun _ _ _ _ _ => (pe_cmpR (eqDK (K := K) hr.units) (pe_call Dl_told.ok (hr.mono (Nat.le_refl _)) (by rfl) Dl_told.g Dl_told.kp Dl_told.b .nil pass0 (pa_cons (pv 0) (pa_cons (pv 4) (pa_cons (pv 5) pa_nil)))) (pv 3) (nomark _)))) pa_nil))))
  (pss_one (ps_ret pe_bl))
  pss_nil)))
 (pss_one (ps_ret pe_bl))), ?_⟩
    refine ⟨_, rfl, ad, rfl, ⟨_, hD⟩, for_list (K := K) (a := ad) (xs := ds) (fun i σ H' => ∃ u v, σ = [some (.ref fa), some (.ref ad), some (.ref at_), some (.ref du), u, v] ∧ Same H H')
      ⟨none, none, rfl, Same.refl _⟩ (fun i σ H' _ ⟨_, _, _, e⟩ => e.seq hD) ?_ ?_⟩
    · rintro i x σ H1 hi ⟨u, v, rfl, s1⟩
      refine ⟨_, rfl, at_, rfl, ⟨_, s1.seq hT⟩, fun D nD => lc_list (K := K) (a := at_) (xs := ts) (fun k H' => Same H1 H' ∧ H' D = some (.lst ((List.replicate k true).map V.bl))) ⟨same_upd nD, upd_same⟩ (fun k H' _ e => e.1.seq (s1.seq hT)) ?_ ?_⟩
      · rintro k y H2 hk ⟨s2, hD2⟩
        have hkl : k < ts.length := (List.getElem?_eq_some_iff.mp hk).1
        have s12 := s1.trans s2
        refine ⟨rfl, _, rfl, _, rfl, _, rfl, x, y, j, rfl, kd, ask x (List.mem_of_getElem? hi) y (List.mem_of_getElem? hk) H2 s12, fun H3 b s3 nb hb => ?_⟩
        have s13 := s12.trans s3
        refine ⟨_, rfl, kdat j, kdat j, kdat_dp hb, kdat_dp (s13 _ _ hU), kdat_shaped j, kdat_shaped j, _, s3 _ _ hD2, ?_, ?_, ?_⟩
        · rw [List.length_map, List.length_replicate]
          exact sz63' (by omega)
        · exact same_mut (s2.trans s3) nD
        · rw [upd_same, kdat_eqv, List.replicate_succ', List.map_append]
          rfl
      · rintro H2 ⟨s2, hD2⟩
        refine ⟨D, _, rfl, SqL.of hD2, true, by rw [rep_all], iteF ?_⟩
        exact ⟨_, _, rfl, s1.trans s2⟩
    · rintro σ H1 ⟨u, v, rfl, s1⟩
      exact q H1 s1
end
end TS
namespace TS
open PySem PySem.Spec PyProof.Rows L2
/-! what is laid stays what it is -/
theorem NoCell.same {K : PySem.W.Frag} {hs : List Int} {H H' : Hp} {x : V} (s : Same H H') : NoCell K hs H x → NoCell K hs H' x := by
  rintro (h | ⟨t, xs, e, h, r⟩)
  · exact .inl (h.same s)
  · refine .inr ⟨t, xs, e, s _ _ h, r.imp id ?_⟩
    rintro ⟨u, v, e, r⟩
    refine ⟨u, v, e, r.imp (fun z => z.same s) ?_⟩
    rintro ⟨i, e1, e2, r⟩
    exact ⟨i, e1, e2, r.imp (fun z => z.same s) id⟩
theorem ACell.same {hs : List Int} {H H' : Hp} {x : V} {q : Nat × Int} (s : Same H H') : ACell hs H x q → ACell hs H' x q := fun ⟨t, e, h, r⟩ => ⟨t, e, s _ _ h, r⟩
theorem BadCells.same {K : PySem.W.Frag} {hs : List Int} {H H' : Hp} (s : Same H H') : ∀ (xs : List V) (z : Int), BadCells K hs H z xs → BadCells K hs H' z xs
  | [], _, h => h
  | x :: r, z, h => by
    rcases h with h | ⟨q, c, h⟩
    · exact .inl (h.same s)
    · exact .inr ⟨q, c.same s, h.imp id fun h => BadCells.same s r _ h⟩
theorem NoCells.same {K : PySem.W.Frag} {hs : List Int} {H H' : Hp} {x : V} (s : Same H H') : NoCells K hs H x → NoCells K hs H' x := by
  rintro (h | ⟨b, ys, e, h, r⟩)
  · exact .inl (h.same s)
  · exact .inr ⟨b, ys, e, s _ _ h, r.same s⟩
theorem NoTowers.same {K : PySem.W.Frag} {hs : List Int} {H H' : Hp} {x : V} (s : Same H H') : NoTowers K hs H x → NoTowers K hs H' x := by
  rintro (h | ⟨b, ts, e, h, r⟩)
  · exact .inl (h.same s)
  · exact .inr ⟨b, ts, e, h.same s, r⟩
/-! displays, told by what their items are -/
/-- e gives a value that is G, all else stands -/
def Gv (te : TE) (σ : L2.St) (H0 : Hp) (G : V → Hp → Prop) : Prop := ∀ H, Same H0 H → ∀ Q : VK, (∀ v H', Same H H' → G v H' → Q v H') → te σ H Q
def GvA (t : TA) (σ : L2.St) (H0 : Hp) (G : V → Hp → Prop) (n : Nat) : Prop := ∀ H, Same H0 H → ∀ Q : List V → Hp → Prop, (∀ vs H', Same H H' → vs.length = n → (∀ v ∈ vs, G v H') → Q vs H') → t σ H Q
/-- e gives u, nothing is laid -/
def Ex (te : TE) (σ : L2.St) (H0 : Hp) (u : V) : Prop := ∀ H, Same H0 H → ∀ Q : VK, Q u H → te σ H Q
section
variable {σ : L2.St} {H0 : Hp} {G : V → Hp → Prop} {te ea eb : TE} {t : TA} {n : Nat} {u v : V}
theorem gva_nil : GvA tNil σ H0 G 0 := fun H _ Q k => k [] H (Same.refl _) rfl (by simp)
theorem gva_cons (st : ∀ x H H', Same H H' → G x H → G x H') (g : Gv te σ H0 G) (ga : GvA t σ H0 G n) : GvA (tCons te t) σ H0 G (n + 1) := fun H s0 Q k =>
  g H s0 _ fun x H1 s1 gx => ga H1 (s0.trans s1) _ fun vs H2 s2 hl hv => k (x :: vs) H2 (s1.trans s2) (by rw [List.length_cons, hl]) fun y hy => by
    rcases List.mem_cons.mp hy with e | hy
    · rw [e]
      exact st x H1 H2 s2 gx
    · exact hv y hy
/-- a list display -/
theorem gv_lst (st : ∀ x H H', Same H H' → G x H → G x H') (ga : GvA t σ H0 G n) (hn : n ≤ sizeLine) {H : Hp} (s0 : Same H0 H) {Q : VK} (k : ∀ p vs H', Same H H' → H p = none → vs.length = n → H' p = some (.lst vs) → (∀ v ∈ vs, G v H') → Q (.ref p) H') : tLst t σ H Q :=
  ga H s0 _ fun vs H1 s1 hl hv => ⟨by rw [hl]; exact hn, fun p hp => k p vs _ (s1.trans (same_upd hp)) (s1.free hp) hl upd_same fun x hx => st x H1 _ (same_upd hp) (hv x hx)⟩
theorem ex_c : Ex (tC u) σ H0 u := fun _ _ _ q => q
theorem ex_var {i : Nat} (h : σ[i]? = some (some u)) : Ex (tVar i) σ H0 u := fun _ _ _ q => ⟨u, h, q⟩
theorem gv_ex (e : Ex te σ H0 u) (g : ∀ H, Same H0 H → G u H) : Gv te σ H0 G := fun H s _ k => e H s _ (k u H (Same.refl _) (g H s))
/-- a tuple of two -/
theorem gv_pair (a : Ex ea σ H0 u) (b : Ex eb σ H0 v) (g : ∀ p H, Same H0 H → H p = some (.tup [u, v]) → G (.ref p) H) : Gv (tTup (tCons ea (tCons eb tNil))) σ H0 G := fun H s _ k =>
  a H s _ (b H s _ ⟨by show 2 ≤ sizeLine; decide, fun p hp => k (.ref p) _ (same_upd hp) (g p _ (s.trans (same_upd hp)) upd_same)⟩)
/-- a list of one such -/
theorem gv_one (a : Ex ea σ H0 u) (b : Ex eb σ H0 v) (g : ∀ p l H, Same H0 H → H p = some (.tup [u, v]) → H l = some (.lst [.ref p]) → G (.ref l) H) : Gv (tLst (tCons (tTup (tCons ea (tCons eb tNil))) tNil)) σ H0 G := fun H s _ k =>
  a H s _ (b H s _ ⟨by show 2 ≤ sizeLine; decide, fun p hp => ⟨by show 1 ≤ sizeLine; decide, fun l hl => k (.ref l) _ ((same_upd hp).trans (same_upd hl)) (g p l _ (s.trans ((same_upd hp).trans (same_upd hl))) ((same_upd hl) _ _ upd_same) upd_same)⟩⟩)
/-- a list of two such -/
theorem gv_two {ec ed : TE} {u' v' : V} (a : Ex ea σ H0 u) (b : Ex eb σ H0 v) (c : Ex ec σ H0 u') (d : Ex ed σ H0 v')
    (g : ∀ p q l H, Same H0 H → H p = some (.tup [u, v]) → H q = some (.tup [u', v']) → p ≠ q → H l = some (.lst [.ref p, .ref q]) → G (.ref l) H) : Gv (tLst (tCons (tTup (tCons ea (tCons eb tNil))) (tCons (tTup (tCons ec (tCons ed tNil))) tNil))) σ H0 G := fun H s _ k =>
  a H s _ (b H s _ ⟨by show 2 ≤ sizeLine; decide, fun p hp => c _ (s.trans (same_upd hp)) _ (d _ (s.trans (same_upd hp)) _ ⟨by show 2 ≤ sizeLine; decide, fun q hq => ⟨by show 2 ≤ sizeLine; decide, fun l hl => by
    have s3 := ((same_upd (o := .tup [u, v]) hp).trans (same_upd (o := .tup [u', v']) hq)).trans (same_upd (o := .lst [.ref p, .ref q]) hl)
    exact k (.ref l) _ s3 (g p q l _ (s.trans s3) ((same_upd hl) _ _ ((same_upd hq) _ _ upd_same)) ((same_upd hl) _ _ upd_same) (ne_of_none upd_same hq) upd_same)⟩⟩)⟩)
end
/-! pairs that are no cells -/
/-- what the two parts of a bad pair are; they are no references -/
def PB (K : PySem.W.Frag) (hs : List Int) (u v : V) : Prop := ∀ H : Hp, NoCount K H u ∨ ∃ i, u = .int i ∧ 0 ≤ i ∧ (NoCount K H v ∨ ∃ j, v = .int j ∧ 0 ≤ j ∧ ((hs.length : Int) ≤ i ∨ ∃ n : Nat, i = (n : Int) ∧ n < hs.length ∧ ht hs n ≤ j))
theorem PB.cell {K : PySem.W.Frag} {hs : List Int} {u v : V} (b : PB K hs u v) {H : Hp} {p : Addr} (h : H p = some (.tup [u, v])) : NoCell K hs H (.ref p) := .inr ⟨p, _, rfl, h, .inr ⟨u, v, rfl, b H⟩⟩
theorem PB.one {K : PySem.W.Frag} {hs : List Int} {u v : V} (b : PB K hs u v) {H : Hp} {p l : Addr} {r : List V} (h : H p = some (.tup [u, v])) (hl : H l = some (.lst (.ref p :: r))) : NoTowers K hs H (.ref l) :=
  .inl (.inr ⟨l, _, rfl, hl, .inl (b.cell h)⟩)
theorem noCount_neg {K : PySem.W.Frag} {H : Hp} {i : Int} (h : i < 0) : NoCount K H (.int i) := .inr ⟨i, rfl, h⟩
theorem noCount_bl {K : PySem.W.Frag} {H : Hp} (b : Bool) : NoCount K H (.bl b) := .inl (.inl ⟨b, rfl⟩)
theorem noCount_str {K : PySem.W.Frag} {H : Hp} (x : Str) : NoCount K H (.str x) := .inl (.inr (noTy_str x (by decide +kernel)))
theorem noCount_non {K : PySem.W.Frag} {H : Hp} : NoCount K H .non := .inl (.inr (noTy_non (by decide +kernel)))
theorem pb_col {K : PySem.W.Frag} {hs : List Int} {v : V} {u : V} (h : ∀ H, NoCount K H u) : PB K hs u v := fun H => .inl (h H)
theorem pb_row {K : PySem.W.Frag} {hs : List Int} {v : V} {i : Int} (h0 : 0 ≤ i) (h : ∀ H, NoCount K H v) : PB K hs (.int i) v := fun H => .inr ⟨i, rfl, h0, .inl (h H)⟩
theorem pb_far {K : PySem.W.Frag} {hs : List Int} {i j : Int} (h0 : 0 ≤ i) (h1 : 0 ≤ j) (h : (hs.length : Int) ≤ i) : PB K hs (.int i) (.int j) := fun H => .inr ⟨i, rfl, h0, .inr ⟨j, rfl, h1, .inl h⟩⟩
theorem pb_high {K : PySem.W.Frag} {hs : List Int} {n : Nat} {j : Int} (h1 : 0 ≤ j) (hn : n < hs.length) (h : ht hs n ≤ j) : PB K hs (.int (n : Int)) (.int j) := fun H => .inr ⟨n, rfl, by omega, .inr ⟨j, rfl, h1, .inr ⟨n, rfl, hn, h⟩⟩⟩
end TS
namespace TS
open PySem PySem.Spec PyProof.Rows L2
/-! the law's lists that are no towers -/
theorem two_bad {K : PySem.W.Frag} {hs : List Int} {H : Hp} {p q l : Addr} {a b : Nat × Int} (hp : H p = some (.tup (cellV a))) (hq : H q = some (.tup (cellV b))) (hl : H l = some (.lst [.ref p, .ref q])) (ca : a.1 < hs.length ∧ 0 ≤ a.2 ∧ a.2 < ht hs a.1) (cb : b.1 < hs.length ∧ 0 ≤ b.2 ∧ b.2 < ht hs b.1)
    (h : a.2 = b.2 ∨ b.1 ≤ a.1) : NoTowers K hs H (.ref l) := by
  by_cases c : b.1 ≤ a.1
  · exact .inl (.inr ⟨l, _, rfl, hl, .inr ⟨a, ⟨p, rfl, hp, ca⟩, .inr (.inr ⟨b, ⟨q, rfl, hq, cb⟩, .inl (by omega)⟩)⟩⟩)
  · have e := h.resolve_right c
    refine .inr ⟨l, [a, b], rfl, ⟨[(p, a), (q, b)], hl, (Tps.one hp).app (Tps.one hq), rfl⟩, ⟨?_, ?_⟩, by show 2 ≤ 1000; decide, ?_⟩
    · simp; omega
    · intro x hx
      simp at hx
      rcases hx with rfl | rfl
      · exact ca
      · exact cb
    · show ¬ ([a.2, b.2] : List Int).Nodup
      rw [e]
      simp
theorem two_one {K : PySem.W.Frag} {hs : List Int} {n : Nat} {i j : Int} (hn : n < hs.length) (hi : 0 ≤ i) (hj : 0 ≤ j) (p q l : Addr) (H : Hp) (hp : H p = some (.tup [.int (n : Int), .int i])) (hq : H q = some (.tup [.int (n : Int), .int j])) (hl : H l = some (.lst [.ref p, .ref q])) : NoTowers K hs H (.ref l) := by
  by_cases c : i < ht hs n
  · by_cases d : j < ht hs n
    · exact two_bad (a := (n, i)) (b := (n, j)) hp hq hl ⟨hn, hi, c⟩ ⟨hn, hj, d⟩ (.inr (Nat.le_refl _))
    · exact .inl (.inr ⟨l, _, rfl, hl, .inr ⟨(n, i), ⟨p, rfl, hp, hn, hi, c⟩, .inr (.inl ((pb_high hj hn (by omega)).cell hq))⟩⟩)
  · exact (pb_high hi hn (by omega)).one hp hl
theorem two_last {K : PySem.W.Frag} {hs : List Int} {n : Nat} (rise : Rise hs) (hn : n < hs.length) (p q l : Addr) (H : Hp) (hp : H p = some (.tup [.int (n : Int), .int 0])) (hq : H q = some (.tup [.int ((hs.length - 1 : Nat) : Int), .int 0])) (hl : H l = some (.lst [.ref p, .ref q])) : NoTowers K hs H (.ref l) := by
  by_cases c : 0 < ht hs n
  · have := rise n (hs.length - 1) _ _ (by omega) (ht_at hn) (ht_at (by omega))
    exact two_bad (a := (n, 0)) (b := (hs.length - 1, 0)) hp hq hl ⟨hn, Int.le_refl _, c⟩ ⟨by show hs.length - 1 < hs.length; omega, Int.le_refl _, by show (0 : Int) < ht hs (hs.length - 1); omega⟩ (.inl rfl)
  · exact (pb_high (Int.le_refl _) hn (by omega)).one hp hl
/-- the loop's turns: range(0, len, 1 + len // 6) -/
def turns (L : Nat) : Nat := (L + L / 6) / (1 + L / 6)
theorem turns_fin : ∀ L : Fin 64, turns L.val ≤ 12 ∧ RgC 0 (L.val : Int) (1 + (L.val : Int) / 6) (turns L.val) ∧ ∀ i : Fin 12, i.val < turns L.val → i.val * (1 + L.val / 6) < L.val := by
  unfold RgC
  decide +kernel
theorem turns_rg {L : Nat} (h : L ≤ 63) : RgC 0 (L : Int) (1 + (L : Int) / 6) (turns L) := (turns_fin ⟨L, by omega⟩).2.1
theorem turns_le {L : Nat} (h : L ≤ 63) : turns L ≤ 12 := (turns_fin ⟨L, by omega⟩).1
theorem turns_in {L i : Nat} (h : L ≤ 63) (hi : i < turns L) : i * (1 + L / 6) < L := (turns_fin ⟨L, by omega⟩).2.2 ⟨i, Nat.lt_of_lt_of_le hi (turns_le h)⟩ hi
theorem asg_lst {i n : Nat} {t : TA} {D : Ends} {σ : L2.St} {H H0 : Hp} {G : V → Hp → Prop} (st : ∀ x H H', Same H H' → G x H → G x H') (ga : GvA t σ H0 G n) (hn : n ≤ sizeLine) (s0 : Same H0 H) (k : ∀ p vs H', Same H H' → H p = none → vs.length = n → H' p = some (.lst vs) → (∀ v ∈ vs, G v H') → D.nx (σ.set i (some (.ref p))) H') :
    tAsg (tLst t) (gName i) D σ H := gv_lst st ga hn s0 fun p vs H' a b c d e => k p vs H' a b c d e
theorem asg_cat {i n : Nat} {t : TA} {D : Ends} {σ : L2.St} {H H0 : Hp} {G : V → Hp → Prop} {l : Addr} {xs : List V} (st : ∀ x H H', Same H H' → G x H → G x H') (at_i : σ[i]? = some (some (.ref l))) (hl : H l = some (.lst xs)) (gx : ∀ x ∈ xs, G x H) (ga : GvA t σ H0 G n) (hn : xs.length + n ≤ sizeLine) (s0 : Same H0 H)
    (k : ∀ p vs H', Same H H' → H p = none → vs.length = xs.length + n → H' p = some (.lst vs) → (∀ v ∈ vs, G v H') → D.nx (σ.set i (some (.ref p))) H') : tAsg (tOp rCat (tVar i) (tLst t)) (gName i) D σ H :=
  ⟨_, at_i, gv_lst st ga (by omega) s0 fun q ys H1 s1 nq hy hq gq => ⟨l, q, xs, ys, rfl, rfl, s1 _ _ hl, hq, by omega, fun p hp => k p (xs ++ ys) _ (s1.trans (same_upd hp)) (s1.free hp) (by rw [List.length_append, hy]) upd_same fun x hx => by
    refine st x H1 _ (same_upd hp) ?_
    rcases List.mem_append.mp hx with hx | hx
    · exact st x H H1 s1 (gx x hx)
    · exact gq x hx⟩⟩
theorem gname_in {i : Nat} {v : V} {σ : L2.St} {H : Hp} {Q : L2.St → Hp → Prop} (h : Q (σ.set i (some v)) H) : gName i v σ H Q := h
theorem seq_asg {te : TE} {g : TG} {b : TS} {D : Ends} {σ : L2.St} {H : Hp} (h : te σ H fun v H1 => g v σ H1 fun σ2 H2 => b D σ2 H2) : tSeq (tAsg te g) b D σ H := h
theorem rise_high {hs : List Int} {t : Int} (rise : Rise hs) (h : ∀ x ∈ hs, x + 2 ≤ t) : Rise (hs.map (· + 2) ++ [t, t]) := by
  have two : ∀ k y, ([t, t] : List Int)[k]? = some y → y = t := fun k y e => by
    have := List.mem_of_getElem? e
    simp at this
    exact this
  intro i j x y hij hx hy
  rw [List.getElem?_append] at hx hy
  split at hy
  · split at hx
    · rw [List.getElem?_map] at hx hy
      cases ex : hs[i]? with
      | none => rw [ex] at hx; cases hx
      | some a =>
        cases ey : hs[j]? with
        | none => rw [ey] at hy; cases hy
        | some b =>
          rw [ex] at hx
          rw [ey] at hy
          cases hx
          cases hy
          have := rise i j a b hij ex ey
          show a + 2 ≤ b + 2
          omega
    · omega
  · rw [two _ _ hy]
    split at hx
    · rw [List.getElem?_map] at hx
      cases ex : hs[i]? with
      | none => rw [ex] at hx; cases hx
      | some a =>
        rw [ex] at hx
        cases hx
        exact h a (List.mem_of_getElem? ex)
    · rw [two _ _ hx]
      exact Int.le_refl _
section
variable {P : Program} {w : World} {K : PySem.W.Frag} {mg : Str → Option Value} {base : Heap}
def spTowersRight (K : PySem.W.Frag) (S : Addr) (c : Nat → Addr) : Sp := fun vs H Q _ => ∃ (a du : Addr) (hs : List Int) (far : Int), vs = [.ref a, .ref du, .int far] ∧ H a = some (.lst (hs.map V.int)) ∧ Rise hs ∧ Pos0 hs ∧ hs.length ≤ 63 ∧ (∀ x ∈ hs, x + 2 ≤ 10 ^ 60) ∧ 0 ≤ far ∧ H du = some (.lst ((kinds 3).map V.bl)) ∧ Kind K S c 3 ∧ ∀ H', Same H H' → Q (.bl true) H'
/-- number_of refuses what is no towers -/
theorem refuses_num {K : PySem.W.Frag} {C0 a : Addr} {c : Nat → Addr} {hs : List Int} {H : Hp} {y : V} (hA : H a = some (.lst (hs.map V.int))) (rise : Rise hs) (pos : Pos0 hs) (h : NoTowers K hs H y) : Refuses (spNumberX K C0 (c 3)) c 3 [.ref a, y] H := fun Q E k =>
  ⟨.ref a, y, rfl, .inr ⟨hs, ⟨a, rfl, hA, rise, pos⟩, h, k⟩⟩
theorem ok_l_towers_right {S f fN fT C0 : Addr} {c : Nat → Addr} {fd dT : FuncData} {m : Nat} (B : Bl mg) (gN : mg "number_of" = some (.ref fN)) (Dl_told : Df P w K mg base "_law_told" (m + 1) ["_law_ask", "_law_one", "_law_other"] (spTold fN (spNumberX K C0 (c 3)) K S c) fT dT)
    (F : Fun K "_law_towers_right" "_law_towers_right" s_l_towers_right f fd) : FnOk P w K mg base CX0 (m + 1 + 1) f fd ["_law_stairs_here", "_law_due", "_law_far_here"] (spTowersRight K S c) := by
  refine F.ok sc_l_towers_right (fun vs H Q E h => ?_) (fun cdv A' outer s H vs Q E hr h => ?_)
  · obtain ⟨a, du, hs, far, rfl, _⟩ := h
    rfl
  · obtain ⟨a, du, hs, far, rfl, hA, rise, pos, hl, high, far0, hU, kd, q⟩ := h
    refine ⟨_, (pss_cons (ps_set (i := 3) sc_l_towers_right.nd rfl (.inl rfl) (pe_lst (pa_cons pe_non (pa_cons (pe_tup pa_nil) (pa_cons pe_str (pa_cons pe_dnewK (pa_cons pe_int (pa_cons (pe_lst (pa_cons pe_non pa_nil)) (pa_cons (pe_lst (pa_cons pe_int pa_nil)) (pa_cons (pe_lst (pa_cons (pe_tup (pa_cons pe_int pa_nil)) pa_nil)) (pa_cons (pe_lst (pa_cons (pe_tup (pa_cons pe_int (pa_cons pe_int (pa_cons pe_int pa_nil)))) pa_nil)) (pa_cons (pe_lst (pa_cons (pe_lst (pa_cons pe_int (pa_cons pe_int pa_nil))) pa_nil)) (pa_cons (pe_lst (pa_cons (pe_tup (pa_cons (pe_un un_neg pe_int) (pa_cons pe_int pa_nil))) pa_nil)) (pa_cons (pe_lst (pa_cons (pe_tup (pa_cons (pe_callB call_len_seq (by rfl) B.len PySem.boot_len (pa_cons (pv 0) pa_nil)) (pa_cons pe_int pa_nil))) pa_nil)) pa_nil))))))))))))))
 (pss_cons (ps_set (i := 3) sc_l_towers_right.nd rfl (.inl rfl) (pe_op op_cat (pv 3) (pe_lst (pa_cons (pe_lst (pa_cons (pe_tup (pa_cons (pe_op op_add (pe_callB call_len_seq (by rfl) B.len PySem.boot_len (pa_cons (pv 0) pa_nil)) (pv 2)) (pa_cons pe_int pa_nil))) pa_nil)) (pa_cons (pe_lst (pa_cons (pe_tup (pa_cons pe_int (pa_cons (pe_un un_neg pe_int) pa_nil))) pa_nil)) (pa_cons (pe_lst (pa_cons (pe_tup (pa_cons pe_int (pa_cons (pe_op op_sub (pe_un un_neg pe_int) (pv 2)) pa_nil))) pa_nil)) (pa_cons (pe_lst (pa_cons (pe_tup (pa_cons pe_bl (pa_cons pe_int pa_nil))) pa_nil)) (pa_cons (pe_lst (pa_cons (pe_tup (pa_cons pe_str (pa_cons pe_int pa_nil))) pa_nil)) (pa_cons (pe_lst (pa_cons (pe_tup (pa_cons pe_int (pa_cons pe_non pa_nil))) pa_nil)) pa_nil)))))))))
 (pss_cons (ps_for PassesOwn.never rfl (pi_range3 rfl B.range (pa_cons pe_int (pa_cons (pe_callB call_len_seq (by rfl) B.len PySem.boot_len (pa_cons (pv 0) pa_nil)) (pa_cons (pe_op op_add pe_int (pe_op op_fdiv (pe_callB call_len_seq (by rfl) B.len PySem.boot_len (pa_cons (pv 0) pa_nil)) pe_int)) pa_nil)))) (pg_name (i := 4) sc_l_towers_right.nd rfl (.inl rfl))
  (pss_cons (ps_set (i := 3) sc_l_towers_right.nd rfl (.inl rfl) (pe_op op_cat (pv 3) (pe_lst (pa_cons (pe_lst (pa_cons (pe_tup (pa_cons (pv 4) (pa_cons (pe_ix ix_list (pv 0) (pv 4) (fun _ _ => rfl)) pa_nil))) pa_nil)) (pa_cons (pe_lst (pa_cons (pe_tup (pa_cons (pv 4) (pa_cons (pe_op op_add (pe_ix ix_list (pv 0) (pv 4) (fun _ _ => rfl)) (pv 2)) pa_nil))) pa_nil)) (pa_cons (pe_lst (pa_cons (pe_tup (pa_cons (pv 4) (pa_cons pe_bl pa_nil))) pa_nil)) pa_nil))))))
 (pss_one (ps_set (i := 3) sc_l_towers_right.nd rfl (.inl rfl) (pe_op op_cat (pv 3) (pe_lst (pa_cons (pe_lst (pa_cons (pe_tup (pa_cons (pv 4) (pa_cons pe_int pa_nil))) (pa_cons (pe_tup (pa_cons (pv 4) (pa_cons pe_int pa_nil))) pa_nil))) (pa_cons (pe_lst (pa_cons (pe_tup (pa_cons (pv 4) (pa_cons pe_int pa_nil))) (pa_cons (pe_tup (pa_cons (pe_op op_sub (pe_callB call_len_seq (by rfl) B.len PySem.boot_len (pa_cons (pv 0) pa_nil)) pe_int) (pa_cons pe_int pa_nil))) pa_nil))) pa_nil))))))))
 (pss_cons (ps_if (pt_not (pt_val (pe_callB (cr_all rfl) (by rfl) B.all (by decide +kernel) (pa_cons (pe_lc (own := [("_law_thing", 7)]) (g := gName 7) (tt := tYes) rfl sc_l_towers_right.nd (pi_list (pv 3)) (blkOk_by (N := N_l_towers_right) (sc := defScope s_l_towers_right) (by decide +kernel)) (fun _ _ _ _ _ => pg_name (i := 7) sc_l_towers_right.nd rfl (Or.inl rfl)) (fun _ _ _ _ _ => pts_nil) (fun _ _ _ _ _ => (pe_cmpR (eqDK (K := K) hr.units) (pe_call Dl_told.ok (hr.mono (Nat.le_refl _)) (by rfl) Dl_told.g Dl_told.kp Dl_told.b .nil pass0 (pa_cons (pe_glob (v := .ref fN) (by rfl) gN rfl) (pa_cons (pv 0) (pa_cons (pv 7) pa_nil)))) (pv 1) (nomark _)))) pa_nil))))
  (pss_one (ps_ret pe_bl))
  pss_nil)
 (pss_cons (ps_set (i := 5) sc_l_towers_right.nd rfl (.inr rfl) (pe_op op_cat (pe_lc (own := [("_law_height", 8)]) (g := gName 8) (tt := tYes) rfl sc_l_towers_right.nd (pi_list (pv 0)) (blkOk_by (N := N_l_towers_right) (sc := defScope s_l_towers_right) (by decide +kernel)) (fun _ _ _ _ _ => pg_name (i := 8) sc_l_towers_right.nd rfl (Or.inl rfl)) (fun _ _ _ _ _ => pts_nil) (fun _ _ _ _ _ => (pe_op op_add (pv 8) pe_int))) (pe_op op_rep (pe_lst (pa_cons (pe_op op_add (pv 2) (pe_op op_pow pe_int pe_int)) pa_nil)) pe_int)))
 (pss_cons (ps_set (i := 6) sc_l_towers_right.nd rfl (.inl rfl) (pe_lst (pa_cons (pe_lst (pa_cons (pe_tup (pa_cons pe_int (pa_cons pe_int pa_nil))) (pa_cons (pe_tup (pa_cons pe_int (pa_cons pe_int pa_nil))) pa_nil))) (pa_cons (pe_lst (pa_cons (pe_tup (pa_cons pe_int (pa_cons pe_int pa_nil))) (pa_cons (pe_tup (pa_cons (pe_op op_add (pe_callB call_len_seq (by rfl) B.len PySem.boot_len (pa_cons (pv 0) pa_nil)) pe_int) (pa_cons pe_int pa_nil))) pa_nil))) (pa_cons (pe_lst (pa_cons (pe_tup (pa_cons pe_int (pa_cons pe_int pa_nil))) (pa_cons (pe_tup (pa_cons pe_int (pa_cons pe_int pa_nil))) pa_nil))) (pa_cons (pe_lst (pa_cons (pe_tup (pa_cons pe_int (pa_cons pe_int pa_nil))) (pa_cons (pe_tup (pa_cons (pe_callB call_len_seq (by rfl) B.len PySem.boot_len (pa_cons (pv 0) pa_nil)) (pa_cons pe_int pa_nil))) pa_nil))) pa_nil))))))
 (pss_one (ps_ret (pe_callB (cr_all rfl) (by rfl) B.all (by decide +kernel) (pa_cons (pe_lc (own := [("_law_thing", 7)]) (g := gName 7) (tt := tYes) rfl sc_l_towers_right.nd (pi_list (pv 6)) (blkOk_by (N := N_l_towers_right) (sc := defScope s_l_towers_right) (by decide +kernel)) (fun _ _ _ _ _ => pg_name (i := 7) sc_l_towers_right.nd rfl (Or.inl rfl)) (fun _ _ _ _ _ => pts_nil) (fun _ _ _ _ _ => (pe_cmpR (eqDK (K := K) hr.units) (pe_call Dl_told.ok (hr.mono (Nat.le_refl _)) (by rfl) Dl_told.g Dl_told.kp Dl_told.b .nil pass0 (pa_cons (pe_glob (v := .ref fN) (by rfl) gN rfl) (pa_cons (pv 5) (pa_cons (pv 7) pa_nil)))) (pv 1) (nomark _)))) pa_nil)))))))))), ?_⟩
    have st : ∀ x H H', Same H H' → NoTowers K hs H x → NoTowers K hs H' x := fun x H H' s h => h.same s
    have stl : ∀ {H' : Hp}, Same H H' → SqL K H' a (hs.map V.int) := fun s => SqL.of (s _ _ hA)
    have la : ∀ H', Same H H' → ∃ p ys, [V.ref a] = [V.ref p] ∧ (SqL K H' p ys ∨ SqT K H' p ys) ∧ ys.length = hs.length := fun H' s => ⟨a, _, rfl, .inl (stl s), List.length_map _⟩
    refine asg_lst (H0 := H) (n := 12) st ?d1 (by decide) (Same.refl _) fun p1 ys1 H1 s1 n1 l1 e1 g1 => ?_
    case d1 =>
      refine gva_cons st (gv_ex ex_c fun H _ => .inl (.inl (noTy_non (by decide +kernel)))) (gva_cons st ?e2 (gva_cons st (gv_ex ex_c fun H _ => .inl (.inl (noTy_str _ (by decide +kernel)))) (gva_cons st ?e4 (gva_cons st (gv_ex ex_c fun H _ => .inl (.inl (noTy_int _ (by decide +kernel)))) (gva_cons st ?e6 (gva_cons st ?e7 (gva_cons st ?e8 (gva_cons st ?e9 (gva_cons st ?e10 (gva_cons st ?e11 (gva_cons st ?e12 gva_nil)))))))))))
      case e2 => exact fun H s Q k => ⟨by decide, fun p hp => k (.ref p) _ (same_upd hp) (.inl (.inl (noTy_tup upd_same (by decide +kernel))))⟩
      case e4 => exact fun H s Q k => fun p hp => k (.ref p) _ (same_upd hp) (.inl (.inl (noTy_dict upd_same (by decide +kernel))))
      case e6 => exact fun H s Q k => ⟨by show 1 ≤ sizeLine; decide, fun p hp => k (.ref p) _ (same_upd hp) (.inl (.inr ⟨p, _, rfl, upd_same, .inl (.inl (noTy_non (by decide +kernel)))⟩))⟩
      case e7 => exact fun H s Q k => ⟨by show 1 ≤ sizeLine; decide, fun p hp => k (.ref p) _ (same_upd hp) (.inl (.inr ⟨p, _, rfl, upd_same, .inl (.inl (noTy_int _ (by decide +kernel)))⟩))⟩
      case e8 => exact fun H s Q k => ⟨by show 1 ≤ sizeLine; decide, fun t ht1 => ⟨by show 1 ≤ sizeLine; decide, fun p hp => k (.ref p) _ ((same_upd ht1).trans (same_upd hp)) (.inl (.inr ⟨p, _, rfl, upd_same, .inl (.inr ⟨t, _, rfl, (same_upd hp) _ _ upd_same, .inl (by simp)⟩)⟩))⟩⟩
      case e9 => exact fun H s Q k => ⟨by show 3 ≤ sizeLine; decide, fun t ht1 => ⟨by show 1 ≤ sizeLine; decide, fun p hp => k (.ref p) _ ((same_upd ht1).trans (same_upd hp)) (.inl (.inr ⟨p, _, rfl, upd_same, .inl (.inr ⟨t, _, rfl, (same_upd hp) _ _ upd_same, .inl (by simp)⟩)⟩))⟩⟩
      case e10 => exact fun H s Q k => ⟨by show 2 ≤ sizeLine; decide, fun t ht1 => ⟨by show 1 ≤ sizeLine; decide, fun p hp => k (.ref p) _ ((same_upd ht1).trans (same_upd hp)) (.inl (.inr ⟨p, _, rfl, upd_same, .inl (.inl (noTy_lst ((same_upd hp) _ _ upd_same) (by decide +kernel)))⟩))⟩⟩
      case e11 => exact gv_one (u := .int (-1)) (v := .int 0) (fun H s Q q => ⟨1, rfl, q⟩) ex_c fun p l H s hp hl => (pb_col fun H => noCount_neg (by decide)).one hp hl
      case e12 => exact gv_one (u := .int (((hs.map V.int).length : Nat) : Int)) (v := .int 0) (fun H s Q q => ⟨_, rfl, a, _, rfl, .inl (stl s), q⟩) ex_c fun p l H s hp hl => (pb_far (by omega) (by decide) (by rw [List.length_map]; exact Int.le_refl _)).one hp hl
    refine asg_cat (H0 := H) (n := 6) (xs := ys1) st rfl e1 g1 ?d2 (by rw [l1]; decide) s1 fun p2 ys2 H2 s2 n2 l2 e2 g2 => ?_
    case d2 =>
      refine gva_cons st ?f1 (gva_cons st ?f2 (gva_cons st ?f3 (gva_cons st ?f4 (gva_cons st ?f5 (gva_cons st ?f6 gva_nil)))))
      case f1 => exact gv_one (u := .int ((((hs.map V.int).length : Nat) : Int) + far)) (v := .int 0) (fun H s Q q => ⟨_, rfl, a, _, rfl, .inl (stl s), _, rfl, _, _, rfl, rfl, q⟩) ex_c fun p l H s hp hl => (pb_far (by omega) (by decide) (by rw [List.length_map]; omega)).one hp hl
      case f2 => exact gv_one (u := .int 0) (v := .int (-1)) ex_c (fun H s Q q => ⟨1, rfl, q⟩) fun p l H s hp hl => (pb_row (by decide) fun H => noCount_neg (by decide)).one hp hl
      case f3 => exact gv_one (u := .int 0) (v := .int (-1 - far)) ex_c (fun H s Q q => ⟨1, rfl, _, rfl, _, _, rfl, rfl, q⟩) fun p l H s hp hl => (pb_row (by decide) fun H => noCount_neg (by omega)).one hp hl
      case f4 => exact gv_one (u := .bl true) (v := .int 0) ex_c ex_c fun p l H s hp hl => (pb_col fun H => noCount_bl _).one hp hl
      case f5 => exact gv_one (v := .int 0) ex_c ex_c fun p l H s hp hl => (pb_col fun H => noCount_str _).one hp hl
      case f6 => exact gv_one (u := .int 0) (v := .non) ex_c ex_c fun p l H s hp hl => (pb_row (by decide) fun H => noCount_non).one hp hl
    rw [l1] at l2
    have s02 := s1.trans s2
    refine ⟨_, rfl, a, _, rfl, .inl (stl s02), _, rfl, a, _, rfl, .inl (stl s02), _, _, rfl, rfl, ⟨by decide, by decide⟩, _, _, rfl, rfl, 0, _, _, turns hs.length, rfl, by rw [List.length_map]; exact turns_rg hl, ?_⟩
    refine for_rangeC (fun i σ H' => ∃ p ys v, σ = [some (.ref a), some (.ref du), some (.int far), some (.ref p), v, none, none, none, none] ∧ Same H H' ∧ H' p = some (.lst ys) ∧ ys.length ≤ 18 + 5 * i ∧ ∀ y ∈ ys, NoTowers K hs H' y)
      ⟨p2, ys2, none, rfl, s02, e2, by omega, g2⟩ ?_ ?_
    · rintro i σ H' hi ⟨p, ys, v, rfl, sm, hp, hy, gy⟩
      have hi12 := turns_le hl
      have hc : i * (1 + hs.length / 6) < hs.length := turns_in hl hi
      have ec : (0 : Int) + (i : Int) * (1 + (((hs.map V.int).length : Nat) : Int) / 6) = ((i * (1 + hs.length / 6) : Nat) : Int) := by
        rw [List.length_map, Int.zero_add, Int.natCast_mul, Int.natCast_add, Int.natCast_ediv]
        rfl
      rw [ec]
      generalize i * (1 + hs.length / 6) = n at hc
      have h0 : 0 ≤ ht hs n := pos _ (List.mem_of_getElem? (ht_at hc))
      have xi : ∀ {σ : L2.St}, σ[0]? = some (some (.ref a)) → σ[4]? = some (some (.int (n : Int))) → Ex (tOp (rIxL K) (tVar 0) (tVar 4)) σ H (.int (ht hs n)) := fun c0 c4 H s Q q => ⟨_, c0, _, c4, a, _, _, _, rfl, rfl, stl s, atI_nat (mapI_at (ht_at hc)), q⟩
      have xl : ∀ {σ : L2.St}, σ[0]? = some (some (.ref a)) → Ex (tOp (rI0 fun i j => .int (i - j)) (tCB (fun xs H Q => ∃ p ys, xs = [.ref p] ∧ (SqL K H p ys ∨ SqT K H p ys) ∧ Q (.int ys.length) H) (tCons (tVar 0) tNil)) (tC (.int 1))) σ H (.int ((hs.length - 1 : Nat) : Int)) := fun c0 H s Q q => by
        refine ⟨_, c0, a, _, rfl, .inl (stl s), _, _, rfl, rfl, ?_⟩
        have e : (((hs.map V.int).length : Nat) : Int) - 1 = ((hs.length - 1 : Nat) : Int) := by
          rw [List.length_map]
          omega
        show Q (.int ((((hs.map V.int).length : Nat) : Int) - 1)) H
        rw [e]
        exact q
      refine asg_cat (H0 := H) (n := 3) (xs := ys) st rfl hp gy ?d3 (Nat.le_trans (m := 1000) (by omega) (by decide)) sm fun p3 ys3 H3 s3 n3 l3 e3 g3 => ?_
      case d3 =>
        refine gva_cons st ?h1 (gva_cons st ?h2 (gva_cons st ?h3 gva_nil))
        case h1 => exact gv_one (u := .int (n : Int)) (v := .int (ht hs n)) (ex_var rfl) (xi rfl rfl) fun p l H s hp hl => (pb_high h0 hc (Int.le_refl _)).one hp hl
        case h2 => exact gv_one (u := .int (n : Int)) (v := .int (ht hs n + far)) (ex_var rfl) (fun H s Q q => xi rfl rfl H s _ ⟨_, rfl, _, _, rfl, rfl, q⟩) fun p l H s hp hl => (pb_high (by omega) hc (by omega)).one hp hl
        case h3 => exact gv_one (u := .int (n : Int)) (v := .bl false) (ex_var rfl) ex_c fun p l H s hp hl => (pb_row (by omega) fun H => noCount_bl _).one hp hl
      refine asg_cat (H0 := H) (n := 2) (xs := ys3) st rfl e3 g3 ?d4 (Nat.le_trans (m := 1000) (by omega) (by decide)) (sm.trans s3) fun p4 ys4 H4 s4 n4 l4 e4 g4 => ?_
      case d4 =>
        refine gva_cons st ?h4 (gva_cons st ?h5 gva_nil)
        case h4 => exact gv_two (u := .int (n : Int)) (v := .int 0) (u' := .int (n : Int)) (v' := .int 1) (ex_var rfl) ex_c (ex_var rfl) ex_c fun p q l H s hp hq _ hl => two_one hc (by decide) (by decide) p q l H hp hq hl
        case h5 => exact gv_two (u := .int (n : Int)) (v := .int 0) (u' := .int ((hs.length - 1 : Nat) : Int)) (v' := .int 0) (ex_var rfl) ex_c (xl rfl) ex_c fun p q l H s hp hq _ hl => two_last rise hc p q l H hp hq hl
      exact ⟨p4, ys4, _, rfl, (sm.trans s3).trans s4, e4, by omega, g4⟩
    · rintro σ H3 ⟨p, ys, v, rfl, s3, hp, hy, gy⟩
      have t12 := turns_le hl
      have hA3 : H3 a = some (.lst (hs.map V.int)) := s3 _ _ hA
      refine ⟨_, rfl, p, rfl, ⟨_, SqL.of hp⟩, fun D nD => lc_list (K := K) (a := p) (xs := ys) (fun k H' => Same H3 H' ∧ H' D = some (.lst ((List.replicate k true).map V.bl))) ⟨same_upd nD, upd_same⟩ (fun k H' _ e => e.1.seq (SqL.of hp)) ?_ ?_⟩
      · rintro k y H4 hk ⟨s4, hD4⟩
        have hkl : k < ys.length := (List.getElem?_eq_some_iff.mp hk).1
        refine ⟨rfl, _, rfl, _, rfl, .ref a, y, 3, rfl, kd, refuses_num (s4 _ _ hA3) rise pos ((gy y (List.mem_of_getElem? hk)).same s4), fun H5 b s5 nb hb => ?_⟩
        refine ⟨_, rfl, kdat 3, kdat 3, kdat_dp hb, kdat_dp ((s3.trans (s4.trans s5)) _ _ hU), kdat_shaped 3, kdat_shaped 3, _, s5 _ _ hD4, ?_, ?_, ?_⟩
        · rw [List.length_map, List.length_replicate]
          exact sz63' (by omega)
        · exact same_mut (s4.trans s5) nD
        · rw [upd_same, kdat_eqv, List.replicate_succ', List.map_append]
          rfl
      rintro H4 ⟨s4, hD4⟩
      refine ⟨D, _, rfl, SqL.of hD4, true, by rw [rep_all], iteF ?_⟩
      have s04 := s3.trans s4
      -- the higher stairs
      refine ⟨_, rfl, a, rfl, ⟨_, stl s04⟩, fun D2 nD2 => lc_list (K := K) (a := a) (xs := hs.map V.int) (fun k H' => Same H4 H' ∧ H' D2 = some (.lst (((hs.map (· + 2)).take k).map V.int))) ⟨same_upd nD2, upd_same⟩ (fun k H' _ e => stl (s04.trans e.1)) ?_ ?_⟩
      · rintro k x H5 hk ⟨s5, hD5⟩
        obtain ⟨t, rfl, ht5⟩ := mapI_get hk
        have hkl : k < hs.length := (List.getElem?_eq_some_iff.mp ht5).1
        refine ⟨rfl, _, rfl, _, _, rfl, rfl, _, hD5, ?_, same_mut s5 nD2, ?_⟩
        · rw [List.length_map, List.length_take, List.length_map]
          exact sz63' (by omega)
        · rw [upd_same, List.take_add_one, List.getElem?_map, ht5, List.map_append]
          rfl
      rintro H5 ⟨s5, hD5⟩
      rw [List.length_map, show hs.length = (hs.map (· + 2)).length from (List.length_map _).symm, List.take_length] at hD5
      have s05 := s04.trans s5
      have ht60 : ∀ x ∈ hs, x + 2 ≤ far + 10 ^ 60 := fun x hx => by
        have := high x hx
        omega
      refine ⟨_, rfl, _, _, rfl, rfl, ⟨by decide, by decide, by decide⟩, _, _, rfl, rfl, by show 1 ≤ sizeLine; decide, fun l nl => ?_⟩
      refine ⟨l, 2, _, rfl, rfl, upd_same, by decide, by decide, by show 2 ≤ sizeLine; decide, fun p6 np6 => ?_⟩
      have s57 : Same H5 (upd (upd H5 l (.lst [.int (far + 10 ^ 60)])) p6 (.lst (List.replicate 2 [V.int (far + 10 ^ 60)]).flatten)) := (same_upd nl).trans (same_upd np6)
      refine ⟨D2, p6, _, _, rfl, rfl, s57 _ _ hD5, upd_same, ?_, fun ph nph => ?_⟩
      · rw [List.length_map, List.length_map]
        exact Nat.le_trans (m := 1000) (by show hs.length + 2 ≤ 1000; omega) (by decide)
      have eh : upd (upd (upd H5 l (.lst [.int (far + 10 ^ 60)])) p6 (.lst (List.replicate 2 [V.int (far + 10 ^ 60)]).flatten)) ph (.lst ((hs.map (· + 2)).map V.int ++ (List.replicate 2 [V.int (far + 10 ^ 60)]).flatten)) ph = some (.lst ((hs.map (· + 2) ++ [far + 10 ^ 60, far + 10 ^ 60]).map V.int)) := by
        rw [upd_same, List.map_append]
        rfl
      have s56 := s57.trans (same_upd (o := .lst ((hs.map (· + 2)).map V.int ++ (List.replicate 2 [V.int (far + 10 ^ 60)]).flatten)) nph)
      have rise2 := rise_high (t := far + 10 ^ 60) rise ht60
      have low2 : ∀ x ∈ hs.map (· + 2) ++ [far + 10 ^ 60, far + 10 ^ 60], 2 ≤ x := by
        intro x hx
        rcases List.mem_append.mp hx with hx | hx
        · obtain ⟨y, hy2, rfl⟩ := List.mem_map.mp hx
          have := pos y hy2
          show 2 ≤ y + 2
          omega
        · simp at hx
          omega
      have len2 : (hs.map (· + 2) ++ [far + 10 ^ 60, far + 10 ^ 60]).length = hs.length + 2 := by
        rw [List.length_append, List.length_map]
        rfl
      show gName 5 (V.ref ph) _ (upd (upd (upd H5 l (.lst [.int (far + 10 ^ 60)])) p6 (.lst (List.replicate 2 [V.int (far + 10 ^ 60)]).flatten)) ph (.lst ((hs.map (· + 2)).map V.int ++ (List.replicate 2 [V.int (far + 10 ^ 60)]).flatten))) _
      generalize upd (upd (upd H5 l (.lst [.int (far + 10 ^ 60)])) p6 (.lst (List.replicate 2 [V.int (far + 10 ^ 60)]).flatten)) ph (.lst ((hs.map (· + 2)).map V.int ++ (List.replicate 2 [V.int (far + 10 ^ 60)]).flatten)) = H6 at eh s56 ⊢
      refine gname_in ?_
      generalize hs.map (· + 2) ++ [far + 10 ^ 60, far + 10 ^ 60] = hs2 at eh rise2 low2 len2
      have s06 := s05.trans s56
      have st2 : ∀ x H H', Same H H' → NoTowers K hs2 H x → NoTowers K hs2 H' x := fun x H H' s h => h.same s
      have low : ∀ i, i < hs2.length → 2 ≤ ht hs2 i := fun i hi => low2 _ (List.mem_of_getElem? (ht_at hi))
      dsimp only
      refine asg_lst (H0 := H6) (n := 4) st2 ?d5 (by decide) (Same.refl _) fun p7 ys7 H7 s7 n7 l7 e7 g7 => ?_
      case d5 =>
        have in2 : ∀ (i : Nat) (r : Int), i < hs.length + 2 → r = 0 ∨ r = 1 → i < hs2.length ∧ 0 ≤ r ∧ r < ht hs2 i := fun i r hi hr => by
          have := low i (by omega)
          exact ⟨by omega, by omega, by omega⟩
        refine gva_cons st2 ?b1 (gva_cons st2 ?b2 (gva_cons st2 ?b3 (gva_cons st2 ?b4 gva_nil)))
        case b1 => exact gv_two (u := .int 1) (v := .int 0) (u' := .int 0) (v' := .int 1) ex_c ex_c ex_c ex_c fun p q l H s hp hq _ hl => two_bad (a := (1, 0)) (b := (0, 1)) hp hq hl (in2 1 0 (by omega) (.inl rfl)) (in2 0 1 (by omega) (.inr rfl)) (.inr (by decide))
        case b2 =>
          refine gv_two (u := .int 0) (v := .int 1) (u' := .int ((hs.length + 1 : Nat) : Int)) (v' := .int 1) ex_c ex_c ?_ ex_c fun p q l H s hp hq _ hl => two_bad (a := (0, 1)) (b := (hs.length + 1, 1)) hp hq hl (in2 0 1 (by omega) (.inr rfl)) (in2 (hs.length + 1) 1 (by omega) (.inr rfl)) (.inl rfl)
          intro H s Q q
          refine ⟨_, rfl, a, _, rfl, .inl (stl (s06.trans s)), _, _, rfl, rfl, ?_⟩
          have e : (((hs.map V.int).length : Nat) : Int) + 1 = ((hs.length + 1 : Nat) : Int) := by
            rw [List.length_map]
            omega
          show Q (.int ((((hs.map V.int).length : Nat) : Int) + 1)) H
          rw [e]
          exact q
        case b3 => exact gv_two (u := .int 0) (v := .int 0) (u' := .int 0) (v' := .int 1) ex_c ex_c ex_c ex_c fun p q l H s hp hq _ hl => two_bad (a := (0, 0)) (b := (0, 1)) hp hq hl (in2 0 0 (by omega) (.inl rfl)) (in2 0 1 (by omega) (.inr rfl)) (.inr (by decide))
        case b4 =>
          refine gv_two (u := .int 0) (v := .int 0) (u' := .int ((hs.length : Nat) : Int)) (v' := .int 0) ex_c ex_c ?_ ex_c fun p q l H s hp hq _ hl => two_bad (a := (0, 0)) (b := (hs.length, 0)) hp hq hl (in2 0 0 (by omega) (.inl rfl)) (in2 hs.length 0 (by omega) (.inl rfl)) (.inl rfl)
          intro H s Q q
          refine ⟨_, rfl, a, _, rfl, .inl (stl (s06.trans s)), ?_⟩
          show Q (.int ((((hs.map V.int).length : Nat) : Int))) H
          rw [List.length_map]
          exact q
      have s07 := s06.trans s7
      have eh7 := s7 _ _ eh
      refine ⟨_, rfl, p7, rfl, ⟨_, SqL.of e7⟩, fun D3 nD3 => lc_list (K := K) (a := p7) (xs := ys7) (fun k H' => Same H7 H' ∧ H' D3 = some (.lst ((List.replicate k true).map V.bl))) ⟨same_upd nD3, upd_same⟩ (fun k H' _ e => e.1.seq (SqL.of e7)) ?_ ?_⟩
      · rintro k y H8 hk ⟨s8, hD8⟩
        have hkl : k < ys7.length := (List.getElem?_eq_some_iff.mp hk).1
        refine ⟨rfl, _, rfl, _, rfl, .ref ph, y, 3, rfl, kd, refuses_num (s8 _ _ eh7) rise2 (fun x hx => Int.le_trans (by decide) (low2 x hx)) ((g7 y (List.mem_of_getElem? hk)).same s8), fun H9 b s9 nb hb => ?_⟩
        refine ⟨_, rfl, kdat 3, kdat 3, kdat_dp hb, kdat_dp ((s07.trans (s8.trans s9)) _ _ hU), kdat_shaped 3, kdat_shaped 3, _, s9 _ _ hD8, ?_, ?_, ?_⟩
        · rw [List.length_map, List.length_replicate]
          exact sz63' (by omega)
        · exact same_mut (s8.trans s9) nD3
        · rw [upd_same, kdat_eqv, List.replicate_succ', List.map_append]
          rfl
      rintro H8 ⟨s8, hD8⟩
      refine ⟨D3, _, rfl, SqL.of hD8, ?_⟩
      rw [rep_all]
      exact q _ (s07.trans s8)
end
end TS
namespace TS
open PySem PySem.Spec PyProof.Rows L2
/-! the law's lists that are no stairs -/
theorem bad_pre {K : PySem.W.Frag} {H : Hp} {r : List V} : ∀ (pre : List Int) (z : Int), BadFrom K H (pre.getLastD z) r → BadFrom K H z (pre.map V.int ++ r)
  | [], _, h => h
  | x :: pre, z, h => .inr ⟨x, rfl, .inr (.inr (bad_pre pre x (by
    cases pre with
    | nil => exact h
    | cons y t => exact h)))⟩
/-- a bad item at some place -/
theorem bad_item {K : PySem.W.Frag} {H : Hp} {x : V} {r : List V} {pre : List Int} {z : Int} (h : NoCount K H x) : BadFrom K H z (pre.map V.int ++ x :: r) := bad_pre pre z (by
  rcases h with h | ⟨i, e, h⟩
  · exact .inl h
  · exact .inr ⟨i, e, .inl h⟩)
/-- an item less than the one ahead -/
theorem bad_less {K : PySem.W.Frag} {H : Hp} {r : List V} {pre : List Int} {y i z : Int} (hl : pre.getLast? = some y) (h : i < y) : BadFrom K H z (pre.map V.int ++ .int i :: r) := bad_pre pre z (by
  have e : pre.getLastD z = y := by
    rw [List.getLastD_eq_getLast?, hl]
    rfl
  rw [e]
  exact .inr ⟨i, rfl, .inr (.inl h)⟩)
theorem no_lst {K : PySem.W.Frag} {H : Hp} {p : Addr} {xs : List V} (h : H p = some (.lst xs)) (b : BadFrom K H 0 xs) : NoStairs K H (.ref p) := .inr ⟨p, xs, rfl, h, b⟩
section
variable {σ : L2.St} {H0 : Hp} {G : V → Hp → Prop} {te ea eb ec : TE} {u v w' : V}
theorem gv_l1 (a : Ex ea σ H0 u) (g : ∀ l H, Same H0 H → H l = some (.lst [u]) → G (.ref l) H) : Gv (tLst (tCons ea tNil)) σ H0 G := fun H s _ k =>
  a H s _ ⟨by show 1 ≤ sizeLine; decide, fun l hl => k (.ref l) _ (same_upd hl) (g l _ (s.trans (same_upd hl)) upd_same)⟩
theorem gv_l2 (a : Ex ea σ H0 u) (b : Ex eb σ H0 v) (g : ∀ l H, Same H0 H → H l = some (.lst [u, v]) → G (.ref l) H) : Gv (tLst (tCons ea (tCons eb tNil))) σ H0 G := fun H s _ k =>
  a H s _ (b H s _ ⟨by show 2 ≤ sizeLine; decide, fun l hl => k (.ref l) _ (same_upd hl) (g l _ (s.trans (same_upd hl)) upd_same)⟩)
theorem gv_l3 (a : Ex ea σ H0 u) (b : Ex eb σ H0 v) (c : Ex ec σ H0 w') (g : ∀ l H, Same H0 H → H l = some (.lst [u, v, w']) → G (.ref l) H) : Gv (tLst (tCons ea (tCons eb (tCons ec tNil)))) σ H0 G := fun H s _ k =>
  a H s _ (b H s _ (c H s _ ⟨by show 3 ≤ sizeLine; decide, fun l hl => k (.ref l) _ (same_upd hl) (g l _ (s.trans (same_upd hl)) upd_same)⟩))
end
/-- one tower: as many ways as cells -/
theorem cntF_one {hs : List Int} (pos : Pos0 hs) : cntF hs 1 = hs.sum := by
  induction hs using snoc_ind with
  | h0 => rfl
  | h1 xs x ih =>
    have px : Pos0 xs := fun y hy => pos y (List.mem_append_left _ hy)
    have h0 : 0 ≤ x := pos x (by simp)
    rw [cntF_snoc, stp_succ, ih px, cntF_zero, List.sum_append]
    simp only [List.sum_cons, List.sum_nil]
    split <;> omega
end TS
namespace TS
open PySem PySem.Spec PyProof.Rows L2
/-! what stage 2's defs refuse -/
/-- the module's constants -/
structure Cn (mg : Str → Option Value) : Prop where
  high : ∃ t, mg "TOO_HIGH" = some (.int (10 ^ 60) t)
  none : ∃ t, mg "NO_COLUMNS" = some (.str "-" t)
/-- stairs that no text tells -/
def Great (H : Hp) (x : V) : Prop := ∃ hs h, Stairs H x hs ∧ hs.getLast? = some h ∧ 10 ^ 60 ≤ h
theorem Great.same {H H' : Hp} {x : V} (s : Same H H') : Great H x → Great H' x := fun ⟨hs, h, a, b⟩ => ⟨hs, h, a.same s, b⟩
section
variable {P : Program} {w : World} {K : PySem.W.Frag} {mg : Str → Option Value} {base : Heap}
theorem okX_fullest {f f1 C : Addr} {fd d1 : FuncData} {m : Nat} (Dcheck_stairs : DfX P w K mg base "check_stairs" (m + 3) ["stairs"] (spCheckX K C) f1 d1) (F : Fun K "fullest" "fullest" s_fullest f fd) :
    FnOk P w K mg base (L2.CX P w) (m + 3 + 1) f fd ["stairs"] (spCountsX K C) := by
  refine F.okX sc_fullest (fun vs H Q E h => ?_) (fun cdv A outer s H vs Q E hr h => ?_)
  · obtain ⟨x, rfl, _⟩ := h
    rfl
  · obtain ⟨x, rfl, hn, q⟩ := h
    refine ⟨_, (pss_cons (ps_expr (pe_callS Dcheck_stairs.ok (hr.mono (Nat.le_refl _)) (by rfl) Dcheck_stairs.g Dcheck_stairs.kp Dcheck_stairs.b (fun σ => passAt (takes_of rfl rfl rfl rfl) σ) (pa_cons (pv 0) pa_nil))) pss_never), ?_⟩
    exact ⟨_, rfl, x, rfl, .inr ⟨hn, q⟩⟩
theorem okX_plain {f f1 C : Addr} {fd d1 : FuncData} {m : Nat} (Dfullest : DfX P w K mg base "fullest" (m + 3) ["stairs"] (spCountsX K C) f1 d1) (F : Fun K "plain" "plain" s_plain f fd) :
    FnOk P w K mg base (L2.CX P w) (m + 3 + 1) f fd ["stairs"] (spCountsX K C) := by
  refine F.okX sc_plain (fun vs H Q E h => ?_) (fun cdv A outer s H vs Q E hr h => ?_)
  · obtain ⟨x, rfl, _⟩ := h
    rfl
  · obtain ⟨x, rfl, hn, q⟩ := h
    refine ⟨_, (pss_cons (ps_set (i := 1) sc_plain.nd rfl (.inl rfl) (pe_fld (pe_callS Dfullest.ok (hr.mono (Nat.le_refl _)) (by rfl) Dfullest.g Dfullest.kp Dfullest.b (fun σ => passAt (takes_of rfl rfl rfl rfl) σ) (pa_cons (pv 0) pa_nil)) rfl)) pss_never), ?_⟩
    exact ⟨_, rfl, x, rfl, hn, q⟩
def spAlikeX (K : PySem.W.Frag) (C : Addr) : Sp := fun vs H Q E => ∃ x y, vs = [x, y] ∧ (NoStairs K H x ∨ ((∃ hs, Stairs H x hs) ∧ NoStairs K H y)) ∧ E (.ref C) none H
theorem okX_alike {f f1 C : Addr} {fd d1 : FuncData} {m : Nat} (Dcheck_stairs : DfX P w K mg base "check_stairs" (m + 3) ["stairs"] (spCheckX K C) f1 d1) (F : Fun K "alike" "alike" s_alike f fd) :
    FnOk P w K mg base (L2.CX P w) (m + 3 + 1) f fd ["one", "other"] (spAlikeX K C) := by
  refine F.okX sc_alike (fun vs H Q E h => ?_) (fun cdv A outer s H vs Q E hr h => ?_)
  · obtain ⟨x, y, rfl, _⟩ := h
    rfl
  · obtain ⟨x, y, rfl, hn, q⟩ := h
    refine ⟨_, (pss_cons (ps_expr (pe_callS Dcheck_stairs.ok (hr.mono (Nat.le_refl _)) (by rfl) Dcheck_stairs.g Dcheck_stairs.kp Dcheck_stairs.b (fun σ => passAt (takes_of rfl rfl rfl rfl) σ) (pa_cons (pv 0) pa_nil)))
      (pss_cons (ps_expr (pe_callS Dcheck_stairs.ok (hr.mono (Nat.le_refl _)) (by rfl) Dcheck_stairs.g Dcheck_stairs.kp Dcheck_stairs.b (fun σ => passAt (takes_of rfl rfl rfl rfl) σ) (pa_cons (pv 1) pa_nil))) pss_never)), ?_⟩
    rcases hn with hn | ⟨hs, hn⟩
    · exact ⟨_, rfl, x, rfl, .inr ⟨hn, q⟩⟩
    · exact ⟨_, rfl, x, rfl, .inl ⟨hs, _, rfl, y, rfl, .inr ⟨hn, q⟩⟩⟩
/-- written: refused, or the text -/
def textOf (hs : List Int) : Str := Txt.join " " (hs.map fun h => (toString h : Str))
def spWrittenX (K : PySem.W.Frag) (C : Addr) : Sp := fun vs H Q E => ∃ x, vs = [x] ∧ (((NoStairs K H x ∨ Great H x) ∧ E (.ref C) none H) ∨
  ∃ hs, Stairs H x hs ∧ hs ≠ [] ∧ hs.length ≤ 1000 ∧ (∀ h ∈ hs, h < 10 ^ 60) ∧ ∀ H', Same H H' → Q (.str (textOf hs)) H')
theorem take_snoc {hs : List Int} {j : Nat} {y : Int} (e : hs[j]? = some y) : hs.take (j + 1) = hs.take j ++ [y] := by rw [List.take_succ, e] <;> rfl
theorem lst_last {hs : List Int} {h : Int} (e : hs.getLast? = some h) : atI (hs.map V.int) (-1) = some (.int h) := by
  obtain ⟨a, ha⟩ := List.getLast?_eq_some_iff.mp e
  rw [ha, List.map_append]
  exact atI_last _ _
theorem txt_len {h : Int} (h0 : 0 ≤ h) (h1 : h < 10 ^ 60) : (toString h : Str).length ≤ 60 := toString_length_le h0 (by decide) h1
theorem log_low {h : Int} (h0 : 0 ≤ h) (h1 : h < 10 ^ 60) : h.natAbs.log2 < 1920 := by
  have b : h.natAbs < 2 ^ 1920 := Nat.lt_of_lt_of_le (m := 10 ^ 60) (by omega) (by decide)
  by_cases z : h.natAbs = 0
  · rw [z]
    decide
  · exact (Nat.log2_lt z).mpr b
theorem okX_written {f f1 C : Addr} {fd d1 : FuncData} {m : Nat} (B : Bl mg) (N : Cn mg) (X : Er K mg "BadStairs" C) (Dcheck_stairs : DfX P w K mg base "check_stairs" (m + 3) ["stairs"] (spCheckX K C) f1 d1) (F : Fun K "written" "written" s_written f fd) :
    FnOk P w K mg base (L2.CX P w) (m + 3 + 1) f fd ["stairs"] (spWrittenX K C) := by
  refine F.okX sc_written (fun vs H Q E h => ?_) (fun cdv A outer s H vs Q E hr h => ?_)
  · obtain ⟨x, rfl, _⟩ := h
    rfl
  · obtain ⟨x, rfl, h⟩ := h
    obtain ⟨t1, n1⟩ := N.high
    obtain ⟨t2, n2⟩ := N.none
    refine ⟨_, (pss_cons (ps_expr (pe_callS Dcheck_stairs.ok (hr.mono (Nat.le_refl _)) (by rfl) Dcheck_stairs.g Dcheck_stairs.kp Dcheck_stairs.b (fun σ => passAt (takes_of rfl rfl rfl rfl) σ) (pa_cons (pv 0) pa_nil)))
 (pss_cons (ps_if (pt_not (pt_truth (pv 0) (fun _ => rfl)))
  (pss_one (ps_ret (pe_glob (v := .str "-") (by rfl) n2 ⟨_, rfl⟩)))
  pss_nil)
 (pss_cons (ps_if (pt_cmpR op_ge (pe_ix ix_list (pv 0) (pe_un un_neg pe_int) (fun _ _ => rfl)) (pe_glob (v := .int (10 ^ 60)) (by rfl) n1 ⟨_, rfl⟩) (nomark _))
  (pss_one (ps_raise rfl (takes_of rfl rfl rfl rfl) (pmk_own PySem.F.excBase_ValueError X.e X.g X.k (raises_own X.b X.t) (by rfl))))
  pss_nil)
 (pss_one (ps_ret (pe_bm PySem.F.plainAttrs_str PySem.F.slot_str_join PySem.F.type_str_join mt_join pe_str (pa_cons (pe_lc (own := [("height", 1)]) (g := gName 1) (tt := tYes) rfl sc_written.nd (pi_list (pv 0)) (blkOk_by (N := N_written) (sc := defScope s_written) (by decide +kernel)) (fun _ _ _ _ _ => pg_name (i := 1) sc_written.nd rfl (Or.inl rfl)) (fun _ _ _ _ _ => pts_nil) (fun _ _ _ _ _ => (pe_callTy call_str_int (by rfl) B.str (by decide +kernel) (pa_cons (pv 1) pa_nil)))) pa_nil))))))), ?_⟩
    have ne_truth : ∀ {hs : List Int} {a : Addr} {h : Int}, hs.getLast? = some h → H a = some (.lst (hs.map V.int)) → TruV K (.ref a) H true := fun {hs a h} e hA => by
      refine .inl ⟨_, SqL.of hA, ?_⟩
      cases hs with
      | nil => cases e
      | cons y ys => rfl
    rcases h with ⟨hn | ⟨hs, h, st, hl, hb⟩, q⟩ | ⟨hs, st, ne, len, lo, q⟩
    · exact ⟨_, rfl, x, rfl, .inr ⟨hn, q⟩⟩
    · refine ⟨_, rfl, x, rfl, .inl ⟨⟨hs, st⟩, ?_⟩⟩
      obtain ⟨a, rfl, hA, rise, pos⟩ := st
      refine ⟨_, rfl, true, ne_truth hl hA, iteF ?_⟩
      refine ⟨_, rfl, _, rfl, a, _, _, _, rfl, rfl, SqL.of hA, lst_last hl, _, _, rfl, rfl, _, rfl, ?_⟩
      rw [decide_eq_true hb]
      exact iteT q
    · refine ⟨_, rfl, x, rfl, .inl ⟨⟨hs, st⟩, ?_⟩⟩
      obtain ⟨a, rfl, hA, rise, pos⟩ := st
      obtain ⟨h, hl⟩ : ∃ h, hs.getLast? = some h := ⟨hs.getLast ne, List.getLast?_eq_some_getLast ne⟩
      have hlo := lo h (List.mem_of_getLast? hl)
      refine ⟨_, rfl, true, ne_truth hl hA, iteF ?_⟩
      refine ⟨_, rfl, _, rfl, a, _, _, _, rfl, rfl, SqL.of hA, lst_last hl, _, _, rfl, rfl, _, rfl, ?_⟩
      rw [decide_eq_false (by omega)]
      refine iteF ?_
      refine ⟨rfl, _, rfl, a, rfl, ⟨_, SqL.of hA⟩, fun D nD => lc_list (K := K) (a := a) (xs := hs.map V.int) (fun j H' => Same H H' ∧ H' D = some (.lst (((hs.take j).map fun h => (toString h : Str)).map V.str))) ⟨same_upd nD, upd_same⟩ (fun j H' _ e => SqL.of (e.1 _ _ hA)) ?_ ?_⟩
      · rintro j x H' hj ⟨sm, hD⟩
        obtain ⟨y, rfl, hy⟩ := mapI_get hj
        have hm := List.mem_of_getElem? hy
        refine ⟨rfl, _, rfl, y, rfl, log_low (pos y hm) (lo y hm), _, hD, ?_, same_mut sm nD, ?_⟩
        · rw [List.length_map, List.length_map, List.length_take]
          exact Nat.lt_of_le_of_lt (m := 1000) (by omega) (by decide)
        · rw [upd_same, take_snoc hy, List.map_append, List.map_append]
          rfl
      rintro H1 ⟨s1, hD1⟩
      rw [List.length_map, List.take_length] at hD1
      refine ⟨" ", D, hs.map fun h => (toString h : Str), rfl, rfl, .inl (SqL.of hD1), ?_, q _ s1⟩
      have b1 := sumLen_le_of_bound (fun h => (toString h : Str)) 60 hs fun y hy => txt_len (pos y hy) (lo y hy)
      have b2 : (" " : Str).length = 1 := rfl
      rw [List.length_map, b2]
      omega
end
end TS
namespace TS
open PySem PySem.Spec PyProof.Rows L2
/-! the askers of stairs -/
theorem rise1 : Rise [1] := fun i j x y hij hx hy => by
  match i, j, hij, hx, hy with
  | 0, 0, _, rfl, rfl => decide
  | 0, j + 1, _, _, h => cases h
  | i + 1, j, _, h, _ => cases h
def spWithStairs (K : PySem.W.Frag) (C0 : Addr) : Sp := fun vs H _ E => ∃ (d : Int) (x : V), vs = [.int d, x] ∧ ((0 ≤ d ∧ d < 9 ∧ NoStairs K H x) ∨ (d = 8 ∧ Great H x)) ∧ ∀ H', Same H H' → E (.ref C0) none H'
section
variable {P : Program} {w : World} {K : PySem.W.Frag} {mg : Str → Option Value} {base : Heap}
theorem okX_l_with_stairs {f f1 f2 f3 f4 f5 f6 f7 f8 C0 C1 C2 C3 : Addr} {fd d1 d2 d3 d4 d5 d6 d7 d8 : FuncData} {m : Nat}
    (Dcounts : DfX P w K mg base "counts" (m + 4) ["stairs"] (spCountsX K C0) f1 d1) (Dfilled : DfX P w K mg base "filled" (m + 4) ["stairs", "more"] (spFilledX K C0 C1) f2 d2) (Dway_of : DfX P w K mg base "way_of" (m + 4) ["stairs", "many", "number"] (spWayX K C0 C1 C2) f3 d3)
    (Dnumber_of : DfX P w K mg base "number_of" (m + 4) ["stairs", "towers"] (spNumberX K C0 C3) f4 d4) (Dfullest : DfX P w K mg base "fullest" (m + 4) ["stairs"] (spCountsX K C0) f5 d5) (Dplain : DfX P w K mg base "plain" (m + 5) ["stairs"] (spCountsX K C0) f6 d6)
    (Dalike : DfX P w K mg base "alike" (m + 4) ["one", "other"] (spAlikeX K C0) f7 d7) (Dwritten : DfX P w K mg base "written" (m + 4) ["stairs"] (spWrittenX K C0) f8 d8)
    (F : Fun K "_law_with_stairs" "_law_with_stairs" s_l_with_stairs f fd) : FnOk P w K mg base (L2.CX P w) (m + 5 + 1) f fd ["_law_door", "_law_stairs_here"] (spWithStairs K C0) := by
  refine F.okX sc_l_with_stairs (fun vs H Q E h => ?_) (fun cdv A outer s H vs Q E hr h => ?_)
  · obtain ⟨d, y, rfl, _⟩ := h
    rfl
  · obtain ⟨d, x, rfl, h, q⟩ := h
    refine ⟨_, (pss_cons (ps_if (pt_cmpR op_lt (pv 0) pe_int (nomark _))
  (pss_one (ps_ret (pe_ifExp (pt_cmpR op_eq (pv 0) pe_int (nomark _)) (pe_callS Dcounts.ok (hr.mono (by omega)) (by rfl) Dcounts.g Dcounts.kp Dcounts.b (fun σ => passAt (takes_of rfl rfl rfl rfl) σ) (pa_cons (pv 1) pa_nil)) (pe_ifExp (pt_cmpR op_eq (pv 0) pe_int (nomark _)) (pe_callS Dfilled.ok (hr.mono (by omega)) (by rfl) Dfilled.g Dfilled.kp Dfilled.b (fun σ => passAt (takes_of rfl rfl rfl rfl) σ) (pa_cons (pv 1) (pa_cons (pe_un un_neg pe_int) pa_nil))) (pe_callS Dway_of.ok (hr.mono (by omega)) (by rfl) Dway_of.g Dway_of.kp Dway_of.b (fun σ => passAt (takes_of rfl rfl rfl rfl) σ) (pa_cons (pv 1) (pa_cons (pe_un un_neg pe_int) (pa_cons (pe_un un_neg pe_int) pa_nil))))))))
  pss_nil)
 (pss_cons (ps_if (pt_cmpR op_lt (pv 0) pe_int (nomark _))
  (pss_one (ps_ret (pe_ifExp (pt_cmpR op_eq (pv 0) pe_int (nomark _)) (pe_callS Dnumber_of.ok (hr.mono (by omega)) (by rfl) Dnumber_of.g Dnumber_of.kp Dnumber_of.b (fun σ => passAt (takes_of rfl rfl rfl rfl) σ) (pa_cons (pv 1) (pa_cons pe_non pa_nil))) (pe_ifExp (pt_cmpR op_eq (pv 0) pe_int (nomark _)) (pe_callS Dfullest.ok (hr.mono (by omega)) (by rfl) Dfullest.g Dfullest.kp Dfullest.b (fun σ => passAt (takes_of rfl rfl rfl rfl) σ) (pa_cons (pv 1) pa_nil)) (pe_callS Dplain.ok (hr.mono (by omega)) (by rfl) Dplain.g Dplain.kp Dplain.b (fun σ => passAt (takes_of rfl rfl rfl rfl) σ) (pa_cons (pv 1) pa_nil))))))
  pss_nil)
 (pss_one (ps_ret (pe_ifExp (pt_cmpR op_eq (pv 0) pe_int (nomark _)) (pe_callS Dalike.ok (hr.mono (by omega)) (by rfl) Dalike.g Dalike.kp Dalike.b (fun σ => passAt (takes_of rfl rfl rfl rfl) σ) (pa_cons (pv 1) (pa_cons (pe_lst (pa_cons pe_int pa_nil)) pa_nil))) (pe_ifExp (pt_cmpR op_eq (pv 0) pe_int (nomark _)) (pe_callS Dalike.ok (hr.mono (by omega)) (by rfl) Dalike.g Dalike.kp Dalike.b (fun σ => passAt (takes_of rfl rfl rfl rfl) σ) (pa_cons (pe_lst (pa_cons pe_int pa_nil)) (pa_cons (pv 1) pa_nil))) (pe_callS Dwritten.ok (hr.mono (by omega)) (by rfl) Dwritten.g Dwritten.kp Dwritten.b (fun σ => passAt (takes_of rfl rfl rfl rfl) σ) (pa_cons (pv 1) pa_nil)))))))), ?_⟩
    have w8 : (NoStairs K H x ∨ Great H x) → spWrittenX K C0 [x] H Q E := fun h => ⟨x, rfl, .inl ⟨h, q _ (Same.refl _)⟩⟩
    rcases h with ⟨d0, d9, hn⟩ | ⟨rfl, hg⟩
    · have q0 := q _ (Same.refl _)
      have ds : d = 0 ∨ d = 1 ∨ d = 2 ∨ d = 3 ∨ d = 4 ∨ d = 5 ∨ d = 6 ∨ d = 7 ∨ d = 8 := by omega
      rcases ds with rfl | rfl | rfl | rfl | rfl | rfl | rfl | rfl | rfl
      · exact ⟨_, rfl, _, _, rfl, rfl, true, rfl, iteT ⟨_, rfl, rfl, true, rfl, iteT ⟨_, rfl, x, rfl, hn, q0⟩⟩⟩
      · exact ⟨_, rfl, _, _, rfl, rfl, true, rfl, iteT ⟨_, rfl, rfl, false, rfl, iteF ⟨_, rfl, rfl, true, rfl, iteT ⟨_, rfl, _, rfl, x, _, rfl, .inl ⟨hn, q0⟩⟩⟩⟩⟩
      · exact ⟨_, rfl, _, _, rfl, rfl, true, rfl, iteT ⟨_, rfl, rfl, false, rfl, iteF ⟨_, rfl, rfl, false, rfl, iteF ⟨_, rfl, _, rfl, _, rfl, x, _, _, rfl, .inl ⟨hn, q0⟩⟩⟩⟩⟩
      · exact ⟨_, rfl, _, _, rfl, rfl, false, rfl, iteF ⟨_, rfl, _, _, rfl, rfl, true, rfl, iteT ⟨_, rfl, rfl, true, rfl, iteT ⟨_, rfl, x, _, rfl, .inl ⟨hn, q0⟩⟩⟩⟩⟩
      · exact ⟨_, rfl, _, _, rfl, rfl, false, rfl, iteF ⟨_, rfl, _, _, rfl, rfl, true, rfl, iteT ⟨_, rfl, rfl, false, rfl, iteF ⟨_, rfl, rfl, true, rfl, iteT ⟨_, rfl, x, rfl, hn, q0⟩⟩⟩⟩⟩
      · exact ⟨_, rfl, _, _, rfl, rfl, false, rfl, iteF ⟨_, rfl, _, _, rfl, rfl, true, rfl, iteT ⟨_, rfl, rfl, false, rfl, iteF ⟨_, rfl, rfl, false, rfl, iteF ⟨_, rfl, x, rfl, hn, q0⟩⟩⟩⟩⟩
      · refine ⟨_, rfl, _, _, rfl, rfl, false, rfl, iteF ⟨_, rfl, _, _, rfl, rfl, false, rfl, iteF ⟨_, rfl, rfl, true, rfl, iteT ⟨_, rfl, by show 1 ≤ sizeLine; decide, fun p np => ⟨x, _, rfl, .inl (hn.same (same_upd np)), q _ (same_upd np)⟩⟩⟩⟩⟩
      · refine ⟨_, rfl, _, _, rfl, rfl, false, rfl, iteF ⟨_, rfl, _, _, rfl, rfl, false, rfl, iteF ⟨_, rfl, rfl, false, rfl, iteF ⟨_, rfl, rfl, true, rfl, iteT ⟨by show 1 ≤ sizeLine; decide, fun p np => ⟨_, rfl, _, x, rfl, .inr ⟨⟨[1], p, rfl, upd_same, rise1, by unfold Pos0; decide⟩, hn.same (same_upd np)⟩, q _ (same_upd np)⟩⟩⟩⟩⟩⟩
      · exact ⟨_, rfl, _, _, rfl, rfl, false, rfl, iteF ⟨_, rfl, _, _, rfl, rfl, false, rfl, iteF ⟨_, rfl, rfl, false, rfl, iteF ⟨_, rfl, rfl, false, rfl, iteF ⟨_, rfl, w8 (.inl hn)⟩⟩⟩⟩⟩
    · exact ⟨_, rfl, _, _, rfl, rfl, false, rfl, iteF ⟨_, rfl, _, _, rfl, rfl, false, rfl, iteF ⟨_, rfl, rfl, false, rfl, iteF ⟨_, rfl, rfl, false, rfl, iteF ⟨_, rfl, w8 (.inr hg)⟩⟩⟩⟩⟩
end
end TS
namespace TS
open PySem PySem.Spec PyProof.Rows L2
/-- lists of pairs compared -/
def dT (ts : List (Nat × Int)) : PyData := .list (ts.map fun q => .tuple [.int (q.1 : Int), .int q.2])
theorem dp_pl {K : PySem.W.Frag} {H : Hp} {a : Addr} {ts : List (Nat × Int)} (h : PL H a ts) : Dp K H (.ref a) (dT ts) := by
  obtain ⟨ps, hA, hT, rfl⟩ := h
  have all : ∀ qs : Prs, Tps H qs → DpAll K H (refsT qs) ((qs.map Prod.snd).map fun q => PyData.tuple [.int (q.1 : Int), .int q.2]) := by
    intro qs
    induction qs with
    | nil => intro _; exact .nil
    | cons p r ih =>
      intro h
      exact .cons (.tup (SqT.of (h p (by simp))) (.cons (.int _) (.cons (.int _) .nil))) (ih fun x hx => h x (by simp [hx]))
  exact .lst (SqL.of hA) (all ps hT)
theorem shaped_pl (ts : List (Nat × Int)) : SeqAt.shaped (dT ts) = true := by
  have c : ∀ ts : List (Nat × Int), PyData.canLayAll0 (ts.map fun q => PyData.tuple [.int (q.1 : Int), .int q.2]) = true := by
    intro ts
    induction ts with
    | nil => rfl
    | cons t ts ih =>
      show (PyData.canLay0 (.tuple [.int (t.1 : Int), .int t.2]) && PyData.canLayAll0 (ts.map fun q => PyData.tuple [.int (q.1 : Int), .int q.2])) = true
      rw [ih]
      rfl
  have d : ∀ ts : List (Nat × Int), PyData.depthAll (ts.map fun q => PyData.tuple [.int (q.1 : Int), .int q.2]) ≤ 1 := by
    intro ts
    induction ts with
    | nil => decide
    | cons t ts ih =>
      show max (PyData.depth (.tuple [.int (t.1 : Int), .int t.2])) (PyData.depthAll (ts.map fun q => PyData.tuple [.int (q.1 : Int), .int q.2])) ≤ 1
      have : PyData.depth (.tuple [.int (t.1 : Int), .int t.2]) = 1 := rfl
      omega
  show (PyData.canLayAll0 (ts.map fun q => PyData.tuple [.int (q.1 : Int), .int q.2]) && decide (PyData.depthAll (ts.map fun q => PyData.tuple [.int (q.1 : Int), .int q.2]) + 1 ≤ 64)) = true
  rw [c, decide_eq_true (by have := d ts; omega)]
  rfl
end TS
namespace TS
open PySem PySem.Spec PyProof.Rows L2
/-- a def that may raise, where it doesn't -/
theorem fnOk_calm {P : Program} {w : World} {K : PySem.W.Frag} {mg : Str → Option Value} {base : Heap} {k : Nat} {f : Addr} {fd : FuncData} {ps : List Str} {sp sp' : Sp} (F : FnOk P w K mg base (L2.CX P w) k f fd ps sp)
    (h : ∀ vs H Q E, sp' vs H Q E → sp vs H Q fun _ _ _ => False) : FnOk P w K mg base CX0 k f fd ps sp' :=
  ⟨fun vs H Q E q => F.len vs H Q _ (h vs H Q E q), fun A outer s H args us vs Q E hr e0 bi ve q => codeAny_mono (F.run A outer s H args us vs Q _ hr e0 bi ve (h vs H Q E q)) fun r s' c => by
    cases r with
    | ok v => cases v <;> exact c
    | error e =>
      obtain ⟨_, _, _, _, _, _, _, _, _, _, _, _, z⟩ := c
      exact z.elim⟩
end TS
namespace TS
open PySem PySem.Spec PyProof.Rows L2
/-! one sign, many times -/
def signs1 (c n : Nat) : Str := ⟨(List.replicate n c).toArray⟩
theorem fold_one (c : Nat) : ∀ (n : Nat) (acc : Array Nat), (List.replicate n #[c]).foldl (· ++ ·) acc = acc ++ (List.replicate n c).toArray
  | 0, acc => by simp
  | n + 1, acc => by
    rw [List.replicate_succ, List.foldl_cons, fold_one c n, List.replicate_succ, Array.append_assoc]
    congr 1
    apply Array.toList_inj.mp
    simp
theorem op_rep1 {X : Cx} : OpR X (binaryOp .Mult) (fun x y H Q => ∃ (c k : Nat), x = .str ⟨#[c]⟩ ∧ y = .int (k : Int) ∧ 2 ≤ k ∧ k ≤ 100000 ∧ Q (.str (signs1 c k)) H) := by
  intro pins s σ H x y v u Q I rx ry h
  obtain ⟨c, k, rfl, rfl, h2, hk, q⟩ := h
  obtain ⟨t, rfl⟩ := rx
  obtain ⟨t', rfl⟩ := ry
  have l1 : (⟨#[c]⟩ : Str).length = 1 := rfl
  have n1 : ¬ ((k : Nat) : Int) < 1 := by omega
  have b1 : ((((k : Nat) : Int) == 1) || ((⟨#[c]⟩ : Str).length == 0)) = false := by
    have : (((k : Nat) : Int) == 1) = false := beq_false_of_ne (by omega)
    rw [this]
    rfl
  have hs : sizeLine = 16777216 := sizeLine_eq
  refine P.mul_str ?_ (fun _ _ => ?_) (fun _ _ => ?_) ?_
  · rw [decide_eq_false (by omega), decide_eq_false (by omega)]
    rfl
  · rw [l1]
    have : (2 ^ 63 - 1 : Int) / 100000 ≤ (2 ^ 63 - 1) / (k : Int) := by
      refine Int.le_ediv_of_mul_le (by omega) ?_
      have e : (2 ^ 63 - 1 : Int) / 100000 * (k : Int) ≤ (2 ^ 63 - 1) / 100000 * 100000 := Int.mul_le_mul_of_nonneg_left (by omega) (by decide)
      exact Int.le_trans e (by decide)
    have : (1 : Int) ≤ (2 ^ 63 - 1) / 100000 := by decide
    omega
  · rw [l1, Int.toNat_natCast]
    show decide (1 * k > sizeLine) = false
    exact decide_eq_false (by omega)
  · rw [if_neg n1, if_neg (by rw [b1]; exact Bool.false_ne_true), Int.toNat_natCast, show (⟨#[c]⟩ : Str).cps = #[c] from rfl, fold_one, show #[] ++ (List.replicate k c).toArray = (List.replicate k c).toArray by simp]
    refine ⟨?_, ?_⟩
    · show (List.replicate k c).toArray.size ≤ sizeLine
      simp
      omega
    · exact ⟨.str (signs1 c k), H, I.tok _, ⟨_, rfl⟩, q⟩
end TS
namespace TS
open PySem PySem.Spec PyProof.Rows L2
/-! the law -/
theorem great1 {H : Hp} {p : Addr} (h : H p = some (.lst [.int (10 ^ 60)])) : Great H (.ref p) := by
  refine ⟨[10 ^ 60], 10 ^ 60, ⟨p, rfl, h, fun i j x y _ hx hy => ?_, by unfold Pos0; decide⟩, rfl, Int.le_refl _⟩
  have := List.mem_of_getElem? hx
  have := List.mem_of_getElem? hy
  simp at *
  omega
theorem great2 {H : Hp} {p : Addr} {far : Int} (h0 : 0 ≤ far) (h6 : far < 10 ^ 6) (h : H p = some (.lst [.int 1, .int (10 ^ 60 + far)])) : Great H (.ref p) := by
  have rise : Rise [1, 10 ^ 60 + far] := fun i j x y hij hx hy => by
    match i, j, hij, hx, hy with
    | 0, 0, _, rfl, rfl => exact Int.le_refl _
    | 0, 1, _, rfl, rfl => omega
    | 1, 1, _, rfl, rfl => exact Int.le_refl _
    | 1, 0, h, _, _ => omega
    | 0, j + 2, _, _, h => cases h
    | 1, j + 2, _, _, h => cases h
    | i + 2, j, _, h, _ => cases h
  have pos : Pos0 [1, 10 ^ 60 + far] := fun x hx => by
    simp at hx
    omega
  exact ⟨[1, 10 ^ 60 + far], 10 ^ 60 + far, ⟨p, rfl, h, rise, pos⟩, rfl, by omega⟩
/-- written and way_of where they don't refuse -/
def spWrittenC : Sp := fun vs H Q _ => ∃ x hs, vs = [x] ∧ Stairs H x hs ∧ hs ≠ [] ∧ hs.length ≤ 1000 ∧ (∀ h ∈ hs, h < 10 ^ 60) ∧ ∀ H', Same H H' → Q (.str (textOf hs)) H'
def spWayC : Sp := fun vs H Q _ => ∃ (x : V) (hs : List Int) (k : Nat) (num : Int), vs = [x, .int (k : Int), .int num] ∧ Stairs H x hs ∧ k ≤ hs.length ∧ Good hs ∧ 0 ≤ num ∧ num < cntF hs k ∧ ∀ H' p, Same H H' → H p = none → PL H' p (tw (ch hs hs.length k num)) → Q (.ref p) H'
theorem nines : (textOf [10 ^ 60 - 1] : Str) = signs1 57 60 := by
  show Txt.join " " [Str.ofString (toString ((10 ^ 60 - 1 : Int)))] = _
  rw [TL.join_eq]
  show Str.ofString (toString ((10 ^ 60 - 1 : Int))) = _
  have e : (10 ^ 60 - 1 : Int) = ((10 ^ 60 - 1 : Nat) : Int) := by decide
  rw [e]
  refine TL.ext_tl ((TL.tl_num _).trans ?_)
  show TL.numL (10 ^ 60 - 1) = List.replicate 60 57
  decide +kernel
theorem way3 (n : Nat) (h : n < 3) : tw (ch [3] 1 1 (n : Int)) = [(0, (n : Int))] ∧ (n : Int) < cntF [3] 1 := by
  match n, h with
  | 0, _ => exact ⟨by decide +kernel, by decide +kernel⟩
  | 1, _ => exact ⟨by decide +kernel, by decide +kernel⟩
  | 2, _ => exact ⟨by decide +kernel, by decide +kernel⟩
/-- the due lists, so many -/
def Due (H : Hp) (d : Addr) (n : Nat) : Prop := ∃ ds : List Addr, H d = some (.lst (ds.map V.ref)) ∧ ds.length = n ∧ ∀ j b, ds[j]? = some b → b ≠ d ∧ H b = some (.lst ((kinds j).map V.bl))
theorem Due.same {H H' : Hp} {d : Addr} {n : Nat} (h : Due H d n) (s : Same H H') : Due H' d n := let ⟨ds, a, b, c⟩ := h; ⟨ds, s _ _ a, b, fun j x e => ⟨(c j x e).1, s _ _ (c j x e).2⟩⟩
theorem due_kinds : ∀ i : Nat, i < 4 → ([.bl (decide (V.int (0 + (i : Int)) = V.int 0)), .bl (decide (V.int (0 + (i : Int)) = V.int 1)), .bl (decide (V.int (0 + (i : Int)) = V.int 2)), .bl (decide (V.int (0 + (i : Int)) = V.int 3)), .bl false, .bl true] : List V) = (kinds i).map V.bl
  | 0, _ => rfl
  | 1, _ => rfl
  | 2, _ => rfl
  | 3, _ => rfl
  | n + 4, h => by omega
theorem cut_from (xs : List V) (n : Nat) (h : n ≤ xs.length) : cutV xs (some (n : Int)) none = xs.drop n := by
  unfold cutV
  rw [HT.sIx_none, HT.sIx_nat, Nat.min_eq_left h, List.take_of_length_le (by rw [List.length_drop]; omega)]
theorem rise_add {hs : List Int} {t : Int} (rise : Rise hs) (h : ∀ x ∈ hs, x ≤ t) : Rise (hs ++ [t]) := by
  intro i j x y hij hx hy
  rw [List.getElem?_append] at hx hy
  split at hy
  · rw [if_pos (by omega)] at hx
    exact rise i j x y hij hx hy
  · have ey := List.mem_singleton.mp (List.mem_of_getElem? hy)
    rw [ey]
    split at hx
    · exact h x (List.mem_of_getElem? hx)
    · rw [List.mem_singleton.mp (List.mem_of_getElem? hx)]
      exact Int.le_refl _
/-- what stands in the middle of the law's lists -/
def mids (far : Int) : List V := [.non, .str "1", .bl true, .int (-1), .int (-1 - far)]
theorem mids_bad {K : PySem.W.Frag} {H : Hp} {far : Int} (h : 0 ≤ far) : ∀ x ∈ mids far, NoCount K H x := by
  intro x hx
  simp only [mids, List.mem_cons, List.not_mem_nil, or_false] at hx
  rcases hx with rfl | rfl | rfl | rfl | rfl
  · exact noCount_non
  · exact noCount_str _
  · exact noCount_bl _
  · exact noCount_neg (by decide)
  · exact noCount_neg (by omega)
/-- all but what stands at a -/
def offH (H : Hp) (a : Addr) : Hp := fun b => if b = a then none else H b
theorem del_same {H : Hp} {a : Addr} : Same (offH H a) H := fun b o e => by
  unfold offH at e
  split at e
  · cases e
  · exact e
theorem del_mono {H H' : Hp} {a : Addr} (s : Same H H') : Same (offH H a) (offH H' a) := fun b o e => by
  unfold offH at e ⊢
  split at e
  · cases e
  · next n => rw [if_neg n]; exact s b o e
theorem del_upd {H : Hp} {a : Addr} {o : HO} : offH (upd H a o) a = offH H a := by
  funext b
  unfold offH
  split
  · rfl
  · next n => exact upd_ne n
theorem del_get {H : Hp} {a b : Addr} {o : HO} (n : b ≠ a) (e : H b = some o) : offH H a b = some o := by
  unfold offH
  rw [if_neg n]
  exact e
theorem del_none {H : Hp} {a : Addr} (e : H a = none) : Same H (offH H a) := fun b o h => del_get (ne_of_none h e) h
theorem asg_cat2 {i n : Nat} {t : TA} {D : Ends} {σ : L2.St} {H H0 : Hp} {G : V → Hp → Prop} {l : Addr} {xs : List V} (st : ∀ x H H', Same H H' → G x H → G x H') (at_i : σ[i]? = some (some (.ref l))) (hl : H l = some (.lst xs)) (gx : ∀ x ∈ xs, G x H) (ga : GvA t σ H0 G n) (hn : xs.length + n ≤ sizeLine) (s0 : Same H0 H)
    (k : ∀ p vs Hm, Same H Hm → Hm p = none → vs.length = xs.length + n → (∀ v ∈ vs, G v Hm) → D.nx (σ.set i (some (.ref p))) (upd Hm p (.lst vs))) : tAsg (tOp rCat (tVar i) (tLst t)) (gName i) D σ H :=
  ⟨_, at_i, gv_lst st ga (by omega) s0 fun q ys H1 s1 nq hy hq gq => ⟨l, q, xs, ys, rfl, rfl, s1 _ _ hl, hq, by omega, fun p hp => k p (xs ++ ys) H1 s1 hp (by rw [List.length_append, hy]) fun x hx => by
    rcases List.mem_append.mp hx with hx | hx
    · exact st x H H1 s1 (gx x hx)
    · exact gq x hx⟩⟩
/-- the second loop's turns: range(1, len, 1 + len // 6) -/
def turns1 (L : Nat) : Nat := if L ≤ 1 then 0 else (L - 1 + L / 6) / (1 + L / 6)
theorem turns1_fin : ∀ L : Fin 64, turns1 L.val ≤ 12 ∧ RgC 1 (L.val : Int) (1 + (L.val : Int) / 6) (turns1 L.val) ∧ ∀ i : Fin 12, i.val < turns1 L.val → 1 + i.val * (1 + L.val / 6) < L.val := by
  unfold RgC
  decide +kernel
theorem turns1_rg {L : Nat} (h : L ≤ 63) : RgC 1 (L : Int) (1 + (L : Int) / 6) (turns1 L) := (turns1_fin ⟨L, by omega⟩).2.1
theorem turns1_le {L : Nat} (h : L ≤ 63) : turns1 L ≤ 12 := (turns1_fin ⟨L, by omega⟩).1
theorem turns1_in {L i : Nat} (h : L ≤ 63) (hi : i < turns1 L) : 1 + i * (1 + L / 6) < L := (turns1_fin ⟨L, by omega⟩).2.2 ⟨i, Nat.lt_of_lt_of_le hi (turns1_le h)⟩ hi
section
variable {P : Program} {w : World} {K : PySem.W.Frag} {mg : Str → Option Value} {base : Heap}
def spLaw (K : PySem.W.Frag) : Sp := fun vs H Q _ => ∃ (a : Addr) (ns : List Int), vs = [.ref a] ∧ SqL K H a (ns.map V.int) ∧ ns.length ≤ 63 ∧ ∀ H', Q (.bl true) H'
theorem ok_law {S f f1 f2 fA fB fC fD gAl gTo gTr fW fV : Addr} {c : Nat → Addr} {fd d1 d2 dAl dTo dTr dW dV : FuncData} (B : Bl mg) (gA : mg "_law_with_stairs" = some (.ref fA)) (gB : mg "_law_with_count" = some (.ref fB)) (gC : mg "_law_with_number" = some (.ref fC)) (gD : mg "_law_with_first" = some (.ref fD)) (kd : ∀ j, j < 4 → Kind K S c j)
    (Dl_cell_at : Df P w K mg base "_law_cell_at" 1 ["_law_script", "_law_k"] (spCellAt K) f1 d1) (Dl_stairs : Df P w K mg base "_law_stairs" 2 ["_law_script"] (spStairs K) f2 d2)
    (DallA : Df P w K mg base "_law_all" 9 ["_law_ask", "_law_doors", "_law_things", "_law_due"] (spAll fA (spWithStairs K (c 0)) K S c) gAl dAl)
    (DallB : Df P w K mg base "_law_all" 9 ["_law_ask", "_law_doors", "_law_things", "_law_due"] (spAll fB (spWithCount K (c 1)) K S c) gAl dAl)
    (DallC : Df P w K mg base "_law_all" 9 ["_law_ask", "_law_doors", "_law_things", "_law_due"] (spAll fC (spWithNumber K (c 2)) K S c) gAl dAl)
    (DallD : Df P w K mg base "_law_all" 9 ["_law_ask", "_law_doors", "_law_things", "_law_due"] (spAll fD (spWithFirst K (c 2)) K S c) gAl dAl)
    (DtoldA : Df P w K mg base "_law_told" 8 ["_law_ask", "_law_one", "_law_other"] (spTold fA (spWithStairs K (c 0)) K S c) gTo dTo)
    (DtoldB : Df P w K mg base "_law_told" 8 ["_law_ask", "_law_one", "_law_other"] (spTold fB (spWithCount K (c 1)) K S c) gTo dTo)
    (DtoldD : Df P w K mg base "_law_told" 8 ["_law_ask", "_law_one", "_law_other"] (spTold fD (spWithFirst K (c 2)) K S c) gTo dTo)
    (DwrittenC : Df P w K mg base "written" 7 ["stairs"] spWrittenC fW dW) (DwayC : Df P w K mg base "way_of" 7 ["stairs", "many", "number"] spWayC fV dV)
    (Dl_towers_right : Df P w K mg base "_law_towers_right" 9 ["_law_stairs_here", "_law_due", "_law_far_here"] (spTowersRight K S c) gTr dTr)
    (F : Fun K "law" "law" s_law f fd) : FnOk P w K mg base CX0 10 f fd ["_law_script"] (spLaw K) := by
  refine F.ok sc_law (fun vs H Q E h => ?_) (fun cdv A' outer s H vs Q E hr h => ?_)
  · obtain ⟨a, ns, rfl, _⟩ := h
    rfl
  · obtain ⟨a, ns, rfl, hS, hl, q⟩ := h
    refine ⟨_, (pss_cons (ps_set (i := 1) sc_law.nd rfl (.inl rfl) (pe_op op_mod (pe_call Dl_cell_at.ok (hr.mono (by decide)) (by rfl) Dl_cell_at.g Dl_cell_at.kp Dl_cell_at.b .nil pass0 (pa_cons (pv 0) (pa_cons pe_int pa_nil))) (pe_op op_pow pe_int pe_int)))
 (pss_cons (ps_set (i := 2) sc_law.nd rfl (.inl rfl) (pe_lst pa_nil))
 (pss_cons (ps_for PassesOwn.never rfl (pi_range1 rfl B.range (pa_cons pe_int pa_nil)) (pg_name (i := 3) sc_law.nd rfl (.inl rfl))
  (pss_one (ps_expr (pe_bm PySem.F.plainAttrs_list PySem.F.slot_list_append PySem.F.type_list_append mt_append (pv 2) (pa_cons (pe_lst (pa_cons (pe_cmpR op_eq (pv 3) pe_int (nomark _)) (pa_cons (pe_cmpR op_eq (pv 3) pe_int (nomark _)) (pa_cons (pe_cmpR op_eq (pv 3) pe_int (nomark _)) (pa_cons (pe_cmpR op_eq (pv 3) pe_int (nomark _)) (pa_cons pe_bl (pa_cons pe_bl pa_nil))))))) pa_nil)))))
 (pss_cons (ps_set (i := 4) sc_law.nd rfl (.inl rfl) (pe_call Dl_stairs.ok (hr.mono (by decide)) (by rfl) Dl_stairs.g Dl_stairs.kp Dl_stairs.b .nil pass0 (pa_cons (pv 0) pa_nil)))
 (pss_cons (ps_par (i := 5) (j := 6) rfl sc_law.nd rfl rfl (by decide) rfl rfl (pa_cons (pe_callTy call_list_of (by rfl) B.list (by decide +kernel) (pa_cons (pv 4) pa_nil)) (pa_cons (pe_callB call_len_seq (by rfl) B.len PySem.boot_len (pa_cons (pv 4) pa_nil)) pa_nil)) (by rfl))
 (pss_cons (ps_set (i := 7) sc_law.nd rfl (.inl rfl) (pe_lst (pa_cons pe_non (pa_cons (pe_tup pa_nil) (pa_cons (pe_tup (pa_cons pe_int pa_nil)) (pa_cons pe_str (pa_cons pe_dnewK (pa_cons pe_int (pa_cons (pe_lst (pa_cons (pe_un un_neg pe_int) pa_nil)) (pa_cons (pe_lst (pa_cons (pe_op op_sub (pe_un un_neg pe_int) (pv 1)) pa_nil)) (pa_cons (pe_lst (pa_cons pe_bl pa_nil)) (pa_cons (pe_lst (pa_cons pe_str pa_nil)) (pa_cons (pe_lst (pa_cons pe_non pa_nil)) (pa_cons (pe_lst (pa_cons (pe_lst (pa_cons pe_int pa_nil)) pa_nil)) (pa_cons (pe_lst (pa_cons pe_int (pa_cons pe_int pa_nil))) (pa_cons (pe_lst (pa_cons pe_int (pa_cons (pe_op op_add pe_int (pv 1)) (pa_cons (pe_op op_add pe_int (pv 1)) pa_nil)))) pa_nil))))))))))))))))
 (pss_cons (ps_set (i := 7) sc_law.nd rfl (.inl rfl) (pe_op op_cat (pv 7) (pe_lst (pa_cons (pe_lst (pa_cons (pe_op op_add pe_int (pv 1)) (pa_cons pe_int pa_nil))) (pa_cons (pe_lst (pa_cons pe_int (pa_cons pe_int (pa_cons pe_non pa_nil)))) pa_nil)))))
 (pss_cons (ps_for PassesOwn.never rfl (pi_range3 rfl B.range (pa_cons pe_int (pa_cons (pv 6) (pa_cons (pe_op op_add pe_int (pe_op op_fdiv (pv 6) pe_int)) pa_nil)))) (pg_name (i := 8) sc_law.nd rfl (.inl rfl))
  (pss_one (ps_expr (pe_bm PySem.F.plainAttrs_list PySem.F.slot_list_append PySem.F.type_list_append mt_append (pv 7) (pa_cons (pe_op op_cat (pe_op op_cat (pe_slice sl_list (pv 4) po_none (po_some (pv 8))) (pe_lst (pa_cons (pe_ix ix_tup (pe_tup (pa_cons pe_non (pa_cons pe_str (pa_cons pe_bl (pa_cons (pe_un un_neg pe_int) (pa_cons (pe_op op_sub (pe_un un_neg pe_int) (pv 1)) pa_nil)))))) (pe_op op_mod (pv 8) pe_int) (fun _ _ => rfl)) pa_nil))) (pe_slice sl_list (pv 4) (po_some (pe_op op_add (pv 8) pe_int)) po_none)) pa_nil)))))
 (pss_cons (ps_for PassesOwn.never rfl (pi_range3 rfl B.range (pa_cons pe_int (pa_cons (pv 6) (pa_cons (pe_op op_add pe_int (pe_op op_fdiv (pv 6) pe_int)) pa_nil)))) (pg_name (i := 8) sc_law.nd rfl (.inl rfl))
  (pss_one (ps_expr (pe_bm PySem.F.plainAttrs_list PySem.F.slot_list_append PySem.F.type_list_append mt_append (pv 7) (pa_cons (pe_op op_cat (pe_op op_cat (pe_slice sl_list (pv 4) po_none (po_some (pv 8))) (pe_lst (pa_cons (pe_op op_sub (pe_ix ix_list (pv 4) (pe_op op_sub (pv 8) pe_int) (fun _ _ => rfl)) pe_int) pa_nil))) (pe_slice sl_list (pv 4) (po_some (pv 8)) po_none)) pa_nil)))))
 (pss_cons (ps_if (pt_not (pt_val (pe_call DallA.ok (hr.mono (by decide)) (by rfl) DallA.g DallA.kp DallA.b .nil pass0 (pa_cons (pe_glob (v := .ref fA) (by rfl) gA rfl) (pa_cons (pe_listRg rfl (by rfl) B.list (prg_1 (by rfl) B.range pe_int)) (pa_cons (pv 7) (pa_cons (pe_ix ix_list (pv 2) pe_int (fun _ _ => rfl)) pa_nil)))))))
  (pss_one (ps_ret pe_bl))
  pss_nil)
 (pss_cons (ps_for PassesOwn.never rfl (pi_tup (pe_tup (pa_cons (pe_lst (pa_cons (pe_op op_pow pe_int pe_int) pa_nil)) (pa_cons (pe_lst (pa_cons pe_int (pa_cons (pe_op op_add (pe_op op_pow pe_int pe_int) (pv 1)) pa_nil))) pa_nil)))) (pg_name (i := 9) sc_law.nd rfl (.inl rfl))
  (pss_one (ps_if (pt_cmpR (op_neD hr.units) (pe_call DtoldA.ok (hr.mono (by decide)) (by rfl) DtoldA.g DtoldA.kp DtoldA.b .nil pass0 (pa_cons (pe_glob (v := .ref fA) (by rfl) gA rfl) (pa_cons pe_int (pa_cons (pv 9) pa_nil)))) (pe_ix ix_list (pv 2) pe_int (fun _ _ => rfl)) (nomark _))
  (pss_one (ps_ret pe_bl))
  pss_nil)))
 (pss_cons (ps_if (pt_not (pt_val (pe_call DallB.ok (hr.mono (by decide)) (by rfl) DallB.g DallB.kp DallB.b .nil pass0 (pa_cons (pe_glob (v := .ref fB) (by rfl) gB rfl) (pa_cons (pe_lst (pa_cons pe_int (pa_cons pe_int pa_nil))) (pa_cons (pe_lst (pa_cons pe_non (pa_cons pe_str (pa_cons pe_bl (pa_cons (pe_lst (pa_cons pe_int pa_nil)) (pa_cons (pe_un un_neg pe_int) (pa_cons (pe_op op_sub (pe_un un_neg pe_int) (pv 1)) pa_nil))))))) (pa_cons (pe_ix ix_list (pv 2) pe_int (fun _ _ => rfl)) pa_nil)))))))
  (pss_one (ps_ret pe_bl))
  pss_nil)
 (pss_cons (ps_if (PW.pt (pw_or (pt_cmpR (op_neD hr.units) (pe_call DtoldB.ok (hr.mono (by decide)) (by rfl) DtoldB.g DtoldB.kp DtoldB.b .nil pass0 (pa_cons (pe_glob (v := .ref fB) (by rfl) gB rfl) (pa_cons pe_int (pa_cons pe_int pa_nil)))) (pe_ix ix_list (pv 2) pe_int (fun _ _ => rfl)) (nomark _)) (pw_or1 (pt_cmpR (op_neD hr.units) (pe_call DtoldB.ok (hr.mono (by decide)) (by rfl) DtoldB.g DtoldB.kp DtoldB.b .nil pass0 (pa_cons (pe_glob (v := .ref fB) (by rfl) gB rfl) (pa_cons pe_int (pa_cons (pe_op op_add pe_int (pv 1)) pa_nil)))) (pe_ix ix_list (pv 2) pe_int (fun _ _ => rfl)) (nomark _)))))
  (pss_one (ps_ret pe_bl))
  pss_nil)
 (pss_cons (ps_set (i := 10) sc_law.nd rfl (.inl rfl) (pe_lst (pa_cons pe_non (pa_cons pe_str (pa_cons pe_bl (pa_cons (pe_lst (pa_cons pe_int pa_nil)) (pa_cons (pe_un un_neg pe_int) (pa_cons (pe_op op_sub (pe_un un_neg pe_int) (pv 1)) pa_nil))))))))
 (pss_cons (ps_if (pt_not (pt_val (pe_call DallC.ok (hr.mono (by decide)) (by rfl) DallC.g DallC.kp DallC.b .nil pass0 (pa_cons (pe_glob (v := .ref fC) (by rfl) gC rfl) (pa_cons (pe_lst (pa_cons (pv 4) pa_nil)) (pa_cons (pe_op op_cat (pv 10) (pe_lst (pa_cons pe_int (pa_cons (pe_op op_add pe_int (pv 1)) pa_nil)))) (pa_cons (pe_ix ix_list (pv 2) pe_int (fun _ _ => rfl)) pa_nil)))))))
  (pss_one (ps_ret pe_bl))
  pss_nil)
 (pss_cons (ps_if (pt_not (pt_val (pe_call DallD.ok (hr.mono (by decide)) (by rfl) DallD.g DallD.kp DallD.b .nil pass0 (pa_cons (pe_glob (v := .ref fD) (by rfl) gD rfl) (pa_cons (pe_lst (pa_cons (pe_op op_cat (pv 4) (pe_lst (pa_cons (pe_op op_add (pv 1) (pe_op op_pow pe_int pe_int)) pa_nil))) pa_nil)) (pa_cons (pe_op op_cat (pv 10) (pe_lst (pa_cons (pe_op op_add (pe_op op_add (pe_callB (cr_sum rfl) (by rfl) B.sum (by decide +kernel) (pa_cons (pv 4) pa_nil)) (pv 1)) (pe_op op_pow pe_int pe_int)) pa_nil))) (pa_cons (pe_ix ix_list (pv 2) pe_int (fun _ _ => rfl)) pa_nil)))))))
  (pss_one (ps_ret pe_bl))
  pss_nil)
 (pss_cons (ps_if (PW.pt (pw_or (pt_not (pt_val (pe_call Dl_towers_right.ok (hr.mono (by decide)) (by rfl) Dl_towers_right.g Dl_towers_right.kp Dl_towers_right.b .nil pass0 (pa_cons (pv 4) (pa_cons (pe_ix ix_list (pv 2) pe_int (fun _ _ => rfl)) (pa_cons (pv 1) pa_nil)))))) (pw_or1 (pt_cmpR (op_neD hr.units) (pe_call DtoldD.ok (hr.mono (by decide)) (by rfl) DtoldD.g DtoldD.kp DtoldD.b .nil pass0 (pa_cons (pe_glob (v := .ref fD) (by rfl) gD rfl) (pa_cons (pe_lst (pa_cons pe_int (pa_cons pe_int pa_nil))) (pa_cons pe_int pa_nil)))) (pe_ix ix_list (pv 2) pe_int (fun _ _ => rfl)) (nomark _)))))
  (pss_one (ps_ret pe_bl))
  pss_nil)
 (pss_one (ps_ret (pe_and (pe_cmpR (op_eqD hr.units) (pv 4) (pv 5) (nomark _)) (pe_and (pe_cmpR op_eq (pe_call DwrittenC.ok (hr.mono (by decide)) (by rfl) DwrittenC.g DwrittenC.kp DwrittenC.b .nil pass0 (pa_cons (pe_lst (pa_cons (pe_op op_sub (pe_op op_pow pe_int pe_int) pe_int) pa_nil)) pa_nil)) (pe_op op_rep1 pe_str pe_int) (nomark _)) (pe_one (pe_cmpR (op_neD hr.units) (pe_call DwayC.ok (hr.mono (by decide)) (by rfl) DwayC.g DwayC.kp DwayC.b .nil pass0 (pa_cons (pe_lst (pa_cons pe_int pa_nil)) (pa_cons pe_int (pa_cons pe_int pa_nil)))) (pe_call DwayC.ok (hr.mono (by decide)) (by rfl) DwayC.g DwayC.kp DwayC.b .nil pass0 (pa_cons (pe_lst (pa_cons pe_int pa_nil)) (pa_cons pe_int (pa_cons pe_int pa_nil)))) (nomark _)))))))))))))))))))))))), ?_⟩
    refine ⟨_, rfl, a, ns, 0, rfl, hS, _, _, rfl, rfl, ⟨by decide, by decide, by decide⟩, _, _, rfl, rfl, by show (0 : Int) < 10 ^ 6; decide, ?_⟩
    have far0 : 0 ≤ ns.getD 0 0 % 10 ^ 6 := Int.emod_nonneg _ (by decide)
    have far6 : ns.getD 0 0 % 10 ^ 6 < 10 ^ 6 := Int.emod_lt_of_pos _ (by decide)
    refine ⟨by decide, fun d nd => ?_⟩
    have s1 : Same H (upd H d (.lst [])) := same_upd nd
    obtain ⟨far, hfar⟩ : ∃ far, far = ns.getD 0 0 % 10 ^ 6 := ⟨_, rfl⟩
    rw [← hfar] at far0 far6
    refine ⟨_, rfl, by decide, by decide, for_range (lo := 0) (n := 4) (fun i σ H' => ∃ v, σ = [some (.ref a), some (.int far), some (.ref d), v, none, none, none, none, none, none, none] ∧ Same H H' ∧ Due H' d i)
      ⟨none, by rw [hfar]; rfl, s1, [], upd_same, rfl, fun j b e => by cases e⟩ ?_ ?_⟩
    · rintro i σ H' hi ⟨v, rfl, sm, ds, hd, hn, hds⟩
      refine ⟨_, rfl, .inl ⟨rfl, _, SqL.of hd⟩, _, rfl, rfl, _, rfl, rfl, _, rfl, rfl, _, rfl, rfl, by show 6 ≤ sizeLine; decide, fun l nl => ?_⟩
      have hd2 : upd H' l (.lst ((kinds i).map V.bl)) d = some (.lst (ds.map V.ref)) := (same_upd nl) _ _ hd
      have nld : l ≠ d := (ne_of_none hd nl).symm
      refine ⟨d, ds.map V.ref, _, rfl, rfl, (same_upd nl) _ _ hd, by rw [List.length_map]; exact Nat.lt_of_lt_of_le (m := 1000) (by omega) (by decide), ?_⟩
      rw [due_kinds i hi]
      refine ⟨_, rfl, same_mut (sm.trans (same_upd nl)) nd, ds ++ [l], by rw [upd_same, List.map_append]; rfl, by rw [List.length_append, hn]; rfl, fun j b e => ?_⟩
      by_cases c : j < ds.length
      · rw [List.getElem?_append_left c] at e
        obtain ⟨e1, e2⟩ := hds j b e
        exact ⟨e1, (upd_ne e1).trans ((same_upd nl) _ _ e2)⟩
      · rw [List.getElem?_append_right (by omega)] at e
        have c0 : j - ds.length = 0 := by
          have := (List.getElem?_eq_some_iff.mp e).1
          simp at this
          omega
        rw [c0] at e
        cases e
        have ej : j = i := by omega
        rw [ej]
        exact ⟨nld, (upd_ne nld).trans upd_same⟩
    rintro σ H1 ⟨v, rfl, s1, due⟩
    -- the stairs
    refine ⟨_, rfl, a, ns, rfl, s1.seq hS, fun hs H2 p gs s2 np hp => ?_⟩
    have due2 := due.same s2
    have s02 := s1.trans s2
    have gh : Good hs := Good.of gs
    have len : hs.length ≤ 63 := by have := gs.len; omega
    refine ⟨_, rfl, p, _, rfl, .inl (SqL.of hp), fun kp nkp => ⟨_, rfl, p, _, rfl, .inl (SqL.of ((same_upd nkp) _ _ hp)), ?_⟩⟩
    have s03 : Same H (upd H2 kp (.lst (hs.map V.int))) := s02.trans (same_upd nkp)
    have due3 : Due (upd H2 kp (.lst (hs.map V.int))) d 4 := due2.same (same_upd nkp)
    have hp3 : upd H2 kp (.lst (hs.map V.int)) p = some (.lst (hs.map V.int)) := (same_upd nkp) _ _ hp
    have hk3 : upd H2 kp (.lst (hs.map V.int)) kp = some (.lst (hs.map V.int)) := upd_same
    have npk : p ≠ kp := ne_of_none hp nkp
    have st : ∀ x H H', Same H H' → NoStairs K H x → NoStairs K H' x := fun x H H' s h => h.same s
    refine ⟨_, _, rfl, ?_⟩
    dsimp only
    refine asg_lst (n := 14) st ?d1 (by decide) (Same.refl _) fun p1 ys1 H4 s4 n4 l4 e4 g4 => ?_
    case d1 =>
      refine gva_cons st (gv_ex ex_c fun H _ => .inl (noTy_non (by decide +kernel))) (gva_cons st ?e2 (gva_cons st ?e3 (gva_cons st (gv_ex ex_c fun H _ => .inl (noTy_str _ (by decide +kernel))) (gva_cons st ?e5 (gva_cons st (gv_ex ex_c fun H _ => .inl (noTy_int _ (by decide +kernel))) (gva_cons st ?e7 (gva_cons st ?e8 (gva_cons st ?e9 (gva_cons st ?e10 (gva_cons st ?e11 (gva_cons st ?e12 (gva_cons st ?e13 (gva_cons st ?e14 gva_nil)))))))))))))
      case e2 => exact fun H s Q k => ⟨by decide, fun p hp => k (.ref p) _ (same_upd hp) (.inl (noTy_tup upd_same (by decide +kernel)))⟩
      case e3 => exact fun H s Q k => ⟨by show 1 ≤ sizeLine; decide, fun p hp => k (.ref p) _ (same_upd hp) (.inl (noTy_tup upd_same (by decide +kernel)))⟩
      case e5 => exact fun H s Q k => fun p hp => k (.ref p) _ (same_upd hp) (.inl (noTy_dict upd_same (by decide +kernel)))
      case e7 => exact gv_l1 (u := .int (-1)) (fun H s Q q => ⟨1, rfl, q⟩) fun l H s hl => no_lst hl (bad_item (pre := []) (noCount_neg (by decide)))
      case e8 => exact gv_l1 (u := .int (-1 - far)) (fun H s Q q => ⟨1, rfl, _, rfl, _, _, rfl, rfl, q⟩) fun l H s hl => no_lst hl (bad_item (pre := []) (noCount_neg (by omega)))
      case e9 => exact gv_l1 (u := .bl true) ex_c fun l H s hl => no_lst hl (bad_item (pre := []) (noCount_bl _))
      case e10 => exact gv_l1 ex_c fun l H s hl => no_lst hl (bad_item (pre := []) (noCount_str _))
      case e11 => exact gv_l1 (u := .non) ex_c fun l H s hl => no_lst hl (bad_item (pre := []) noCount_non)
      case e12 => exact fun H s Q k => ⟨by show 1 ≤ sizeLine; decide, fun t ht1 => ⟨by show 1 ≤ sizeLine; decide, fun p hp => k (.ref p) _ ((same_upd ht1).trans (same_upd hp)) (no_lst upd_same (bad_item (pre := []) (.inl (.inr (noTy_lst ((same_upd hp) _ _ upd_same) (by decide +kernel))))))⟩⟩
      case e13 => exact gv_l2 (u := .int 2) (v := .int 1) ex_c ex_c fun l H s hl => no_lst hl (bad_less (pre := [2]) (y := 2) rfl (by decide))
      case e14 => exact gv_l3 (u := .int 1) (v := .int (2 + far)) (w' := .int (1 + far)) ex_c (fun H s Q q => ⟨_, rfl, _, _, rfl, rfl, q⟩) (fun H s Q q => ⟨_, rfl, _, _, rfl, rfl, q⟩) fun l H s hl => no_lst hl (bad_less (pre := [1, 2 + far]) (y := 2 + far) rfl (by omega))
    refine asg_cat2 (H0 := upd H2 kp (.lst (hs.map V.int))) (n := 2) (xs := ys1) st rfl e4 g4 ?d2 (by rw [l4]; decide) s4 fun p2 ys2 Hm s5 n5 l5 g5 => ?_
    case d2 =>
      refine gva_cons st ?f1 (gva_cons st ?f2 gva_nil)
      case f1 => exact gv_l2 (u := .int (5 + far)) (v := .int 0) (fun H s Q q => ⟨_, rfl, _, _, rfl, rfl, q⟩) ex_c fun l H s hl => no_lst hl (bad_less (pre := [5 + far]) (y := 5 + far) rfl (by omega))
      case f2 => exact gv_l3 (u := .int 0) (v := .int 1) (w' := .non) ex_c ex_c ex_c fun l H s hl => no_lst hl (bad_item (pre := [0, 1]) noCount_non)
    rw [l4] at l5
    have s35 := (s4.trans s5).trans (same_upd (o := .lst ys2) n5)
    have e5 : upd Hm p2 (.lst ys2) p2 = some (.lst ys2) := upd_same
    have eoff : offH (upd Hm p2 (.lst ys2)) p2 = offH Hm p2 := del_upd
    have g5 : ∀ y ∈ ys2, NoStairs K (offH (upd Hm p2 (.lst ys2)) p2) y := fun y hy => by
      rw [eoff]
      exact (g5 y hy).same (del_none n5)
    have nd2 : ∀ {b o}, (upd H2 kp (.lst (hs.map V.int))) b = some o → b ≠ p2 := fun e => ne_of_none ((s4.trans s5) _ _ e) n5
    generalize upd Hm p2 (.lst ys2) = H5 at s35 e5 g5 ⊢
    clear eoff
    have t12 := turns_le len
    have hp5 := s35 _ _ hp3
    have npp := nd2 hp3
    -- a bad item at some places
    refine ⟨_, rfl, _, rfl, _, _, rfl, rfl, ⟨by decide, by decide⟩, _, _, rfl, rfl, 0, _, _, turns hs.length, rfl, by rw [List.length_map]; exact turns_rg len, ?_⟩
    refine for_rangeC (fun i σ H' => ∃ v' ys, σ = [some (.ref a), some (.int far), some (.ref d), v, some (.ref p), some (.ref kp), some (.int (((hs.map V.int).length : Nat) : Int)), some (.ref p2), v', none, none] ∧ Same (offH H5 p2) (offH H' p2) ∧ H' p2 = some (.lst ys) ∧ ys.length ≤ 16 + i ∧ ∀ y ∈ ys, NoStairs K (offH H' p2) y)
      ⟨none, ys2, rfl, Same.refl _, e5, by omega, g5⟩ ?_ ?_
    · rintro i σ H' hi ⟨v', ys, rfl, sm, hy, ly, gy⟩
      have hc : i * (1 + hs.length / 6) < hs.length := turns_in len hi
      have ec : (0 : Int) + (i : Int) * (1 + (((hs.map V.int).length : Nat) : Int) / 6) = ((i * (1 + hs.length / 6) : Nat) : Int) := by
        rw [List.length_map, Int.zero_add, Int.natCast_mul, Int.natCast_add, Int.natCast_ediv]
        rfl
      rw [ec]
      generalize i * (1 + hs.length / 6) = n at hc
      have hpH : H' p = some (.lst (hs.map V.int)) := del_same _ _ (sm _ _ (del_get npp hp5))
      refine ⟨_, rfl, .inl ⟨rfl, _, SqL.of hy⟩, _, rfl, _, rfl, _, rfl, p, _, rfl, SqL.of hpH, fun q1 nq1 => ?_⟩
      have em : ((n : Int) % 5) = ((n % 5 : Nat) : Int) := by omega
      have m5 : n % 5 < (mids far).length := Nat.mod_lt _ (by decide)
      refine ⟨_, rfl, _, rfl, _, rfl, _, _, rfl, rfl, by show 5 ≤ sizeLine; decide, fun t nt => ?_⟩
      have ht5 : SqT K (upd (upd H' q1 (.lst (cutV (hs.map V.int) none (some (n : Int))))) t (.tup (mids far))) t (mids far) := SqT.of upd_same
      refine ⟨_, rfl, _, _, rfl, rfl, by show (0 : Int) < 5; decide, t, _, _, (mids far)[n % 5], rfl, rfl, ht5, ?_, by show 1 ≤ sizeLine; decide, fun l2 nl2 => ?_⟩
      · rw [em]
        exact atI_nat (List.getElem?_eq_getElem m5)
      have hm : (mids far)[n % 5] ∈ mids far := List.getElem_mem m5
      generalize (mids far)[n % 5] = mid at hm nl2 ⊢
      have sA : Same H' (upd (upd (upd H' q1 (.lst (cutV (hs.map V.int) none (some (n : Int))))) t (.tup (mids far))) l2 (.lst [mid])) := ((same_upd nq1).trans (same_upd nt)).trans (same_upd nl2)
      have hq1 : (upd (upd (upd H' q1 (.lst (cutV (hs.map V.int) none (some (n : Int))))) t (.tup (mids far))) l2 (.lst [mid])) q1 = some (.lst (cutV (hs.map V.int) none (some (n : Int)))) := (same_upd nl2) _ _ ((same_upd nt) _ _ upd_same)
      have big : (hs.map V.int).length + (hs.map V.int).length + 1 + 100 ≤ sizeLine := Nat.le_trans (m := 1000) (by rw [List.length_map]; omega) (by decide)
      have cl1 := cutV_length (hs.map V.int) none (some (n : Int))
      refine ⟨q1, l2, _, _, rfl, rfl, hq1, upd_same, by show _ + 1 ≤ sizeLine; omega, fun q2 nq2 => ?_⟩
      refine ⟨_, rfl, _, rfl, _, _, rfl, rfl, _, rfl, p, _, rfl, SqL.of ((same_upd nq2) _ _ (sA _ _ hpH)), fun q3 nq3 => ?_⟩
      have sB := (sA.trans (same_upd (o := .lst (cutV (hs.map V.int) none (some (n : Int)) ++ [mid])) nq2)).trans (same_upd (o := .lst (cutV (hs.map V.int) (some ((n : Int) + 1)) none)) nq3)
      have cl2 := cutV_length (hs.map V.int) (some ((n : Int) + 1)) none
      refine ⟨q2, q3, _, _, rfl, rfl, (same_upd nq3) _ _ upd_same, upd_same, by rw [List.length_append, List.length_singleton]; omega, fun q4 nq4 => ?_⟩
      have sC := sB.trans (same_upd (o := .lst ((cutV (hs.map V.int) none (some (n : Int)) ++ [mid]) ++ cutV (hs.map V.int) (some ((n : Int) + 1)) none)) nq4)
      have n4 : q4 ≠ p2 := (ne_of_none hy (sB.free nq4)).symm
      refine ⟨p2, ys, .ref q4, rfl, rfl, sC _ _ hy, Nat.lt_of_lt_of_le (m := 1000) (by omega) (by decide), ?_⟩
      refine ⟨_, ys ++ [.ref q4], rfl, ?_, upd_same, by rw [List.length_append, List.length_singleton]; omega, fun y hy2 => ?_⟩
      · rw [del_upd]
        exact sm.trans (del_mono sC)
      · rw [del_upd]
        rcases List.mem_append.mp hy2 with h | h
        · exact (gy y h).same (del_mono sC)
        · rw [List.mem_singleton.mp h]
          refine no_lst (del_get n4 upd_same) ?_
          rw [cut_to, ← List.map_take, List.append_assoc]
          exact bad_item (mids_bad far0 mid hm)
    rintro σ H6 ⟨v', ys, rfl, sm, hy, ly, gy⟩
    -- a height less than the one ahead at some places
    have u12 := turns1_le len
    refine ⟨_, rfl, _, rfl, _, _, rfl, rfl, ⟨by decide, by decide⟩, _, _, rfl, rfl, 1, _, _, turns1 hs.length, rfl, by rw [List.length_map]; exact turns1_rg len, ?_⟩
    refine for_rangeC (fun i σ H' => ∃ v' ys, σ = [some (.ref a), some (.int far), some (.ref d), v, some (.ref p), some (.ref kp), some (.int (((hs.map V.int).length : Nat) : Int)), some (.ref p2), v', none, none] ∧ Same (offH H5 p2) (offH H' p2) ∧ H' p2 = some (.lst ys) ∧ ys.length ≤ 28 + i ∧ ∀ y ∈ ys, NoStairs K (offH H' p2) y)
      ⟨v', ys, rfl, sm, hy, by omega, gy⟩ ?_ ?_
    · clear sm hy ly gy ys v'
      rintro i σ H' hi ⟨v', ys, rfl, sm, hy, ly, gy⟩
      have hc : 1 + i * (1 + hs.length / 6) < hs.length := turns1_in len hi
      have ec : (1 : Int) + (i : Int) * (1 + (((hs.map V.int).length : Nat) : Int) / 6) = ((1 + i * (1 + hs.length / 6) : Nat) : Int) := by
        rw [List.length_map, Int.natCast_add, Int.natCast_mul, Int.natCast_add, Int.natCast_ediv]
        rfl
      rw [ec]
      have hc1 : 1 ≤ 1 + i * (1 + hs.length / 6) := Nat.le_add_right 1 _
      generalize 1 + i * (1 + hs.length / 6) = n at hc hc1
      have hpH : H' p = some (.lst (hs.map V.int)) := del_same _ _ (sm _ _ (del_get npp hp5))
      refine ⟨_, rfl, .inl ⟨rfl, _, SqL.of hy⟩, _, rfl, _, rfl, _, rfl, p, _, rfl, SqL.of hpH, fun q1 nq1 => ?_⟩
      have hn1 : n - 1 < hs.length := by omega
      refine ⟨_, rfl, _, rfl, _, _, rfl, rfl, p, _, _, .int (ht hs (n - 1)), rfl, rfl, SqL.of ((same_upd nq1) _ _ hpH), at_of (by show (n : Int) - 1 = ((n - 1 : Nat) : Int); omega) (mapI_at (ht_at hn1)), _, _, rfl, rfl, by show 1 ≤ sizeLine; decide, fun l2 nl2 => ?_⟩
      have sA : Same H' (upd (upd H' q1 (.lst (cutV (hs.map V.int) none (some (n : Int))))) l2 (.lst [.int (ht hs (n - 1) - 1)])) := (same_upd nq1).trans (same_upd nl2)
      have big : (hs.map V.int).length + (hs.map V.int).length + 1 + 100 ≤ sizeLine := Nat.le_trans (m := 1000) (by rw [List.length_map]; omega) (by decide)
      have cl1 := cutV_length (hs.map V.int) none (some (n : Int))
      refine ⟨q1, l2, _, _, rfl, rfl, (same_upd nl2) _ _ upd_same, upd_same, by show _ + 1 ≤ sizeLine; omega, fun q2 nq2 => ?_⟩
      refine ⟨_, rfl, _, rfl, _, rfl, p, _, rfl, SqL.of ((same_upd nq2) _ _ (sA _ _ hpH)), fun q3 nq3 => ?_⟩
      have sB := (sA.trans (same_upd (o := .lst (cutV (hs.map V.int) none (some (n : Int)) ++ [.int (ht hs (n - 1) - 1)])) nq2)).trans (same_upd (o := .lst (cutV (hs.map V.int) (some (n : Int)) none)) nq3)
      have cl2 := cutV_length (hs.map V.int) (some (n : Int)) none
      refine ⟨q2, q3, _, _, rfl, rfl, (same_upd nq3) _ _ upd_same, upd_same, by rw [List.length_append, List.length_singleton]; omega, fun q4 nq4 => ?_⟩
      have sC := sB.trans (same_upd (o := .lst ((cutV (hs.map V.int) none (some (n : Int)) ++ [.int (ht hs (n - 1) - 1)]) ++ cutV (hs.map V.int) (some (n : Int)) none)) nq4)
      have n4 : q4 ≠ p2 := (ne_of_none hy (sB.free nq4)).symm
      refine ⟨p2, ys, .ref q4, rfl, rfl, sC _ _ hy, Nat.lt_of_lt_of_le (m := 1000) (by omega) (by decide), ?_⟩
      refine ⟨_, ys ++ [.ref q4], rfl, ?_, upd_same, by rw [List.length_append, List.length_singleton]; omega, fun y hy2 => ?_⟩
      · rw [del_upd]
        exact sm.trans (del_mono sC)
      · rw [del_upd]
        rcases List.mem_append.mp hy2 with h | h
        · exact (gy y h).same (del_mono sC)
        · rw [List.mem_singleton.mp h]
          refine no_lst (del_get n4 upd_same) ?_
          rw [cut_to, ← List.map_take, List.append_assoc]
          refine bad_less (y := ht hs (n - 1)) ?_ (by omega)
          rw [List.getLast?_eq_getElem?, List.length_take, Nat.min_eq_left (by omega), List.getElem?_take_of_lt (by omega)]
          exact ht_at hn1
    clear sm hy ly gy ys v'
    rintro σ H7 ⟨v', ys, rfl, sm, hy, ly, gy⟩
    have gy7 : ∀ y ∈ ys, NoStairs K H7 y := fun y h => (gy y h).same del_same
    have s7 : Same (upd H2 kp (.lst (hs.map V.int))) H7 := fun b o e => del_same _ _ (sm _ _ (del_get (nd2 e) (s35 _ _ e)))
    have hp7 := s7 _ _ hp3
    have hk7 := s7 _ _ hk3
    obtain ⟨ds, hd7, hn7, hds⟩ := due3.same s7
    obtain ⟨b0, b1, b2, b3, rfl⟩ : ∃ b0 b1 b2 b3, ds = [b0, b1, b2, b3] := by
      match ds, hn7 with
      | [x, y, z, u], _ => exact ⟨x, y, z, u, rfl⟩
    have hb0 := (hds 0 b0 rfl).2
    have hb1 := (hds 1 b1 rfl).2
    have hb2 := (hds 2 b2 rfl).2
    have hb3 := (hds 3 b3 rfl).2
    clear hds hn7 s7 sm nd2 s35 g5 e5 l5
    have rg9 : ∀ x ∈ rgV 0 9, ∃ d : Int, x = .int d ∧ 0 ≤ d ∧ d < 9 := fun x hx => by
      unfold rgV at hx
      obtain ⟨i, hi, rfl⟩ := List.mem_map.mp hx
      have := List.mem_range.mp hi
      exact ⟨_, rfl, by omega, by omega⟩
    refine ⟨9, rfl, RgOk.of_le (by decide) (by decide) (by decide) (by decide), fun r9 nr9 => ?_⟩
    have s8 : Same H7 (upd H7 r9 (.lst (rgV 0 9))) := same_upd nr9
    refine ⟨_, rfl, _, rfl, d, _, _, .ref b0, rfl, rfl, SqL.of (s8 _ _ hd7), atI_nat (j := 0) rfl, r9, p2, b0, rgV 0 9, ys, 0, rfl, SqL.of upd_same, SqL.of (s8 _ _ hy), s8 _ _ hb0, kd 0 (by decide), by omega, ?_, fun H8 s89 => ⟨true, rfl, iteF ?_⟩⟩
    · intro x hx y hyy H' s' Q E k
      obtain ⟨e, rfl, e0, e9⟩ := rg9 x hx
      exact ⟨e, y, rfl, .inl ⟨e0, e9, (gy7 y hyy).same (s8.trans s')⟩, k⟩
    have s78 := s8.trans s89
    refine ⟨_, _, rfl, rfl, ⟨by decide, by decide, by decide⟩, by show 1 ≤ sizeLine; decide, fun x1 nx1 => ?_⟩
    refine ⟨_, _, rfl, rfl, ⟨by decide, by decide, by decide⟩, _, rfl, _, _, rfl, rfl, by show 2 ≤ sizeLine; decide, fun x2 nx2 => ⟨by show 2 ≤ sizeLine; decide, fun tg ntg => ?_⟩⟩
    have s9 : Same H7 (upd (upd (upd H8 x1 (.lst [.int (10 ^ 60)])) x2 (.lst [.int 1, .int (10 ^ 60 + far)])) tg (.tup [.ref x1, .ref x2])) := ((s78.trans (same_upd nx1)).trans (same_upd nx2)).trans (same_upd ntg)
    have gr1 : Great (upd (upd (upd H8 x1 (.lst [.int (10 ^ 60)])) x2 (.lst [.int 1, .int (10 ^ 60 + far)])) tg (.tup [.ref x1, .ref x2])) (.ref x1) := great1 ((same_upd ntg) _ _ ((same_upd nx2) _ _ upd_same))
    have gr2 : Great (upd (upd (upd H8 x1 (.lst [.int (10 ^ 60)])) x2 (.lst [.int 1, .int (10 ^ 60 + far)])) tg (.tup [.ref x1, .ref x2])) (.ref x2) := great2 far0 far6 ((same_upd ntg) _ _ upd_same)
    have htg : (upd (upd (upd H8 x1 (.lst [.int (10 ^ 60)])) x2 (.lst [.int 1, .int (10 ^ 60 + far)])) tg (.tup [.ref x1, .ref x2])) tg = some (.tup [.ref x1, .ref x2]) := upd_same
    refine ⟨tg, rfl, ⟨_, SqT.of htg⟩, for_tup (K := K) (a := tg) (xs := [.ref x1, .ref x2]) (fun i σ H' => ∃ v9, σ = [some (.ref a), some (.int far), some (.ref d), v, some (.ref p), some (.ref kp), some (.int (((hs.map V.int).length : Nat) : Int)), some (.ref p2), v', v9, none] ∧ Same (upd (upd (upd H8 x1 (.lst [.int (10 ^ 60)])) x2 (.lst [.int 1, .int (10 ^ 60 + far)])) tg (.tup [.ref x1, .ref x2])) H')
      ⟨none, rfl, Same.refl _⟩ (fun i σ H' _ ⟨_, _, e⟩ => SqT.of (e _ _ htg)) ?_ ?_⟩
    · rintro i x σ H' hi ⟨v9, rfl, sg⟩
      have hx : x = .ref x1 ∨ x = .ref x2 := by
        have := List.mem_of_getElem? hi
        simpa using this
      have gx : Great H' x := by
        rcases hx with rfl | rfl
        · exact gr1.same sg
        · exact gr2.same sg
      refine ⟨_, rfl, .int 8, x, 0, rfl, kd 0 (by decide), fun Q E k => ⟨8, x, rfl, .inr ⟨rfl, gx⟩, k⟩, fun H3 b s3 nb hb => ?_⟩
      have s93 := s9.trans (sg.trans s3)
      refine ⟨_, rfl, d, _, _, .ref b0, rfl, rfl, SqL.of (s93 _ _ hd7), atI_nat (j := 0) rfl, kdat 0, kdat 0, kdat_dp hb, kdat_dp (s93 _ _ hb0), kdat_shaped 0, kdat_shaped 0, false, by rw [kdat_eqv]; rfl, iteF ?_⟩
      exact ⟨_, rfl, sg.trans s3⟩
    rintro σ H9 ⟨v9, rfl, sg⟩
    have s79 := s9.trans sg
    -- no counts
    refine ⟨by show 2 ≤ sizeLine; decide, fun y1 ny1 => ⟨by show 1 ≤ sizeLine; decide, fun z1 nz1 => ⟨_, rfl, _, rfl, _, rfl, _, _, rfl, rfl, by show 6 ≤ sizeLine; decide, fun y2 ny2 => ?_⟩⟩⟩
    have sa : Same H9 (upd (upd (upd H9 y1 (.lst [.int 0, .int 1])) z1 (.lst [.int 1])) y2 (.lst [.non, .str "1", .bl true, .ref z1, .int (-1), .int (-1 - far)])) := ((same_upd ny1).trans (same_upd nz1)).trans (same_upd ny2)
    have hy1 : (upd (upd (upd H9 y1 (.lst [.int 0, .int 1])) z1 (.lst [.int 1])) y2 (.lst [.non, .str "1", .bl true, .ref z1, .int (-1), .int (-1 - far)])) y1 = some (.lst [.int 0, .int 1]) := (same_upd ny2) _ _ ((same_upd nz1) _ _ upd_same)
    have hz1 : (upd (upd (upd H9 y1 (.lst [.int 0, .int 1])) z1 (.lst [.int 1])) y2 (.lst [.non, .str "1", .bl true, .ref z1, .int (-1), .int (-1 - far)])) z1 = some (.lst [.int 1]) := (same_upd ny2) _ _ upd_same
    have s7a := s79.trans sa
    refine ⟨_, rfl, d, _, _, .ref b1, rfl, rfl, SqL.of (s7a _ _ hd7), atI_nat (j := 1) rfl, y1, y2, b1, [.int 0, .int 1], [.non, .str "1", .bl true, .ref z1, .int (-1), .int (-1 - far)], 1, rfl, SqL.of hy1, SqL.of upd_same, s7a _ _ hb1, kd 1 (by decide), by show 6 ≤ 1000; decide, ?_, fun Ha s' => ⟨true, rfl, iteF ?_⟩⟩
    · intro x hx y hy' H' s' Q E k
      have hx2 : ∃ e : Int, x = .int e := by
        simp at hx
        rcases hx with rfl | rfl
        · exact ⟨_, rfl⟩
        · exact ⟨_, rfl⟩
      obtain ⟨e, rfl⟩ := hx2
      refine ⟨e, y, rfl, .inl ?_, k⟩
      simp only [List.mem_cons, List.not_mem_nil, or_false] at hy'
      rcases hy' with rfl | rfl | rfl | rfl | rfl | rfl
      · exact noCount_non
      · exact noCount_str _
      · exact noCount_bl _
      · exact .inl (.inr (noTy_lst (s' _ _ hz1) (by decide +kernel)))
      · exact noCount_neg (by decide)
      · exact noCount_neg (by omega)
    have s7b := s7a.trans s'
    refine ⟨.int 1, .int 3, 1, rfl, kd 1 (by decide), fun Q E k => ⟨1, .int 3, rfl, .inr ⟨by decide, 3, rfl, by decide⟩, k⟩, fun Hb b sb nb hb => ?_⟩
    have s7c := s7b.trans sb
    refine ⟨_, rfl, d, _, _, .ref b1, rfl, rfl, SqL.of (s7c _ _ hd7), atI_nat (j := 1) rfl, kdat 1, kdat 1, kdat_dp hb, kdat_dp (s7c _ _ hb1), kdat_shaped 1, kdat_shaped 1, false, by rw [kdat_eqv]; rfl, iteF ?_⟩
    refine ⟨_, rfl, _, _, rfl, rfl, .int 1, .int (3 + far), 1, rfl, kd 1 (by decide), fun Q E k => ⟨1, .int (3 + far), rfl, .inr ⟨by decide, 3 + far, rfl, by omega⟩, k⟩, fun Hc b' sc nb' hb' => ?_⟩
    have s7d := s7c.trans sc
    refine ⟨_, rfl, d, _, _, .ref b1, rfl, rfl, SqL.of (s7d _ _ hd7), atI_nat (j := 1) rfl, kdat 1, kdat 1, kdat_dp hb', kdat_dp (s7d _ _ hb1), kdat_shaped 1, kdat_shaped 1, false, by rw [kdat_eqv]; rfl, iteF ?_⟩
    -- no numbers
    refine ⟨by show 1 ≤ sizeLine; decide, fun w1 nw1 => ⟨_, rfl, _, rfl, _, rfl, _, _, rfl, rfl, by show 6 ≤ sizeLine; decide, fun ps nps => ?_⟩⟩
    have s7e := (s7d.trans (same_upd (o := .lst [.int 0]) nw1)).trans (same_upd (o := .lst [.non, .str "0", .bl true, .ref w1, .int (-1), .int (-1 - far)]) nps)
    have hps : upd (upd Hc w1 (.lst [.int 0])) ps (.lst [.non, .str "0", .bl true, .ref w1, .int (-1), .int (-1 - far)]) ps = some (.lst [.non, .str "0", .bl true, .ref w1, .int (-1), .int (-1 - far)]) := upd_same
    have hw1 : upd (upd Hc w1 (.lst [.int 0])) ps (.lst [.non, .str "0", .bl true, .ref w1, .int (-1), .int (-1 - far)]) w1 = some (.lst [.int 0]) := (same_upd nps) _ _ upd_same
    have strange : ∀ H', Same (upd (upd Hc w1 (.lst [.int 0])) ps (.lst [.non, .str "0", .bl true, .ref w1, .int (-1), .int (-1 - far)])) H' → ∀ y ∈ ([.non, .str "0", .bl true, .ref w1, .int (-1), .int (-1 - far)] : List V), NoCount K H' y := by
      intro H' s' y hy'
      simp only [List.mem_cons, List.not_mem_nil, or_false] at hy'
      rcases hy' with rfl | rfl | rfl | rfl | rfl | rfl
      · exact noCount_non
      · exact noCount_str _
      · exact noCount_bl _
      · exact .inl (.inr (noTy_lst (s' _ _ hw1) (by decide +kernel)))
      · exact noCount_neg (by decide)
      · exact noCount_neg (by omega)
    refine ⟨_, rfl, by show 1 ≤ sizeLine; decide, fun q1 nq1 => ⟨_, rfl, _, rfl, _, _, rfl, rfl, by show 2 ≤ sizeLine; decide, fun q2 nq2 => ?_⟩⟩
    have sd := (same_upd (o := .lst [.ref p]) nq1).trans (same_upd (o := .lst [.int 1, .int (1 + far)]) nq2)
    refine ⟨ps, q2, _, _, rfl, rfl, sd _ _ hps, upd_same, by show 8 ≤ sizeLine; decide, fun q3 nq3 => ?_⟩
    have se := sd.trans (same_upd (o := .lst ([.non, .str "0", .bl true, .ref w1, .int (-1), .int (-1 - far)] ++ [.int 1, .int (1 + far)])) nq3)
    have s7f := s7e.trans se
    refine ⟨_, rfl, d, _, _, .ref b2, rfl, rfl, SqL.of (s7f _ _ hd7), atI_nat (j := 2) rfl, q1, q3, b2, [.ref p], [.non, .str "0", .bl true, .ref w1, .int (-1), .int (-1 - far)] ++ [.int 1, .int (1 + far)], 2, rfl, SqL.of ((same_upd nq3) _ _ ((same_upd nq2) _ _ upd_same)), SqL.of upd_same, s7f _ _ hb2, kd 2 (by decide), by show 8 ≤ 1000; decide, ?_, fun Hf s' => ⟨true, rfl, iteF ?_⟩⟩
    · intro x hx y hy' H' s' Q E k
      rw [List.mem_singleton.mp hx]
      refine ⟨.ref p, y, hs, rfl, ⟨p, rfl, (s7f.trans s') _ _ hp7, gs.rise, gs.pos⟩, gh, ?_, k⟩
      rw [cntF_zero]
      rcases List.mem_append.mp hy' with h | h
      · exact .inl (strange H' (se.trans s') y h)
      · simp at h
        rcases h with rfl | rfl
        · exact .inr ⟨1, rfl, Int.le_refl _⟩
        · exact .inr ⟨1 + far, rfl, by omega⟩
    have s7g := s7f.trans s'
    have hps2 := s' _ _ (se _ _ hps)
    have sst := se.trans s'
    refine ⟨_, rfl, _, rfl, _, _, rfl, rfl, ⟨by decide, by decide, by decide⟩, _, _, rfl, rfl, by show 1 ≤ sizeLine; decide, fun r1 nr1 => ?_⟩
    have lenR : (hs.map V.int).length + 1 ≤ sizeLine := Nat.le_trans (m := 1000) (by rw [List.length_map]; omega) (by decide)
    refine ⟨p, r1, _, _, rfl, rfl, (s7g.trans (same_upd nr1)) _ _ hp7, upd_same, lenR, fun r2 nr2 => ⟨by show 1 ≤ sizeLine; decide, fun r3 nr3 => ?_⟩⟩
    have sr := ((same_upd (o := .lst [V.int (far + 10 ^ 59)]) nr1).trans (same_upd (o := .lst (hs.map V.int ++ [V.int (far + 10 ^ 59)])) nr2)).trans (same_upd (o := .lst [.ref r2]) nr3)
    refine ⟨_, rfl, _, rfl, p, hs, rfl, SqL.of ((s7g.trans sr) _ _ hp7), _, rfl, _, _, rfl, rfl, _, _, rfl, rfl, ⟨by decide, by decide, by decide⟩, _, _, rfl, rfl, by show 1 ≤ sizeLine; decide, fun r4 nr4 => ?_⟩
    have st4 := sr.trans (same_upd (o := .lst [V.int (hs.sum + far + 10 ^ 59)]) nr4)
    refine ⟨ps, r4, _, _, rfl, rfl, st4 _ _ hps2, upd_same, by show 7 ≤ sizeLine; decide, fun r5 nr5 => ?_⟩
    have st5 := st4.trans (same_upd (o := .lst ([.non, .str "0", .bl true, .ref w1, .int (-1), .int (-1 - far)] ++ [V.int (hs.sum + far + 10 ^ 59)])) nr5)
    have s7h := s7g.trans st5
    have s25 : ∀ {H' : Hp}, Same (upd (upd (upd (upd (upd Hf r1 (.lst [V.int (far + 10 ^ 59)])) r2 (.lst (hs.map V.int ++ [V.int (far + 10 ^ 59)]))) r3 (.lst [.ref r2])) r4 (.lst [V.int (hs.sum + far + 10 ^ 59)])) r5 (.lst ([.non, .str "0", .bl true, .ref w1, .int (-1), .int (-1 - far)] ++ [V.int (hs.sum + far + 10 ^ 59)]))) H' → H' r2 = some (.lst ((hs ++ [far + 10 ^ 59]).map V.int)) := fun s => by
      refine s _ _ ((same_upd nr5) _ _ ((same_upd nr4) _ _ ((same_upd nr3) _ _ ?_)))
      rw [upd_same, List.map_append]
      rfl
    refine ⟨_, rfl, d, _, _, .ref b2, rfl, rfl, SqL.of (s7h _ _ hd7), atI_nat (j := 2) rfl, r3, r5, b2, [.ref r2], [.non, .str "0", .bl true, .ref w1, .int (-1), .int (-1 - far)] ++ [V.int (hs.sum + far + 10 ^ 59)], 2, rfl, SqL.of ((same_upd nr5) _ _ ((same_upd nr4) _ _ upd_same)), SqL.of upd_same, s7h _ _ hb2, kd 2 (by decide), by show 7 ≤ 1000; decide, ?_, fun Hg s' => ⟨true, rfl, iteF ?_⟩⟩
    · intro x hx y hy' H' s' Q E k
      rw [List.mem_singleton.mp hx]
      have posR : Pos0 (hs ++ [far + 10 ^ 59]) := fun x hx => by
        rcases List.mem_append.mp hx with h | h
        · exact gs.pos x h
        · rw [List.mem_singleton.mp h]
          omega
      have riseR : Rise (hs ++ [far + 10 ^ 59]) := rise_add gs.rise fun x hx => by
        have := gs.low x hx
        omega
      have gR : Good (hs ++ [far + 10 ^ 59]) := by
        refine ⟨riseR, posR, fun x hx => ?_, by rw [List.length_append, List.length_singleton]; omega⟩
        have b1 : (10 : Int) ^ 59 + 10 ^ 6 + 1 ≤ 2 ^ 208 := by decide
        rcases List.mem_append.mp hx with h | h
        · exact gh.low x h
        · rw [List.mem_singleton.mp h]
          omega
      refine ⟨.ref r2, y, hs ++ [far + 10 ^ 59], rfl, ⟨r2, rfl, s25 s', riseR, posR⟩, gR, by rw [List.length_append, List.length_singleton]; omega, ?_, k⟩
      rcases List.mem_append.mp hy' with h | h
      · exact .inl (strange H' ((sst.trans st5).trans s') y h)
      · rw [List.mem_singleton.mp h, cntF_one posR, List.sum_append]
        refine .inr ⟨_, rfl, ?_⟩
        simp only [List.sum_cons, List.sum_nil]
        omega
    have s7i := s7h.trans s'
    -- no towers, no way
    refine ⟨_, rfl, _, rfl, d, _, _, .ref b3, rfl, rfl, SqL.of (s7i _ _ hd7), atI_nat (j := 3) rfl, _, rfl, p, b3, hs, far, rfl, s7i _ _ hp7, gs.rise, gs.pos, len, fun x hx => ?_, far0, s7i _ _ hb3, kd 3 (by decide), fun Hh sh => ⟨true, rfl, iteF ?_⟩⟩
    · have := gs.low x hx
      omega
    have s7j := s7i.trans sh
    refine ⟨by show 2 ≤ sizeLine; decide, fun o1 no1 => ?_⟩
    have s7k := s7j.trans (same_upd (o := .lst [V.int 0, V.int 0]) no1)
    have rise0 : Rise [0, 0] := fun i j x y _ hx hy => by
      have a := List.mem_of_getElem? hx
      have b := List.mem_of_getElem? hy
      simp at a b
      omega
    have pos0 : Pos0 [0, 0] := by unfold Pos0; decide
    refine ⟨.ref o1, .int 0, 2, rfl, kd 2 (by decide), fun Q E k => ⟨.ref o1, .int 0, [0, 0], rfl, ⟨o1, rfl, upd_same, rise0, pos0⟩, ⟨rise0, pos0, by decide, by decide⟩, by decide, .inr ⟨0, rfl, by decide⟩, k⟩, fun Hi b si nb hb => ?_⟩
    have s7l := s7k.trans si
    refine ⟨_, rfl, d, _, _, .ref b2, rfl, rfl, SqL.of (s7l _ _ hd7), atI_nat (j := 2) rfl, kdat 2, kdat 2, kdat_dp hb, kdat_dp (s7l _ _ hb2), kdat_shaped 2, kdat_shaped 2, false, by rw [kdat_eqv]; rfl, iteF ?_⟩
    -- the stairs stay; what is just within
    refine ⟨_, rfl, _, rfl, _, _, dp_il (il_of (s7l _ _ hp7)), dp_il (il_of (s7l _ _ hk7)), shaped_ints _, shaped_ints _, ?_⟩
    rw [eqv_ints, decide_eq_true rfl]
    refine ⟨_, rfl, iteT ?_⟩
    refine ⟨_, _, rfl, rfl, ⟨by decide, by decide, by decide⟩, _, _, rfl, rfl, by show 1 ≤ sizeLine; decide, fun z nz => ?_⟩
    have riseZ : Rise [(10 ^ 60 - 1 : Int)] := fun i j x y _ hx hy => by
      have a := List.mem_of_getElem? hx
      have b := List.mem_of_getElem? hy
      simp at a b
      omega
    refine ⟨.ref z, [10 ^ 60 - 1], rfl, ⟨z, rfl, upd_same, riseZ, by unfold Pos0; decide⟩, by simp, by decide, by decide, fun Hj sj => ?_⟩
    rw [nines]
    refine ⟨57, 60, rfl, rfl, by decide, by decide, rfl, _, rfl, iteT ?_⟩
    have rise3 : Rise [(3 : Int)] := fun i j x y _ hx hy => by
      have a := List.mem_of_getElem? hx
      have b := List.mem_of_getElem? hy
      simp at a b
      omega
    have pos3 : Pos0 [(3 : Int)] := by unfold Pos0; decide
    refine ⟨by show 1 ≤ sizeLine; decide, fun v1 nv1 => ?_⟩
    refine ⟨.ref v1, [3], 1, 2, rfl, ⟨v1, rfl, upd_same, rise3, pos3⟩, by decide, ⟨rise3, pos3, by decide, by decide⟩, by decide, (way3 2 (by decide)).2, fun Hk w1 sk nw1 hw1 => ?_⟩
    refine ⟨by show 1 ≤ sizeLine; decide, fun v2 nv2 => ?_⟩
    refine ⟨.ref v2, [3], 1, 1, rfl, ⟨v2, rfl, upd_same, rise3, pos3⟩, by decide, ⟨rise3, pos3, by decide, by decide⟩, by decide, (way3 1 (by decide)).2, fun Hl w2 sl nw2 hw2 => ?_⟩
    have hw1' := hw1.same ((same_upd nv2).trans sl)
    have e1 : tw (ch [3] ([3] : List Int).length 1 2) = [(0, 2)] := (way3 2 (by decide)).1
    have e2 : tw (ch [3] ([3] : List Int).length 1 1) = [(0, 1)] := (way3 1 (by decide)).1
    rw [e1] at hw1'
    rw [e2] at hw2
    refine ⟨_, _, dp_pl hw1', dp_pl hw2, shaped_pl _, shaped_pl _, ?_⟩
    have e3 : PyData.eqv (dT [(0, 2)]) (dT [(0, 1)]) = false := by
      simp [dT, PyData.eqv, PyData.eqvAll]
    rw [e3]
    exact q _
end
end TS
namespace TS
open PySem PySem.Spec PyProof.Rows L2
/-- the own classes' places -/
def clsAt (y0 y1 y2 y3 y4 : Addr) : Nat → Addr
  | 0 => y0
  | 1 => y1
  | 2 => y2
  | 3 => y3
  | _ => y4
theorem all_mk {l : PySem.W.OpenLaw} {w : World} {K : PySem.W.Frag} {h : Heap} {mg : Str → Option Value} {fa f1 f2 f3 f4 f5 f6 f7 f8 f9 f10 f11 f12 f13 f14 f15 f16 f17 f18 f19 f20 f21 f22 f23 f24 f25 f26 f27 f28 f29 f30 f31 f32 : Addr} {S y0 y1 y2 y3 y4 : Addr} {vH vN : Value} (X : K.In h) (G : h.Ns mainGlobals mg) (hfa : mg "law" = some (.ref fa))
    {od1 an1 od2 an2 od3 an3 od4 an4 od5 an5 od6 an6 od7 an7 od8 an8 od9 an9 od10 an10 od11 an11 od12 an12 od13 an13 od14 an14 od15 an15 od16 an16 od17 an17 od18 an18 od19 an19 od20 an20 od21 an21 od22 an22 od23 an23 od24 an24 od25 an25 od26 an26 od27 an27 od28 an28 od29 an29 od30 an30 od31 an31 od32 an32 : Option Addr} {sl1 sl2 sl3 sl4 sl5 sl6 sl7 sl8 sl9 sl10 sl11 sl12 sl13 sl14 sl15 sl16 sl17 sl18 sl19 sl20 sl21 sl22 sl23 sl24 sl25 sl26 sl27 sl28 sl29 sl30 sl31 sl32 : Array (Option Value)} {oc1 kV1 dc1 pm1 cd1 ct1 oc2 kV2 dc2 pm2 cd2 ct2 oc3 kV3 dc3 pm3 cd3 ct3 oc4 kV4 dc4 pm4 cd4 ct4 oc5 kV5 dc5 pm5 cd5 ct5 oc6 kV6 dc6 pm6 cd6 ct6 oc7 kV7 dc7 pm7 cd7 ct7 oc8 kV8 dc8 pm8 cd8 ct8 oc9 kV9 dc9 pm9 cd9 ct9 oc10 kV10 dc10 pm10 cd10 ct10 oc11 kV11 dc11 pm11 cd11 ct11 oc12 kV12 dc12 pm12 cd12 ct12 oc13 kV13 dc13 pm13 cd13 ct13 oc14 kV14 dc14 pm14 cd14 ct14 oc15 kV15 dc15 pm15 cd15 ct15 oc16 kV16 dc16 pm16 cd16 ct16 oc17 kV17 dc17 pm17 cd17 ct17 oc18 kV18 dc18 pm18 cd18 ct18 oc19 kV19 dc19 pm19 cd19 ct19 oc20 kV20 dc20 pm20 cd20 ct20 oc21 kV21 dc21 pm21 cd21 ct21 oc22 kV22 dc22 pm22 cd22 ct22 oc23 kV23 dc23 pm23 cd23 ct23 oc24 kV24 dc24 pm24 cd24 ct24 oc25 kV25 dc25 pm25 cd25 ct25 oc26 kV26 dc26 pm26 cd26 ct26 oc27 kV27 dc27 pm27 cd27 ct27 oc28 kV28 dc28 pm28 cd28 ct28 oc29 kV29 dc29 pm29 cd29 ct29 oc30 kV30 dc30 pm30 cd30 ct30 oc31 kV31 dc31 pm31 cd31 ct31 oc32 kV32 dc32 pm32 cd32 ct32 : Value}
    (a1 : PySem.W.nsIn K mainGlobals "is_count" = some (some (.ref f1))) (l1 : K.lookup f1 = some ⟨oc1, od1, .func (PySem.W.fnOf "is_count" "is_count" (defArgs s_is_count) (defBody s_is_count) (defScope s_is_count) .none kV1 dc1 pm1 an1 cd1 ct1), sl1⟩) (c1 : PySem.W.codeIn K cd1 "is_count" = true) (k1 : PySem.W.keepIn K (.ref f1) = true)
    (a2 : PySem.W.nsIn K mainGlobals "is_stairs" = some (some (.ref f2))) (l2 : K.lookup f2 = some ⟨oc2, od2, .func (PySem.W.fnOf "is_stairs" "is_stairs" (defArgs s_is_stairs) (defBody s_is_stairs) (defScope s_is_stairs) .none kV2 dc2 pm2 an2 cd2 ct2), sl2⟩) (c2 : PySem.W.codeIn K cd2 "is_stairs" = true) (k2 : PySem.W.keepIn K (.ref f2) = true)
    (a3 : PySem.W.nsIn K mainGlobals "check_stairs" = some (some (.ref f3))) (l3 : K.lookup f3 = some ⟨oc3, od3, .func (PySem.W.fnOf "check_stairs" "check_stairs" (defArgs s_check_stairs) (defBody s_check_stairs) (defScope s_check_stairs) .none kV3 dc3 pm3 an3 cd3 ct3), sl3⟩) (c3 : PySem.W.codeIn K cd3 "check_stairs" = true) (k3 : PySem.W.keepIn K (.ref f3) = true)
    (a4 : PySem.W.nsIn K mainGlobals "is_cell" = some (some (.ref f4))) (l4 : K.lookup f4 = some ⟨oc4, od4, .func (PySem.W.fnOf "is_cell" "is_cell" (defArgs s_is_cell) (defBody s_is_cell) (defScope s_is_cell) .none kV4 dc4 pm4 an4 cd4 ct4), sl4⟩) (c4 : PySem.W.codeIn K cd4 "is_cell" = true) (k4 : PySem.W.keepIn K (.ref f4) = true)
    (a5 : PySem.W.nsIn K mainGlobals "are_towers" = some (some (.ref f5))) (l5 : K.lookup f5 = some ⟨oc5, od5, .func (PySem.W.fnOf "are_towers" "are_towers" (defArgs s_are_towers) (defBody s_are_towers) (defScope s_are_towers) .none kV5 dc5 pm5 an5 cd5 ct5), sl5⟩) (c5 : PySem.W.codeIn K cd5 "are_towers" = true) (k5 : PySem.W.keepIn K (.ref f5) = true)
    (a6 : PySem.W.nsIn K mainGlobals "counts" = some (some (.ref f6))) (l6 : K.lookup f6 = some ⟨oc6, od6, .func (PySem.W.fnOf "counts" "counts" (defArgs s_counts) (defBody s_counts) (defScope s_counts) .none kV6 dc6 pm6 an6 cd6 ct6), sl6⟩) (c6 : PySem.W.codeIn K cd6 "counts" = true) (k6 : PySem.W.keepIn K (.ref f6) = true)
    (a7 : PySem.W.nsIn K mainGlobals "filled" = some (some (.ref f7))) (l7 : K.lookup f7 = some ⟨oc7, od7, .func (PySem.W.fnOf "filled" "filled" (defArgs s_filled) (defBody s_filled) (defScope s_filled) .none kV7 dc7 pm7 an7 cd7 ct7), sl7⟩) (c7 : PySem.W.codeIn K cd7 "filled" = true) (k7 : PySem.W.keepIn K (.ref f7) = true)
    (a8 : PySem.W.nsIn K mainGlobals "ways_without_columns" = some (some (.ref f8))) (l8 : K.lookup f8 = some ⟨oc8, od8, .func (PySem.W.fnOf "ways_without_columns" "ways_without_columns" (defArgs s_ways_without_columns) (defBody s_ways_without_columns) (defScope s_ways_without_columns) .none kV8 dc8 pm8 an8 cd8 ct8), sl8⟩) (c8 : PySem.W.codeIn K cd8 "ways_without_columns" = true) (k8 : PySem.W.keepIn K (.ref f8) = true)
    (a9 : PySem.W.nsIn K mainGlobals "add_column" = some (some (.ref f9))) (l9 : K.lookup f9 = some ⟨oc9, od9, .func (PySem.W.fnOf "add_column" "add_column" (defArgs s_add_column) (defBody s_add_column) (defScope s_add_column) .none kV9 dc9 pm9 an9 cd9 ct9), sl9⟩) (c9 : PySem.W.codeIn K cd9 "add_column" = true) (k9 : PySem.W.keepIn K (.ref f9) = true)
    (a10 : PySem.W.nsIn K mainGlobals "take_column" = some (some (.ref f10))) (l10 : K.lookup f10 = some ⟨oc10, od10, .func (PySem.W.fnOf "take_column" "take_column" (defArgs s_take_column) (defBody s_take_column) (defScope s_take_column) .none kV10 dc10 pm10 an10 cd10 ct10), sl10⟩) (c10 : PySem.W.codeIn K cd10 "take_column" = true) (k10 : PySem.W.keepIn K (.ref f10) = true)
    (a11 : PySem.W.nsIn K mainGlobals "ways_up_to" = some (some (.ref f11))) (l11 : K.lookup f11 = some ⟨oc11, od11, .func (PySem.W.fnOf "ways_up_to" "ways_up_to" (defArgs s_ways_up_to) (defBody s_ways_up_to) (defScope s_ways_up_to) .none kV11 dc11 pm11 an11 cd11 ct11), sl11⟩) (c11 : PySem.W.codeIn K cd11 "ways_up_to" = true) (k11 : PySem.W.keepIn K (.ref f11) = true)
    (a12 : PySem.W.nsIn K mainGlobals "_row_above" = some (some (.ref f12))) (l12 : K.lookup f12 = some ⟨oc12, od12, .func (PySem.W.fnOf "_row_above" "_row_above" (defArgs s__row_above) (defBody s__row_above) (defScope s__row_above) .none kV12 dc12 pm12 an12 cd12 ct12), sl12⟩) (c12 : PySem.W.codeIn K cd12 "_row_above" = true) (k12 : PySem.W.keepIn K (.ref f12) = true)
    (a13 : PySem.W.nsIn K mainGlobals "_choices" = some (some (.ref f13))) (l13 : K.lookup f13 = some ⟨oc13, od13, .func (PySem.W.fnOf "_choices" "_choices" (defArgs s__choices) (defBody s__choices) (defScope s__choices) .none kV13 dc13 pm13 an13 cd13 ct13), sl13⟩) (c13 : PySem.W.codeIn K cd13 "_choices" = true) (k13 : PySem.W.keepIn K (.ref f13) = true)
    (a14 : PySem.W.nsIn K mainGlobals "_with_rows" = some (some (.ref f14))) (l14 : K.lookup f14 = some ⟨oc14, od14, .func (PySem.W.fnOf "_with_rows" "_with_rows" (defArgs s__with_rows) (defBody s__with_rows) (defScope s__with_rows) .none kV14 dc14 pm14 an14 cd14 ct14), sl14⟩) (c14 : PySem.W.codeIn K cd14 "_with_rows" = true) (k14 : PySem.W.keepIn K (.ref f14) = true)
    (a15 : PySem.W.nsIn K mainGlobals "way_of" = some (some (.ref f15))) (l15 : K.lookup f15 = some ⟨oc15, od15, .func (PySem.W.fnOf "way_of" "way_of" (defArgs s_way_of) (defBody s_way_of) (defScope s_way_of) .none kV15 dc15 pm15 an15 cd15 ct15), sl15⟩) (c15 : PySem.W.codeIn K cd15 "way_of" = true) (k15 : PySem.W.keepIn K (.ref f15) = true)
    (a16 : PySem.W.nsIn K mainGlobals "number_of" = some (some (.ref f16))) (l16 : K.lookup f16 = some ⟨oc16, od16, .func (PySem.W.fnOf "number_of" "number_of" (defArgs s_number_of) (defBody s_number_of) (defScope s_number_of) .none kV16 dc16 pm16 an16 cd16 ct16), sl16⟩) (c16 : PySem.W.codeIn K cd16 "number_of" = true) (k16 : PySem.W.keepIn K (.ref f16) = true)
    (a17 : PySem.W.nsIn K mainGlobals "fullest" = some (some (.ref f17))) (l17 : K.lookup f17 = some ⟨oc17, od17, .func (PySem.W.fnOf "fullest" "fullest" (defArgs s_fullest) (defBody s_fullest) (defScope s_fullest) .none kV17 dc17 pm17 an17 cd17 ct17), sl17⟩) (c17 : PySem.W.codeIn K cd17 "fullest" = true) (k17 : PySem.W.keepIn K (.ref f17) = true)
    (a18 : PySem.W.nsIn K mainGlobals "plain" = some (some (.ref f18))) (l18 : K.lookup f18 = some ⟨oc18, od18, .func (PySem.W.fnOf "plain" "plain" (defArgs s_plain) (defBody s_plain) (defScope s_plain) .none kV18 dc18 pm18 an18 cd18 ct18), sl18⟩) (c18 : PySem.W.codeIn K cd18 "plain" = true) (k18 : PySem.W.keepIn K (.ref f18) = true)
    (a19 : PySem.W.nsIn K mainGlobals "alike" = some (some (.ref f19))) (l19 : K.lookup f19 = some ⟨oc19, od19, .func (PySem.W.fnOf "alike" "alike" (defArgs s_alike) (defBody s_alike) (defScope s_alike) .none kV19 dc19 pm19 an19 cd19 ct19), sl19⟩) (c19 : PySem.W.codeIn K cd19 "alike" = true) (k19 : PySem.W.keepIn K (.ref f19) = true)
    (a20 : PySem.W.nsIn K mainGlobals "written" = some (some (.ref f20))) (l20 : K.lookup f20 = some ⟨oc20, od20, .func (PySem.W.fnOf "written" "written" (defArgs s_written) (defBody s_written) (defScope s_written) .none kV20 dc20 pm20 an20 cd20 ct20), sl20⟩) (c20 : PySem.W.codeIn K cd20 "written" = true) (k20 : PySem.W.keepIn K (.ref f20) = true)
    (a21 : PySem.W.nsIn K mainGlobals "_law_cell_at" = some (some (.ref f21))) (l21 : K.lookup f21 = some ⟨oc21, od21, .func (PySem.W.fnOf "_law_cell_at" "_law_cell_at" (defArgs s_l_cell_at) (defBody s_l_cell_at) (defScope s_l_cell_at) .none kV21 dc21 pm21 an21 cd21 ct21), sl21⟩) (c21 : PySem.W.codeIn K cd21 "_law_cell_at" = true) (k21 : PySem.W.keepIn K (.ref f21) = true)
    (a22 : PySem.W.nsIn K mainGlobals "_law_draw" = some (some (.ref f22))) (l22 : K.lookup f22 = some ⟨oc22, od22, .func (PySem.W.fnOf "_law_draw" "_law_draw" (defArgs s_l_draw) (defBody s_l_draw) (defScope s_l_draw) .none kV22 dc22 pm22 an22 cd22 ct22), sl22⟩) (c22 : PySem.W.codeIn K cd22 "_law_draw" = true) (k22 : PySem.W.keepIn K (.ref f22) = true)
    (a23 : PySem.W.nsIn K mainGlobals "_law_stairs" = some (some (.ref f23))) (l23 : K.lookup f23 = some ⟨oc23, od23, .func (PySem.W.fnOf "_law_stairs" "_law_stairs" (defArgs s_l_stairs) (defBody s_l_stairs) (defScope s_l_stairs) .none kV23 dc23 pm23 an23 cd23 ct23), sl23⟩) (c23 : PySem.W.codeIn K cd23 "_law_stairs" = true) (k23 : PySem.W.keepIn K (.ref f23) = true)
    (a24 : PySem.W.nsIn K mainGlobals "_law_kinds" = some (some (.ref f24))) (l24 : K.lookup f24 = some ⟨oc24, od24, .func (PySem.W.fnOf "_law_kinds" "_law_kinds" (defArgs s_l_kinds) (defBody s_l_kinds) (defScope s_l_kinds) .none kV24 dc24 pm24 an24 cd24 ct24), sl24⟩) (c24 : PySem.W.codeIn K cd24 "_law_kinds" = true) (k24 : PySem.W.keepIn K (.ref f24) = true)
    (a25 : PySem.W.nsIn K mainGlobals "_law_with_stairs" = some (some (.ref f25))) (l25 : K.lookup f25 = some ⟨oc25, od25, .func (PySem.W.fnOf "_law_with_stairs" "_law_with_stairs" (defArgs s_l_with_stairs) (defBody s_l_with_stairs) (defScope s_l_with_stairs) .none kV25 dc25 pm25 an25 cd25 ct25), sl25⟩) (c25 : PySem.W.codeIn K cd25 "_law_with_stairs" = true) (k25 : PySem.W.keepIn K (.ref f25) = true)
    (a26 : PySem.W.nsIn K mainGlobals "_law_with_count" = some (some (.ref f26))) (l26 : K.lookup f26 = some ⟨oc26, od26, .func (PySem.W.fnOf "_law_with_count" "_law_with_count" (defArgs s_l_with_count) (defBody s_l_with_count) (defScope s_l_with_count) .none kV26 dc26 pm26 an26 cd26 ct26), sl26⟩) (c26 : PySem.W.codeIn K cd26 "_law_with_count" = true) (k26 : PySem.W.keepIn K (.ref f26) = true)
    (a27 : PySem.W.nsIn K mainGlobals "_law_with_number" = some (some (.ref f27))) (l27 : K.lookup f27 = some ⟨oc27, od27, .func (PySem.W.fnOf "_law_with_number" "_law_with_number" (defArgs s_l_with_number) (defBody s_l_with_number) (defScope s_l_with_number) .none kV27 dc27 pm27 an27 cd27 ct27), sl27⟩) (c27 : PySem.W.codeIn K cd27 "_law_with_number" = true) (k27 : PySem.W.keepIn K (.ref f27) = true)
    (a28 : PySem.W.nsIn K mainGlobals "_law_with_first" = some (some (.ref f28))) (l28 : K.lookup f28 = some ⟨oc28, od28, .func (PySem.W.fnOf "_law_with_first" "_law_with_first" (defArgs s_l_with_first) (defBody s_l_with_first) (defScope s_l_with_first) .none kV28 dc28 pm28 an28 cd28 ct28), sl28⟩) (c28 : PySem.W.codeIn K cd28 "_law_with_first" = true) (k28 : PySem.W.keepIn K (.ref f28) = true)
    (a29 : PySem.W.nsIn K mainGlobals "_law_told" = some (some (.ref f29))) (l29 : K.lookup f29 = some ⟨oc29, od29, .func (PySem.W.fnOf "_law_told" "_law_told" (defArgs s_l_told) (defBody s_l_told) (defScope s_l_told) .none kV29 dc29 pm29 an29 cd29 ct29), sl29⟩) (c29 : PySem.W.codeIn K cd29 "_law_told" = true) (k29 : PySem.W.keepIn K (.ref f29) = true)
    (a30 : PySem.W.nsIn K mainGlobals "_law_all" = some (some (.ref f30))) (l30 : K.lookup f30 = some ⟨oc30, od30, .func (PySem.W.fnOf "_law_all" "_law_all" (defArgs s_l_all) (defBody s_l_all) (defScope s_l_all) .none kV30 dc30 pm30 an30 cd30 ct30), sl30⟩) (c30 : PySem.W.codeIn K cd30 "_law_all" = true) (k30 : PySem.W.keepIn K (.ref f30) = true)
    (a31 : PySem.W.nsIn K mainGlobals "_law_towers_right" = some (some (.ref f31))) (l31 : K.lookup f31 = some ⟨oc31, od31, .func (PySem.W.fnOf "_law_towers_right" "_law_towers_right" (defArgs s_l_towers_right) (defBody s_l_towers_right) (defScope s_l_towers_right) .none kV31 dc31 pm31 an31 cd31 ct31), sl31⟩) (c31 : PySem.W.codeIn K cd31 "_law_towers_right" = true) (k31 : PySem.W.keepIn K (.ref f31) = true)
    (a32 : PySem.W.nsIn K mainGlobals "law" = some (some (.ref f32))) (l32 : K.lookup f32 = some ⟨oc32, od32, .func (PySem.W.fnOf "law" "law" (defArgs s_law) (defBody s_law) (defScope s_law) .none kV32 dc32 pm32 an32 cd32 ct32), sl32⟩) (c32 : PySem.W.codeIn K cd32 "law" = true) (k32 : PySem.W.keepIn K (.ref f32) = true)
    (z_len : PySem.W.nsIn K mainGlobals "len" = some none) (z_isinstance : PySem.W.nsIn K mainGlobals "isinstance" = some none) (z_sorted : PySem.W.nsIn K mainGlobals "sorted" = some none) (z_range : PySem.W.nsIn K mainGlobals "range" = some none) (z_enumerate : PySem.W.nsIn K mainGlobals "enumerate" = some none) (z_reversed : PySem.W.nsIn K mainGlobals "reversed" = some none) (z_min : PySem.W.nsIn K mainGlobals "min" = some none) (z_all : PySem.W.nsIn K mainGlobals "all" = some none) (z_list : PySem.W.nsIn K mainGlobals "list" = some none) (z_int : PySem.W.nsIn K mainGlobals "int" = some none) (z_bool : PySem.W.nsIn K mainGlobals "bool" = some none) (z_tuple : PySem.W.nsIn K mainGlobals "tuple" = some none) (z_dict : PySem.W.nsIn K mainGlobals "dict" = some none) (z_set : PySem.W.nsIn K mainGlobals "set" = some none) (z_divmod : PySem.W.nsIn K mainGlobals "divmod" = some none) (z_sum : PySem.W.nsIn K mainGlobals "sum" = some none) (z_str : PySem.W.nsIn K mainGlobals "str" = some none) (z_ValueError : PySem.W.nsIn K mainGlobals "ValueError" = some none)
    (a_S : PySem.W.nsIn K mainGlobals "StairError" = some (some (.ref S)))
    (sb_S : PySem.W.subIn K (.ref S) (.type "BaseException") = some true)
    (sd_S : PySem.W.hasDictIn K S = true)
    (st_S : PySem.W.typeIn K (.ref S) = some (.type "type"))
    (a_y0 : PySem.W.nsIn K mainGlobals "BadStairs" = some (some (.ref y0)))
    (kp_y0 : PySem.W.keepIn K (.ref y0) = true)
    (ex_y0 : PySem.W.excIn K y0 [.type "ValueError", .type "Exception", .type "BaseException", .type "object"] "ValueError.__new__" = true)
    (sb_y0 : PySem.W.subIn K (.ref y0) (.type "BaseException") = some true)
    (ty_y0 : PySem.W.typeIn K (.ref y0) = some (.type "type"))
    (a_y1 : PySem.W.nsIn K mainGlobals "BadCount" = some (some (.ref y1)))
    (kp_y1 : PySem.W.keepIn K (.ref y1) = true)
    (ex_y1 : PySem.W.excIn K y1 [.type "ValueError", .type "Exception", .type "BaseException", .type "object"] "ValueError.__new__" = true)
    (sb_y1 : PySem.W.subIn K (.ref y1) (.type "BaseException") = some true)
    (ty_y1 : PySem.W.typeIn K (.ref y1) = some (.type "type"))
    (a_y2 : PySem.W.nsIn K mainGlobals "BadNumber" = some (some (.ref y2)))
    (kp_y2 : PySem.W.keepIn K (.ref y2) = true)
    (ex_y2 : PySem.W.excIn K y2 [.type "ValueError", .type "Exception", .type "BaseException", .type "object"] "ValueError.__new__" = true)
    (sb_y2 : PySem.W.subIn K (.ref y2) (.type "BaseException") = some true)
    (ty_y2 : PySem.W.typeIn K (.ref y2) = some (.type "type"))
    (a_y3 : PySem.W.nsIn K mainGlobals "BadTowers" = some (some (.ref y3)))
    (kp_y3 : PySem.W.keepIn K (.ref y3) = true)
    (ex_y3 : PySem.W.excIn K y3 [.type "ValueError", .type "Exception", .type "BaseException", .type "object"] "ValueError.__new__" = true)
    (sb_y3 : PySem.W.subIn K (.ref y3) (.type "BaseException") = some true)
    (ty_y3 : PySem.W.typeIn K (.ref y3) = some (.type "type"))
    (a_y4 : PySem.W.nsIn K mainGlobals "BadText" = some (some (.ref y4)))
    (kp_y4 : PySem.W.keepIn K (.ref y4) = true)
    (ex_y4 : PySem.W.excIn K y4 [.type "ValueError", .type "Exception", .type "BaseException", .type "object"] "ValueError.__new__" = true)
    (sb_y4 : PySem.W.subIn K (.ref y4) (.type "BaseException") = some true)
    (ty_y4 : PySem.W.typeIn K (.ref y4) = some (.type "type"))
    (fg_y0 : PySem.W.findIn K (.ref y0) "__getattribute__" = some (some (.builtin "BaseException.__getattribute__")))
    (fk_y0 : PySem.W.findIn K (.ref y0) "__getattr__" = some none)
    (hd_y0 : PySem.W.hasDictIn K y0 = true)
    (fc_y0 : PySem.W.findIn K (.ref y0) "__class__" = some (some (.builtin "object.__class__")))
    (mr_y0 : PySem.W.mroIn K y0 (.type "object") = some true)
    (su_y0 : PySem.W.subIn K (.ref y0) (.ref S) = some true)
    (iv_y0 : PySem.W.kitOne K (.ref y0) (.type "ValueError") = some true)
    (i_y0_y0 : PySem.W.kitOne K (.ref y0) (.ref y0) = some true)
    (i_y0_y1 : PySem.W.kitOne K (.ref y0) (.ref y1) = some false)
    (i_y0_y2 : PySem.W.kitOne K (.ref y0) (.ref y2) = some false)
    (i_y0_y3 : PySem.W.kitOne K (.ref y0) (.ref y3) = some false)
    (i_y0_y4 : PySem.W.kitOne K (.ref y0) (.ref y4) = some false)
    (fg_y1 : PySem.W.findIn K (.ref y1) "__getattribute__" = some (some (.builtin "BaseException.__getattribute__")))
    (fk_y1 : PySem.W.findIn K (.ref y1) "__getattr__" = some none)
    (hd_y1 : PySem.W.hasDictIn K y1 = true)
    (fc_y1 : PySem.W.findIn K (.ref y1) "__class__" = some (some (.builtin "object.__class__")))
    (mr_y1 : PySem.W.mroIn K y1 (.type "object") = some true)
    (su_y1 : PySem.W.subIn K (.ref y1) (.ref S) = some true)
    (iv_y1 : PySem.W.kitOne K (.ref y1) (.type "ValueError") = some true)
    (i_y1_y0 : PySem.W.kitOne K (.ref y1) (.ref y0) = some false)
    (i_y1_y1 : PySem.W.kitOne K (.ref y1) (.ref y1) = some true)
    (i_y1_y2 : PySem.W.kitOne K (.ref y1) (.ref y2) = some false)
    (i_y1_y3 : PySem.W.kitOne K (.ref y1) (.ref y3) = some false)
    (i_y1_y4 : PySem.W.kitOne K (.ref y1) (.ref y4) = some false)
    (fg_y2 : PySem.W.findIn K (.ref y2) "__getattribute__" = some (some (.builtin "BaseException.__getattribute__")))
    (fk_y2 : PySem.W.findIn K (.ref y2) "__getattr__" = some none)
    (hd_y2 : PySem.W.hasDictIn K y2 = true)
    (fc_y2 : PySem.W.findIn K (.ref y2) "__class__" = some (some (.builtin "object.__class__")))
    (mr_y2 : PySem.W.mroIn K y2 (.type "object") = some true)
    (su_y2 : PySem.W.subIn K (.ref y2) (.ref S) = some true)
    (iv_y2 : PySem.W.kitOne K (.ref y2) (.type "ValueError") = some true)
    (i_y2_y0 : PySem.W.kitOne K (.ref y2) (.ref y0) = some false)
    (i_y2_y1 : PySem.W.kitOne K (.ref y2) (.ref y1) = some false)
    (i_y2_y2 : PySem.W.kitOne K (.ref y2) (.ref y2) = some true)
    (i_y2_y3 : PySem.W.kitOne K (.ref y2) (.ref y3) = some false)
    (i_y2_y4 : PySem.W.kitOne K (.ref y2) (.ref y4) = some false)
    (fg_y3 : PySem.W.findIn K (.ref y3) "__getattribute__" = some (some (.builtin "BaseException.__getattribute__")))
    (fk_y3 : PySem.W.findIn K (.ref y3) "__getattr__" = some none)
    (hd_y3 : PySem.W.hasDictIn K y3 = true)
    (fc_y3 : PySem.W.findIn K (.ref y3) "__class__" = some (some (.builtin "object.__class__")))
    (mr_y3 : PySem.W.mroIn K y3 (.type "object") = some true)
    (su_y3 : PySem.W.subIn K (.ref y3) (.ref S) = some true)
    (iv_y3 : PySem.W.kitOne K (.ref y3) (.type "ValueError") = some true)
    (i_y3_y0 : PySem.W.kitOne K (.ref y3) (.ref y0) = some false)
    (i_y3_y1 : PySem.W.kitOne K (.ref y3) (.ref y1) = some false)
    (i_y3_y2 : PySem.W.kitOne K (.ref y3) (.ref y2) = some false)
    (i_y3_y3 : PySem.W.kitOne K (.ref y3) (.ref y3) = some true)
    (i_y3_y4 : PySem.W.kitOne K (.ref y3) (.ref y4) = some false)
    (sp_cls : PySem.W.specialIn K (.builtin "object.__class__") "__get__" = some (some (.builtin "getset_descriptor.__get__")))
    (tk_cls : PySem.W.takesIn K (.builtin "object.__class__") = some true)
    (n_high : PySem.W.nsIn K mainGlobals "TOO_HIGH" = some (some vH))
    (e_high : ∃ t, vH = .int (10 ^ 60) t)
    (n_none : PySem.W.nsIn K mainGlobals "NO_COLUMNS" = some (some vN))
    (e_none : ∃ t, vN = .str "-" t)
    : ∃ fd : FuncData, (∀ (s : Shared) (v : Value), BindsTo s fd ⟨[v], []⟩ [("_law_script", v)]) ∧ ∀ base : Heap, K.In base → base.Ns mainGlobals mg → FnOk l.prog w K mg base CX0 10 fa fd ["_law_script"] (spLaw K) := by
  have e := hfa.symm.trans (PySem.W.mg_of X G a32)
  cases e
  have B : Bl mg := ⟨PySem.W.mg_none_of X G z_len, PySem.W.mg_none_of X G z_isinstance, PySem.W.mg_none_of X G z_sorted, PySem.W.mg_none_of X G z_range, PySem.W.mg_none_of X G z_enumerate, PySem.W.mg_none_of X G z_reversed, PySem.W.mg_none_of X G z_min, PySem.W.mg_none_of X G z_all, PySem.W.mg_none_of X G z_list, PySem.W.mg_none_of X G z_int, PySem.W.mg_none_of X G z_bool, PySem.W.mg_none_of X G z_tuple, PySem.W.mg_none_of X G z_dict, PySem.W.mg_none_of X G z_set, PySem.W.mg_none_of X G z_divmod, PySem.W.mg_none_of X G z_sum, PySem.W.mg_none_of X G z_str, PySem.W.mg_none_of X G z_ValueError⟩
  have F_is_count := fun_mk (st := s_is_count) l1 c1 k1
  have b_is_count := F_is_count.binds (ps := ["value"]) fun _ _ _ _ _ _ us hl => match us, hl with | [_], _ => rfl
  have g_is_count := PySem.W.mg_of X G a1
  have k_is_count := k1
  have F_is_stairs := fun_mk (st := s_is_stairs) l2 c2 k2
  have b_is_stairs := F_is_stairs.binds (ps := ["stairs"]) fun _ _ _ _ _ _ us hl => match us, hl with | [_], _ => rfl
  have g_is_stairs := PySem.W.mg_of X G a2
  have k_is_stairs := k2
  have F_check_stairs := fun_mk (st := s_check_stairs) l3 c3 k3
  have b_check_stairs := F_check_stairs.binds (ps := ["stairs"]) fun _ _ _ _ _ _ us hl => match us, hl with | [_], _ => rfl
  have g_check_stairs := PySem.W.mg_of X G a3
  have k_check_stairs := k3
  have F_is_cell := fun_mk (st := s_is_cell) l4 c4 k4
  have b_is_cell := F_is_cell.binds (ps := ["stairs", "cell"]) fun _ _ _ _ _ _ us hl => match us, hl with | [_, _], _ => rfl
  have g_is_cell := PySem.W.mg_of X G a4
  have k_is_cell := k4
  have F_are_towers := fun_mk (st := s_are_towers) l5 c5 k5
  have b_are_towers := F_are_towers.binds (ps := ["stairs", "towers"]) fun _ _ _ _ _ _ us hl => match us, hl with | [_, _], _ => rfl
  have g_are_towers := PySem.W.mg_of X G a5
  have k_are_towers := k5
  have F_counts := fun_mk (st := s_counts) l6 c6 k6
  have b_counts := F_counts.binds (ps := ["stairs"]) fun _ _ _ _ _ _ us hl => match us, hl with | [_], _ => rfl
  have g_counts := PySem.W.mg_of X G a6
  have k_counts := k6
  have F_filled := fun_mk (st := s_filled) l7 c7 k7
  have b_filled := F_filled.binds (ps := ["stairs", "more"]) fun _ _ _ _ _ _ us hl => match us, hl with | [_, _], _ => rfl
  have g_filled := PySem.W.mg_of X G a7
  have k_filled := k7
  have F_ways_without_columns := fun_mk (st := s_ways_without_columns) l8 c8 k8
  have b_ways_without_columns := F_ways_without_columns.binds (ps := ["most"]) fun _ _ _ _ _ _ us hl => match us, hl with | [_], _ => rfl
  have g_ways_without_columns := PySem.W.mg_of X G a8
  have k_ways_without_columns := k8
  have F_add_column := fun_mk (st := s_add_column) l9 c9 k9
  have b_add_column := F_add_column.binds (ps := ["ways", "height"]) fun _ _ _ _ _ _ us hl => match us, hl with | [_, _], _ => rfl
  have g_add_column := PySem.W.mg_of X G a9
  have k_add_column := k9
  have F_take_column := fun_mk (st := s_take_column) l10 c10 k10
  have b_take_column := F_take_column.binds (ps := ["ways", "height"]) fun _ _ _ _ _ _ us hl => match us, hl with | [_, _], _ => rfl
  have g_take_column := PySem.W.mg_of X G a10
  have k_take_column := k10
  have F_ways_up_to := fun_mk (st := s_ways_up_to) l11 c11 k11
  have b_ways_up_to := F_ways_up_to.binds (ps := ["stairs", "most"]) fun _ _ _ _ _ _ us hl => match us, hl with | [_, _], _ => rfl
  have g_ways_up_to := PySem.W.mg_of X G a11
  have k_ways_up_to := k11
  have F__row_above := fun_mk (st := s__row_above) l12 c12 k12
  have b__row_above := F__row_above.binds (ps := ["taken", "free"]) fun _ _ _ _ _ _ us hl => match us, hl with | [_, _], _ => rfl
  have g__row_above := PySem.W.mg_of X G a12
  have k__row_above := k12
  have F__choices := fun_mk (st := s__choices) l13 c13 k13
  have b__choices := F__choices.binds (ps := ["stairs", "ways", "number"]) fun _ _ _ _ _ _ us hl => match us, hl with | [_, _, _], _ => rfl
  have g__choices := PySem.W.mg_of X G a13
  have k__choices := k13
  have F__with_rows := fun_mk (st := s__with_rows) l14 c14 k14
  have b__with_rows := F__with_rows.binds (ps := ["choices"]) fun _ _ _ _ _ _ us hl => match us, hl with | [_], _ => rfl
  have g__with_rows := PySem.W.mg_of X G a14
  have k__with_rows := k14
  have F_way_of := fun_mk (st := s_way_of) l15 c15 k15
  have b_way_of := F_way_of.binds (ps := ["stairs", "many", "number"]) fun _ _ _ _ _ _ us hl => match us, hl with | [_, _, _], _ => rfl
  have g_way_of := PySem.W.mg_of X G a15
  have k_way_of := k15
  have F_number_of := fun_mk (st := s_number_of) l16 c16 k16
  have b_number_of := F_number_of.binds (ps := ["stairs", "towers"]) fun _ _ _ _ _ _ us hl => match us, hl with | [_, _], _ => rfl
  have g_number_of := PySem.W.mg_of X G a16
  have k_number_of := k16
  have F_fullest := fun_mk (st := s_fullest) l17 c17 k17
  have b_fullest := F_fullest.binds (ps := ["stairs"]) fun _ _ _ _ _ _ us hl => match us, hl with | [_], _ => rfl
  have g_fullest := PySem.W.mg_of X G a17
  have k_fullest := k17
  have F_plain := fun_mk (st := s_plain) l18 c18 k18
  have b_plain := F_plain.binds (ps := ["stairs"]) fun _ _ _ _ _ _ us hl => match us, hl with | [_], _ => rfl
  have g_plain := PySem.W.mg_of X G a18
  have k_plain := k18
  have F_alike := fun_mk (st := s_alike) l19 c19 k19
  have b_alike := F_alike.binds (ps := ["one", "other"]) fun _ _ _ _ _ _ us hl => match us, hl with | [_, _], _ => rfl
  have g_alike := PySem.W.mg_of X G a19
  have k_alike := k19
  have F_written := fun_mk (st := s_written) l20 c20 k20
  have b_written := F_written.binds (ps := ["stairs"]) fun _ _ _ _ _ _ us hl => match us, hl with | [_], _ => rfl
  have g_written := PySem.W.mg_of X G a20
  have k_written := k20
  have F_l_cell_at := fun_mk (st := s_l_cell_at) l21 c21 k21
  have b_l_cell_at := F_l_cell_at.binds (ps := ["_law_script", "_law_k"]) fun _ _ _ _ _ _ us hl => match us, hl with | [_, _], _ => rfl
  have g_l_cell_at := PySem.W.mg_of X G a21
  have k_l_cell_at := k21
  have F_l_draw := fun_mk (st := s_l_draw) l22 c22 k22
  have b_l_draw := F_l_draw.binds (ps := ["_law_cell", "_law_k", "_law_many"]) fun _ _ _ _ _ _ us hl => match us, hl with | [_, _, _], _ => rfl
  have g_l_draw := PySem.W.mg_of X G a22
  have k_l_draw := k22
  have F_l_stairs := fun_mk (st := s_l_stairs) l23 c23 k23
  have b_l_stairs := F_l_stairs.binds (ps := ["_law_script"]) fun _ _ _ _ _ _ us hl => match us, hl with | [_], _ => rfl
  have g_l_stairs := PySem.W.mg_of X G a23
  have k_l_stairs := k23
  have F_l_kinds := fun_mk (st := s_l_kinds) l24 c24 k24
  have b_l_kinds := F_l_kinds.binds (ps := ["_law_error"]) fun _ _ _ _ _ _ us hl => match us, hl with | [_], _ => rfl
  have g_l_kinds := PySem.W.mg_of X G a24
  have k_l_kinds := k24
  have F_l_with_stairs := fun_mk (st := s_l_with_stairs) l25 c25 k25
  have b_l_with_stairs := F_l_with_stairs.binds (ps := ["_law_door", "_law_stairs_here"]) fun _ _ _ _ _ _ us hl => match us, hl with | [_, _], _ => rfl
  have g_l_with_stairs := PySem.W.mg_of X G a25
  have k_l_with_stairs := k25
  have F_l_with_count := fun_mk (st := s_l_with_count) l26 c26 k26
  have b_l_with_count := F_l_with_count.binds (ps := ["_law_door", "_law_number"]) fun _ _ _ _ _ _ us hl => match us, hl with | [_, _], _ => rfl
  have g_l_with_count := PySem.W.mg_of X G a26
  have k_l_with_count := k26
  have F_l_with_number := fun_mk (st := s_l_with_number) l27 c27 k27
  have b_l_with_number := F_l_with_number.binds (ps := ["_law_stairs_here", "_law_number"]) fun _ _ _ _ _ _ us hl => match us, hl with | [_, _], _ => rfl
  have g_l_with_number := PySem.W.mg_of X G a27
  have k_l_with_number := k27
  have F_l_with_first := fun_mk (st := s_l_with_first) l28 c28 k28
  have b_l_with_first := F_l_with_first.binds (ps := ["_law_stairs_here", "_law_number"]) fun _ _ _ _ _ _ us hl => match us, hl with | [_, _], _ => rfl
  have g_l_with_first := PySem.W.mg_of X G a28
  have k_l_with_first := k28
  have F_l_told := fun_mk (st := s_l_told) l29 c29 k29
  have b_l_told := F_l_told.binds (ps := ["_law_ask", "_law_one", "_law_other"]) fun _ _ _ _ _ _ us hl => match us, hl with | [_, _, _], _ => rfl
  have g_l_told := PySem.W.mg_of X G a29
  have k_l_told := k29
  have F_l_all := fun_mk (st := s_l_all) l30 c30 k30
  have b_l_all := F_l_all.binds (ps := ["_law_ask", "_law_doors", "_law_things", "_law_due"]) fun _ _ _ _ _ _ us hl => match us, hl with | [_, _, _, _], _ => rfl
  have g_l_all := PySem.W.mg_of X G a30
  have k_l_all := k30
  have F_l_towers_right := fun_mk (st := s_l_towers_right) l31 c31 k31
  have b_l_towers_right := F_l_towers_right.binds (ps := ["_law_stairs_here", "_law_due", "_law_far_here"]) fun _ _ _ _ _ _ us hl => match us, hl with | [_, _, _], _ => rfl
  have g_l_towers_right := PySem.W.mg_of X G a31
  have k_l_towers_right := k31
  have F_law := fun_mk (st := s_law) l32 c32 k32
  obtain ⟨tH, rfl⟩ := e_high
  obtain ⟨tN, rfl⟩ := e_none
  have N : Cn mg := ⟨⟨tH, PySem.W.mg_of X G n_high⟩, ⟨tN, PySem.W.mg_of X G n_none⟩⟩
  have T : Cs K mg S (clsAt y0 y1 y2 y3 y4) := ⟨PySem.W.mg_of X G a_S, PySem.W.mg_of X G a_y0, PySem.W.mg_of X G a_y1, PySem.W.mg_of X G a_y2, PySem.W.mg_of X G a_y3, PySem.W.mg_of X G a_y4⟩
  have X_y0 : Er K mg "BadStairs" y0 := ⟨PySem.W.mg_of X G a_y0, kp_y0, ex_y0, sb_y0, ty_y0⟩
  have X_y1 : Er K mg "BadCount" y1 := ⟨PySem.W.mg_of X G a_y1, kp_y1, ex_y1, sb_y1, ty_y1⟩
  have X_y2 : Er K mg "BadNumber" y2 := ⟨PySem.W.mg_of X G a_y2, kp_y2, ex_y2, sb_y2, ty_y2⟩
  have X_y3 : Er K mg "BadTowers" y3 := ⟨PySem.W.mg_of X G a_y3, kp_y3, ex_y3, sb_y3, ty_y3⟩
  have X_y4 : Er K mg "BadText" y4 := ⟨PySem.W.mg_of X G a_y4, kp_y4, ex_y4, sb_y4, ty_y4⟩
  have kd_y0 : Kind K S (clsAt y0 y1 y2 y3 y4) 0 := ⟨⟨fg_y0, fk_y0, sb_y0, hd_y0, fc_y0, sp_cls, tk_cls, mr_y0⟩, i_y0_y0, i_y0_y1, i_y0_y2, i_y0_y3, i_y0_y4, iv_y0, PySem.W.exm_ref sb_S sd_S st_S su_y0⟩
  have kd_y1 : Kind K S (clsAt y0 y1 y2 y3 y4) 1 := ⟨⟨fg_y1, fk_y1, sb_y1, hd_y1, fc_y1, sp_cls, tk_cls, mr_y1⟩, i_y1_y0, i_y1_y1, i_y1_y2, i_y1_y3, i_y1_y4, iv_y1, PySem.W.exm_ref sb_S sd_S st_S su_y1⟩
  have kd_y2 : Kind K S (clsAt y0 y1 y2 y3 y4) 2 := ⟨⟨fg_y2, fk_y2, sb_y2, hd_y2, fc_y2, sp_cls, tk_cls, mr_y2⟩, i_y2_y0, i_y2_y1, i_y2_y2, i_y2_y3, i_y2_y4, iv_y2, PySem.W.exm_ref sb_S sd_S st_S su_y2⟩
  have kd_y3 : Kind K S (clsAt y0 y1 y2 y3 y4) 3 := ⟨⟨fg_y3, fk_y3, sb_y3, hd_y3, fc_y3, sp_cls, tk_cls, mr_y3⟩, i_y3_y0, i_y3_y1, i_y3_y2, i_y3_y3, i_y3_y4, iv_y3, PySem.W.exm_ref sb_S sd_S st_S su_y3⟩
  have kd : ∀ j, j < 4 → Kind K S (clsAt y0 y1 y2 y3 y4) j := fun j hj => match j, hj with | 0, _ => kd_y0 | 1, _ => kd_y1 | 2, _ => kd_y2 | 3, _ => kd_y3
  refine ⟨PySem.W.fnOf "law" "law" (defArgs s_law) (defBody s_law) (defScope s_law) .none kV32 dc32 pm32 an32 cd32 ct32, fun s v => .of_eq rfl, fun base _ _ => ?_⟩
  have D_is_count : Df l.prog w K mg base "is_count" 1 ["value"] (spCount K) _ _ := ⟨okG_is_count (m := 0) B F_is_count, g_is_count, k_is_count, b_is_count⟩
  have D_is_stairs : Df l.prog w K mg base "is_stairs" 2 ["stairs"] (spIsSt K) _ _ := ⟨okG_is_stairs (m := 0) B D_is_count F_is_stairs, g_is_stairs, k_is_stairs, b_is_stairs⟩
  have D_check_stairs : DfX l.prog w K mg base "check_stairs" 3 ["stairs"] (spCheckX K y0) _ _ := ⟨okG_check_stairs (m := 1) B X_y0 ⟨D_is_stairs.ok, D_is_stairs.g, D_is_stairs.kp, D_is_stairs.b⟩ F_check_stairs, g_check_stairs, k_check_stairs, b_check_stairs⟩
  have D_is_cell : Df l.prog w K mg base "is_cell" 2 ["stairs", "cell"] (spCellG K) _ _ := ⟨okG_is_cell (m := 0) B D_is_count F_is_cell, g_is_cell, k_is_cell, b_is_cell⟩
  have D_are_towers : Df l.prog w K mg base "are_towers" 3 ["stairs", "towers"] (spTowersG K) _ _ := ⟨okG_are_towers (m := 1) B D_is_cell F_are_towers, g_are_towers, k_are_towers, b_are_towers⟩
  have D_counts : DfX l.prog w K mg base "counts" 4 ["stairs"] (spCountsX K y0) _ _ := ⟨okX_counts (m := 0) B D_check_stairs F_counts, g_counts, k_counts, b_counts⟩
  have D_filled : DfX l.prog w K mg base "filled" 4 ["stairs", "more"] (spFilledX K y0 y1) _ _ := ⟨okX_filled (m := 0) B X_y1 D_check_stairs D_is_count F_filled, g_filled, k_filled, b_filled⟩
  have D_ways_without_columns : Df l.prog w K mg base "ways_without_columns" 1 ["most"] spNoCols _ _ := ⟨ok_ways_without_columns (n := 0) B F_ways_without_columns, g_ways_without_columns, k_ways_without_columns, b_ways_without_columns⟩
  have D_add_column : Df l.prog w K mg base "add_column" 1 ["ways", "height"] spAddCol _ _ := ⟨ok_add_column (m := 0) B F_add_column, g_add_column, k_add_column, b_add_column⟩
  have D_take_column : Df l.prog w K mg base "take_column" 1 ["ways", "height"] spTakeCol _ _ := ⟨ok_take_column (m := 0) B F_take_column, g_take_column, k_take_column, b_take_column⟩
  have D_ways_up_to : Df l.prog w K mg base "ways_up_to" 2 ["stairs", "most"] (spUpTo K) _ _ := ⟨ok_ways_up_to (m := 0) B D_ways_without_columns D_add_column F_ways_up_to, g_ways_up_to, k_ways_up_to, b_ways_up_to⟩
  have D__row_above : Df l.prog w K mg base "_row_above" 1 ["taken", "free"] (spRowAbove K) _ _ := ⟨ok__row_above (m := 0) B F__row_above, g__row_above, k__row_above, b__row_above⟩
  have D__choices : Df l.prog w K mg base "_choices" 2 ["stairs", "ways", "number"] (spChoices K) _ _ := ⟨ok__choices (m := 0) B D_take_column F__choices, g__choices, k__choices, b__choices⟩
  have D__with_rows : Df l.prog w K mg base "_with_rows" 2 ["choices"] spWithRows _ _ := ⟨ok__with_rows (m := 0) B D__row_above F__with_rows, g__with_rows, k__with_rows, b__with_rows⟩
  have D_way_of : DfX l.prog w K mg base "way_of" 4 ["stairs", "many", "number"] (spWayX K y0 y1 y2) _ _ := ⟨okX_way_of (m := 0) B X_y1 X_y2 D_check_stairs D_is_count D_ways_up_to D__with_rows D__choices F_way_of, g_way_of, k_way_of, b_way_of⟩
  have D_number_of : DfX l.prog w K mg base "number_of" 4 ["stairs", "towers"] (spNumberX K y0 y3) _ _ := ⟨okX_number_of (m := 0) X_y3 D_check_stairs D_are_towers F_number_of, g_number_of, k_number_of, b_number_of⟩
  have D_fullest : DfX l.prog w K mg base "fullest" 4 ["stairs"] (spCountsX K y0) _ _ := ⟨okX_fullest (m := 0) D_check_stairs F_fullest, g_fullest, k_fullest, b_fullest⟩
  have D_plain : DfX l.prog w K mg base "plain" 5 ["stairs"] (spCountsX K y0) _ _ := ⟨okX_plain (m := 1) D_fullest F_plain, g_plain, k_plain, b_plain⟩
  have D_alike : DfX l.prog w K mg base "alike" 4 ["one", "other"] (spAlikeX K y0) _ _ := ⟨okX_alike (m := 0) D_check_stairs F_alike, g_alike, k_alike, b_alike⟩
  have D_written : DfX l.prog w K mg base "written" 4 ["stairs"] (spWrittenX K y0) _ _ := ⟨okX_written (m := 0) B N X_y0 D_check_stairs F_written, g_written, k_written, b_written⟩
  have D_l_cell_at : Df l.prog w K mg base "_law_cell_at" 1 ["_law_script", "_law_k"] (spCellAt K) _ _ := ⟨ok_l_cell_at (n := 0) B F_l_cell_at, g_l_cell_at, k_l_cell_at, b_l_cell_at⟩
  have D_l_draw : Df l.prog w K mg base "_law_draw" 1 ["_law_cell", "_law_k", "_law_many"] spDraw _ _ := ⟨ok_l_draw (n := 0) B F_l_draw, g_l_draw, k_l_draw, b_l_draw⟩
  have D_l_stairs : Df l.prog w K mg base "_law_stairs" 2 ["_law_script"] (spStairs K) _ _ := ⟨ok_l_stairs (m := 0) B D_l_cell_at D_l_draw F_l_stairs, g_l_stairs, k_l_stairs, b_l_stairs⟩
  have D_l_kinds : DfP l.prog w K mg base "_law_kinds" 7 ["_law_error"] (spKinds S K (clsAt y0 y1 y2 y3 y4)) _ _ := ⟨okP_l_kinds (m := 6) B T F_l_kinds, g_l_kinds, k_l_kinds, b_l_kinds⟩
  have D_l_with_stairs : DfX l.prog w K mg base "_law_with_stairs" 6 ["_law_door", "_law_stairs_here"] (spWithStairs K y0) _ _ := ⟨okX_l_with_stairs (m := 0) D_counts D_filled D_way_of D_number_of D_fullest D_plain D_alike D_written F_l_with_stairs, g_l_with_stairs, k_l_with_stairs, b_l_with_stairs⟩
  have D_l_with_count : DfX l.prog w K mg base "_law_with_count" 5 ["_law_door", "_law_number"] (spWithCount K y1) _ _ := ⟨okX_l_with_count (m := 3) D_filled D_way_of F_l_with_count, g_l_with_count, k_l_with_count, b_l_with_count⟩
  have D_l_with_number : DfX l.prog w K mg base "_law_with_number" 5 ["_law_stairs_here", "_law_number"] (spWithNumber K y2) _ _ := ⟨okX_l_with_number (m := 3) D_way_of F_l_with_number, g_l_with_number, k_l_with_number, b_l_with_number⟩
  have D_l_with_first : DfX l.prog w K mg base "_law_with_first" 5 ["_law_stairs_here", "_law_number"] (spWithFirst K y2) _ _ := ⟨okX_l_with_first (m := 3) D_way_of F_l_with_first, g_l_with_first, k_l_with_first, b_l_with_first⟩
  have D_toldA : Df l.prog w K mg base "_law_told" 8 ["_law_ask", "_law_one", "_law_other"] (spTold _ (spWithStairs K y0) K S (clsAt y0 y1 y2 y3 y4)) _ _ := ⟨ok_l_told (m := 6) T D_l_kinds (D_l_with_stairs.ok.mono (by decide)) k_l_with_stairs b_l_with_stairs F_l_told, g_l_told, k_l_told, b_l_told⟩
  have D_allA : Df l.prog w K mg base "_law_all" 9 ["_law_ask", "_law_doors", "_law_things", "_law_due"] (spAll _ (spWithStairs K y0) K S (clsAt y0 y1 y2 y3 y4)) _ _ := ⟨ok_l_all (m := 7) B D_toldA F_l_all, g_l_all, k_l_all, b_l_all⟩
  have D_toldB : Df l.prog w K mg base "_law_told" 8 ["_law_ask", "_law_one", "_law_other"] (spTold _ (spWithCount K y1) K S (clsAt y0 y1 y2 y3 y4)) _ _ := ⟨ok_l_told (m := 6) T D_l_kinds (D_l_with_count.ok.mono (by decide)) k_l_with_count b_l_with_count F_l_told, g_l_told, k_l_told, b_l_told⟩
  have D_allB : Df l.prog w K mg base "_law_all" 9 ["_law_ask", "_law_doors", "_law_things", "_law_due"] (spAll _ (spWithCount K y1) K S (clsAt y0 y1 y2 y3 y4)) _ _ := ⟨ok_l_all (m := 7) B D_toldB F_l_all, g_l_all, k_l_all, b_l_all⟩
  have D_toldC : Df l.prog w K mg base "_law_told" 8 ["_law_ask", "_law_one", "_law_other"] (spTold _ (spWithNumber K y2) K S (clsAt y0 y1 y2 y3 y4)) _ _ := ⟨ok_l_told (m := 6) T D_l_kinds (D_l_with_number.ok.mono (by decide)) k_l_with_number b_l_with_number F_l_told, g_l_told, k_l_told, b_l_told⟩
  have D_allC : Df l.prog w K mg base "_law_all" 9 ["_law_ask", "_law_doors", "_law_things", "_law_due"] (spAll _ (spWithNumber K y2) K S (clsAt y0 y1 y2 y3 y4)) _ _ := ⟨ok_l_all (m := 7) B D_toldC F_l_all, g_l_all, k_l_all, b_l_all⟩
  have D_toldD : Df l.prog w K mg base "_law_told" 8 ["_law_ask", "_law_one", "_law_other"] (spTold _ (spWithFirst K y2) K S (clsAt y0 y1 y2 y3 y4)) _ _ := ⟨ok_l_told (m := 6) T D_l_kinds (D_l_with_first.ok.mono (by decide)) k_l_with_first b_l_with_first F_l_told, g_l_told, k_l_told, b_l_told⟩
  have D_allD : Df l.prog w K mg base "_law_all" 9 ["_law_ask", "_law_doors", "_law_things", "_law_due"] (spAll _ (spWithFirst K y2) K S (clsAt y0 y1 y2 y3 y4)) _ _ := ⟨ok_l_all (m := 7) B D_toldD F_l_all, g_l_all, k_l_all, b_l_all⟩
  have D_toldN : Df l.prog w K mg base "_law_told" 8 ["_law_ask", "_law_one", "_law_other"] (spTold _ (spNumberX K y0 y3) K S (clsAt y0 y1 y2 y3 y4)) _ _ := ⟨ok_l_told (m := 6) T D_l_kinds (D_number_of.ok.mono (by decide)) k_number_of b_number_of F_l_told, g_l_told, k_l_told, b_l_told⟩
  have D_l_towers_right : Df l.prog w K mg base "_law_towers_right" 9 ["_law_stairs_here", "_law_due", "_law_far_here"] (spTowersRight K S (clsAt y0 y1 y2 y3 y4)) _ _ := ⟨ok_l_towers_right (m := 7) B g_number_of D_toldN F_l_towers_right, g_l_towers_right, k_l_towers_right, b_l_towers_right⟩
  have D_writtenC : Df l.prog w K mg base "written" 7 ["stairs"] spWrittenC _ _ := ⟨fnOk_calm (D_written.ok.mono (by decide)) fun vs H Q E q => let ⟨x, hs, e, r⟩ := q; ⟨x, e, .inr ⟨hs, r⟩⟩, g_written, k_written, b_written⟩
  have D_wayC : Df l.prog w K mg base "way_of" 7 ["stairs", "many", "number"] spWayC _ _ := ⟨fnOk_calm (D_way_of.ok.mono (by decide)) fun vs H Q E q => let ⟨x, hs, k, num, e, st, hk, g, n0, n1, r⟩ := q; ⟨x, _, _, e, .inr ⟨hs, st, .inr ⟨k, rfl, hk, g, .inr ⟨num, rfl, n0, n1, r⟩⟩⟩⟩, g_way_of, k_way_of, b_way_of⟩
  exact ok_law B g_l_with_stairs g_l_with_count g_l_with_number g_l_with_first kd D_l_cell_at D_l_stairs D_allA D_allB D_allC D_allD D_toldA D_toldB D_toldD D_writtenC D_wayC D_l_towers_right F_law
end TS
open PySem PySem.W PyProof.Rows
set_option maxRecDepth 100000 in
set_option maxHeartbeats 0 in
theorem PySem.Challenge.cw_towerstair_k07_refused_holds : PySem.Challenge.rw_towerstair_k07_refused.Holds := by
  w_on; o_law; k_head; (case hw => w_witness2)
  k_fill
  refine L2.walk_of (l := PySem.Challenge.rw_towerstair_k07_refused) (n := 63) (k := 10) (x := "_law_script") (CX := fun _ => L2.CX0) (sp := fun w => TS.spLaw _) rfl (by decide) rfl ⟨rfl, by decide, by decide⟩ (fun w h Y => PySem.W.kIn_of Y) ?F (fun _ _ a ns hl _ hS => ⟨a, ns, rfl, hS, hl, fun _ => rfl⟩) (fun _ _ _ _ _ h => h)
  case F =>
    intro w mg fa h KX G hmg
    refine' TS.all_mk KX G hmg ?a1 ?l1 ?c1 ?k1 ?a2 ?l2 ?c2 ?k2 ?a3 ?l3 ?c3 ?k3 ?a4 ?l4 ?c4 ?k4 ?a5 ?l5 ?c5 ?k5 ?a6 ?l6 ?c6 ?k6 ?a7 ?l7 ?c7 ?k7 ?a8 ?l8 ?c8 ?k8 ?a9 ?l9 ?c9 ?k9 ?a10 ?l10 ?c10 ?k10 ?a11 ?l11 ?c11 ?k11 ?a12 ?l12 ?c12 ?k12 ?a13 ?l13 ?c13 ?k13 ?a14 ?l14 ?c14 ?k14 ?a15 ?l15 ?c15 ?k15 ?a16 ?l16 ?c16 ?k16 ?a17 ?l17 ?c17 ?k17 ?a18 ?l18 ?c18 ?k18 ?a19 ?l19 ?c19 ?k19 ?a20 ?l20 ?c20 ?k20 ?a21 ?l21 ?c21 ?k21 ?a22 ?l22 ?c22 ?k22 ?a23 ?l23 ?c23 ?k23 ?a24 ?l24 ?c24 ?k24 ?a25 ?l25 ?c25 ?k25 ?a26 ?l26 ?c26 ?k26 ?a27 ?l27 ?c27 ?k27 ?a28 ?l28 ?c28 ?k28 ?a29 ?l29 ?c29 ?k29 ?a30 ?l30 ?c30 ?k30 ?a31 ?l31 ?c31 ?k31 ?a32 ?l32 ?c32 ?k32 ?z_len ?z_isinstance ?z_sorted ?z_range ?z_enumerate ?z_reversed ?z_min ?z_all ?z_list ?z_int ?z_bool ?z_tuple ?z_dict ?z_set ?z_divmod ?z_sum ?z_str ?z_ValueError ?a_S ?sb_S ?sd_S ?st_S ?a_y0 ?kp_y0 ?ex_y0 ?sb_y0 ?ty_y0 ?a_y1 ?kp_y1 ?ex_y1 ?sb_y1 ?ty_y1 ?a_y2 ?kp_y2 ?ex_y2 ?sb_y2 ?ty_y2 ?a_y3 ?kp_y3 ?ex_y3 ?sb_y3 ?ty_y3 ?a_y4 ?kp_y4 ?ex_y4 ?sb_y4 ?ty_y4 ?fg_y0 ?fk_y0 ?hd_y0 ?fc_y0 ?mr_y0 ?su_y0 ?iv_y0 ?i_y0_y0 ?i_y0_y1 ?i_y0_y2 ?i_y0_y3 ?i_y0_y4 ?fg_y1 ?fk_y1 ?hd_y1 ?fc_y1 ?mr_y1 ?su_y1 ?iv_y1 ?i_y1_y0 ?i_y1_y1 ?i_y1_y2 ?i_y1_y3 ?i_y1_y4 ?fg_y2 ?fk_y2 ?hd_y2 ?fc_y2 ?mr_y2 ?su_y2 ?iv_y2 ?i_y2_y0 ?i_y2_y1 ?i_y2_y2 ?i_y2_y3 ?i_y2_y4 ?fg_y3 ?fk_y3 ?hd_y3 ?fc_y3 ?mr_y3 ?su_y3 ?iv_y3 ?i_y3_y0 ?i_y3_y1 ?i_y3_y2 ?i_y3_y3 ?i_y3_y4 ?sp_cls ?tk_cls ?n_high ?e_high ?n_none ?e_none
    (case a1 => k_is); (case l1 => k_is); (case c1 => k_is); (case k1 => k_is); (case a2 => k_is); (case l2 => k_is)
    (case c2 => k_is); (case k2 => k_is); (case a3 => k_is); (case l3 => k_is); (case c3 => k_is); (case k3 => k_is)
    (case a4 => k_is); (case l4 => k_is); (case c4 => k_is); (case k4 => k_is); (case a5 => k_is); (case l5 => k_is)
    (case c5 => k_is); (case k5 => k_is); (case a6 => k_is); (case l6 => k_is); (case c6 => k_is); (case k6 => k_is)
    (case a7 => k_is); (case l7 => k_is); (case c7 => k_is); (case k7 => k_is); (case a8 => k_is); (case l8 => k_is)
    (case c8 => k_is); (case k8 => k_is); (case a9 => k_is); (case l9 => k_is); (case c9 => k_is); (case k9 => k_is)
    (case a10 => k_is); (case l10 => k_is); (case c10 => k_is); (case k10 => k_is); (case a11 => k_is); (case l11 => k_is)
    (case c11 => k_is); (case k11 => k_is); (case a12 => k_is); (case l12 => k_is); (case c12 => k_is); (case k12 => k_is)
    (case a13 => k_is); (case l13 => k_is); (case c13 => k_is); (case k13 => k_is); (case a14 => k_is); (case l14 => k_is)
    (case c14 => k_is); (case k14 => k_is); (case a15 => k_is); (case l15 => k_is); (case c15 => k_is); (case k15 => k_is)
    (case a16 => k_is); (case l16 => k_is); (case c16 => k_is); (case k16 => k_is); (case a17 => k_is); (case l17 => k_is)
    (case c17 => k_is); (case k17 => k_is); (case a18 => k_is); (case l18 => k_is); (case c18 => k_is); (case k18 => k_is)
    (case a19 => k_is); (case l19 => k_is); (case c19 => k_is); (case k19 => k_is); (case a20 => k_is); (case l20 => k_is)
    (case c20 => k_is); (case k20 => k_is); (case a21 => k_is); (case l21 => k_is); (case c21 => k_is); (case k21 => k_is)
    (case a22 => k_is); (case l22 => k_is); (case c22 => k_is); (case k22 => k_is); (case a23 => k_is); (case l23 => k_is)
    (case c23 => k_is); (case k23 => k_is); (case a24 => k_is); (case l24 => k_is); (case c24 => k_is); (case k24 => k_is)
    (case a25 => k_is); (case l25 => k_is); (case c25 => k_is); (case k25 => k_is); (case a26 => k_is); (case l26 => k_is)
    (case c26 => k_is); (case k26 => k_is); (case a27 => k_is); (case l27 => k_is); (case c27 => k_is); (case k27 => k_is)
    (case a28 => k_is); (case l28 => k_is); (case c28 => k_is); (case k28 => k_is); (case a29 => k_is); (case l29 => k_is)
    (case c29 => k_is); (case k29 => k_is); (case a30 => k_is); (case l30 => k_is); (case c30 => k_is); (case k30 => k_is)
    (case a31 => k_is); (case l31 => k_is); (case c31 => k_is); (case k31 => k_is); (case a32 => k_is); (case l32 => k_is)
    (case c32 => k_is); (case k32 => k_is); (case z_len => k_is); (case z_isinstance => k_is); (case z_sorted => k_is); (case z_range => k_is)
    (case z_enumerate => k_is); (case z_reversed => k_is); (case z_min => k_is); (case z_all => k_is); (case z_list => k_is); (case z_int => k_is)
    (case z_bool => k_is); (case z_tuple => k_is); (case z_dict => k_is); (case z_set => k_is); (case z_divmod => k_is); (case z_sum => k_is)
    (case z_str => k_is); (case z_ValueError => k_is); (case a_S => k_is); (case sb_S => k_is); (case sd_S => k_is); (case st_S => k_is)
    (case a_y0 => k_is); (case kp_y0 => k_is); (case ex_y0 => k_exc); (case sb_y0 => k_is); (case ty_y0 => k_is); (case a_y1 => k_is)
    (case kp_y1 => k_is); (case ex_y1 => k_exc); (case sb_y1 => k_is); (case ty_y1 => k_is); (case a_y2 => k_is); (case kp_y2 => k_is)
    (case ex_y2 => k_exc); (case sb_y2 => k_is); (case ty_y2 => k_is); (case a_y3 => k_is); (case kp_y3 => k_is); (case ex_y3 => k_exc)
    (case sb_y3 => k_is); (case ty_y3 => k_is); (case a_y4 => k_is); (case kp_y4 => k_is); (case ex_y4 => k_exc); (case sb_y4 => k_is)
    (case ty_y4 => k_is); (case fg_y0 => k_is); (case fk_y0 => k_is); (case hd_y0 => k_is); (case fc_y0 => k_is); (case mr_y0 => k_is)
    (case su_y0 => first | rfl | k_is); (case iv_y0 => first | rfl | k_is); (case i_y0_y0 => first | rfl | k_is); (case i_y0_y1 => first | rfl | k_is); (case i_y0_y2 => first | rfl | k_is); (case i_y0_y3 => first | rfl | k_is)
    (case i_y0_y4 => first | rfl | k_is); (case fg_y1 => k_is); (case fk_y1 => k_is); (case hd_y1 => k_is); (case fc_y1 => k_is); (case mr_y1 => k_is)
    (case su_y1 => first | rfl | k_is); (case iv_y1 => first | rfl | k_is); (case i_y1_y0 => first | rfl | k_is); (case i_y1_y1 => first | rfl | k_is); (case i_y1_y2 => first | rfl | k_is); (case i_y1_y3 => first | rfl | k_is)
    (case i_y1_y4 => first | rfl | k_is); (case fg_y2 => k_is); (case fk_y2 => k_is); (case hd_y2 => k_is); (case fc_y2 => k_is); (case mr_y2 => k_is)
    (case su_y2 => first | rfl | k_is); (case iv_y2 => first | rfl | k_is); (case i_y2_y0 => first | rfl | k_is); (case i_y2_y1 => first | rfl | k_is); (case i_y2_y2 => first | rfl | k_is); (case i_y2_y3 => first | rfl | k_is)
    (case i_y2_y4 => first | rfl | k_is); (case fg_y3 => k_is); (case fk_y3 => k_is); (case hd_y3 => k_is); (case fc_y3 => k_is); (case mr_y3 => k_is)
    (case su_y3 => first | rfl | k_is); (case iv_y3 => first | rfl | k_is); (case i_y3_y0 => first | rfl | k_is); (case i_y3_y1 => first | rfl | k_is); (case i_y3_y2 => first | rfl | k_is); (case i_y3_y3 => first | rfl | k_is)
    (case i_y3_y4 => first | rfl | k_is); (case sp_cls => first | rfl | k_is); (case tk_cls => first | rfl | k_is); (case n_high => k_is); (case e_high => exact ⟨_, rfl⟩); (case n_none => k_is)
    (case e_none => exact ⟨_, rfl⟩)
