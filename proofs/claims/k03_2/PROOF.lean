import PyProof.Rows.All
import Wide.All
import OpenK.AllK
import Wide.FinOn
import HandS.Base
import HandS.Call
import HandS.List
import HandS.Comp
import HandS.Iter
import HandS.Ends
import HandS.Words
import HandS.WordsList
import HandS.Wide
import HandS.ForMost
import HandS.IsInst
import HandS.RevRange
import HandS.Style
import HandS.Strs
import HandS.SetBool
import HandS.SetFor
import HandS.Zip
import HandS.WideBits
import HandS.Rev
import HandS.SortInts
import HandS.Evl
import PySem.Challenge.RW_towerstair_k03_whole_numbers
set_option Elab.async false
set_option linter.all false
set_option maxRecDepth 100000
set_option maxHeartbeats 4000000
namespace TS
open PySem PySem.Spec PyProof.Rows L2
/-! small rules: an item read for an augmented store; a def with what its callers need -/
theorem get_list {X : Cx} : PGet X (rIxL X.K) := by
  intro pins s σ H o i ov iv Q I rx ry h
  obtain ⟨p, xs, k, z, rfl, rfl, hq, he, q⟩ := h
  cases rx
  obtain ⟨t, rfl⟩ := ry
  obtain ⟨its, vr, pl, _⟩ := I.list hq
  obtain ⟨j, at1, at2, _, lo, hi⟩ := atI_get he
  obtain ⟨wv, ew, rel⟩ := vr.get at2
  have hl := vr.length
  have hn := line63
  have done : EP X pins σ Q wv s := ⟨z, H, I, rel, q⟩
  by_cases h0 : 0 ≤ k
  · have hj : k.toNat = j := by
      rw [seqIndex_of h0 hi] at at1
      exact Option.some.inj at1
    exact wpAny_getItem_list pl.isList h0 (by omega) (by rw [hj]; simpa using ew) done
  · have hj : (k + (its.toArray.size : Int)).toNat = j := by
      rw [seqIndex_neg (by omega) lo] at at1
      rw [List.size_toArray, ← hl]
      exact Option.some.inj at1
    exact wpAny_getItem_list_neg pl.isList (by omega) (by rw [List.size_toArray] <;> omega) (by omega) (by rw [hj]; simpa using ew) done
structure Df (P : Program) (w : World) (K : PySem.W.Frag) (mg : Str → Option Value) (base : Heap) (x : Str) (k : Nat) (ps : List Str) (sp : Sp) (f : Addr) (fd : FuncData) : Prop where
  ok : FnOk P w K mg base CX0 k f fd ps sp
  g : mg x = some (.ref f)
  kp : PySem.W.keepIn K (.ref f) = true
  b : Binds K fd ps []
/-! heaps -/
theorem same_upd {H : Hp} {p : Addr} {o : HO} (h : H p = none) : Same H (upd H p o) := fun b x e => by
  rw [upd_ne (ne_of_none e h)]
  exact e
theorem same_mut {H H' : Hp} {p : Addr} {o : HO} (e : Same H H') (h : H p = none) : Same H (upd H' p o) := fun b x q => by
  rw [upd_ne (ne_of_none q h)]
  exact e b x q
theorem upd_id {H : Hp} {p : Addr} {o : HO} (h : H p = some o) : upd H p o = H := by
  funext b
  unfold upd
  split
  · next e => rw [e, h]
  · rfl
/-- a list of ints at a -/
abbrev IL (K : PySem.W.Frag) (H : Hp) (a : Addr) (ns : List Int) : Prop := SqL K H a (ns.map V.int)
theorem il_of {K : PySem.W.Frag} {H : Hp} {a : Addr} {ns : List Int} (h : H a = some (.lst (ns.map V.int))) : IL K H a ns := .inl (.inl h)
theorem mapI_get {ns : List Int} {i : Nat} {x : V} (h : (ns.map V.int)[i]? = some x) : ∃ n, x = .int n ∧ ns[i]? = some n := by
  rw [List.getElem?_map] at h
  cases e : ns[i]? with
  | none => rw [e] at h; cases h
  | some n => rw [e] at h; exact ⟨n, (Option.some.inj h).symm, rfl⟩
theorem mapI_at {ns : List Int} {i : Nat} {n : Int} (h : ns[i]? = some n) : (ns.map V.int)[i]? = some (.int n) := by
  rw [List.getElem?_map, h]
  rfl
theorem getD_at {ns : List Int} {i : Nat} (h : i < ns.length) : ns[i]? = some (ns.getD i 0) := by
  rw [List.getElem?_eq_getElem h, List.getD_eq_getElem?_getD, List.getElem?_eq_getElem h]
  rfl
theorem sz63 {n : Nat} (h : n ≤ 100000) : n ≤ sizeLine := Nat.le_trans h (by decide)
theorem sz63' {n : Nat} (h : n < 100000) : n < sizeLine := Nat.lt_of_lt_of_le h (by decide)
/-! comparing lists of ints -/
def dI (ns : List Int) : PyData := .list (ns.map PyData.int)
theorem dpAll_ints {K : PySem.W.Frag} {H : Hp} : ∀ ns : List Int, DpAll K H (ns.map V.int) (ns.map PyData.int)
  | [] => .nil
  | n :: r => .cons (.int n) (dpAll_ints r)
theorem dp_il {K : PySem.W.Frag} {H : Hp} {a : Addr} {ns : List Int} (h : IL K H a ns) : Dp K H (.ref a) (dI ns) := .lst h (dpAll_ints ns)
theorem can_ints : ∀ ns : List Int, PyData.canLayAll0 (ns.map PyData.int) = true
  | [] => rfl
  | n :: r => by
    show (PyData.canLay0 (.int n) && PyData.canLayAll0 (r.map PyData.int)) = true
    rw [can_ints r]
    rfl
theorem depth_ints : ∀ ns : List Int, PyData.depthAll (ns.map PyData.int) = 0
  | [] => rfl
  | n :: r => by
    show max 0 (PyData.depthAll (r.map PyData.int)) = 0
    rw [depth_ints r]
    rfl
theorem shaped_ints (ns : List Int) : SeqAt.shaped (dI ns) = true := by
  show (PyData.canLayAll0 (ns.map PyData.int) && decide (PyData.depthAll (ns.map PyData.int) + 1 ≤ 64)) = true
  rw [can_ints, depth_ints]
  rfl
theorem eqvAll_ints : ∀ ns ms : List Int, PyData.eqvAll (ns.map PyData.int) (ms.map PyData.int) = decide (ns = ms)
  | [], [] => by simp [PyData.eqvAll]
  | [], m :: s => by simp [PyData.eqvAll]
  | n :: r, [] => by simp [PyData.eqvAll]
  | n :: r, m :: s => by
    simp only [List.map_cons, PyData.eqvAll, PyData.eqv]
    rw [eqvAll_ints r s]
    by_cases h : n = m
    · by_cases k : r = s <;> simp [h, k]
    · simp [h]
theorem eqv_ints (ns ms : List Int) : PyData.eqv (dI ns) (dI ms) = decide (ns = ms) := by
  unfold dI
  rw [PyData.eqv]
  exact eqvAll_ints ns ms
end TS
namespace TS
open PySem PySem.Spec PyProof.Rows L2
/-! the text by places -/
def topS (i : Nat) : Stmt := PySem.Challenge.pw_towerstair_k03_whole_numbers.main.body.getD i (.Pass ⟨0, 0, 0, 0⟩)
abbrev s_is_count : Stmt := topS 7
abbrev N_is_count : List Str := ["value"]
theorem sc_is_count : FnScope N_is_count ["value"] (defScope s_is_count) := ⟨rfl, rfl, rfl, by decide +kernel, rfl, by decide +kernel, by decide +kernel⟩
abbrev s_is_stairs : Stmt := topS 8
abbrev N_is_stairs : List Str := ["stairs", "least", "height"]
theorem sc_is_stairs : FnScope N_is_stairs ["stairs"] (defScope s_is_stairs) := ⟨rfl, rfl, rfl, by decide +kernel, rfl, by decide +kernel, by decide +kernel⟩
abbrev s_check_stairs : Stmt := topS 9
abbrev N_check_stairs : List Str := ["stairs"]
theorem sc_check_stairs : FnScope N_check_stairs ["stairs"] (defScope s_check_stairs) := ⟨rfl, rfl, rfl, by decide +kernel, rfl, by decide +kernel, by decide +kernel⟩
abbrev s_is_cell : Stmt := topS 10
abbrev N_is_cell : List Str := ["stairs", "cell", "column", "row"]
theorem sc_is_cell : FnScope N_is_cell ["stairs", "cell"] (defScope s_is_cell) := ⟨rfl, rfl, rfl, by decide +kernel, rfl, by decide +kernel, by decide +kernel⟩
abbrev s_are_towers : Stmt := topS 11
abbrev N_are_towers : List Str := ["stairs", "towers", "least", "cell"]
theorem sc_are_towers : FnScope N_are_towers ["stairs", "towers"] (defScope s_are_towers) := ⟨rfl, rfl, rfl, by decide +kernel, rfl, by decide +kernel, by decide +kernel⟩
abbrev s_ways_up_to : Stmt := topS 13
abbrev N_ways_up_to : List Str := ["stairs", "most", "ways", "height"]
theorem sc_ways_up_to : FnScope N_ways_up_to ["stairs", "most"] (defScope s_ways_up_to) := ⟨rfl, rfl, rfl, by decide +kernel, rfl, by decide +kernel, by decide +kernel⟩
abbrev s_ways_without_columns : Stmt := topS 14
abbrev N_ways_without_columns : List Str := ["most"]
theorem sc_ways_without_columns : FnScope N_ways_without_columns ["most"] (defScope s_ways_without_columns) := ⟨rfl, rfl, rfl, by decide +kernel, rfl, by decide +kernel, by decide +kernel⟩
abbrev s_add_column : Stmt := topS 15
abbrev N_add_column : List Str := ["ways", "height", "many"]
theorem sc_add_column : FnScope N_add_column ["ways", "height"] (defScope s_add_column) := ⟨rfl, rfl, rfl, by decide +kernel, rfl, by decide +kernel, by decide +kernel⟩
abbrev s_take_column : Stmt := topS 16
abbrev N_take_column : List Str := ["ways", "height", "many"]
theorem sc_take_column : FnScope N_take_column ["ways", "height"] (defScope s_take_column) := ⟨rfl, rfl, rfl, by decide +kernel, rfl, by decide +kernel, by decide +kernel⟩
abbrev s_way_of : Stmt := topS 18
abbrev N_way_of : List Str := ["stairs", "many", "number", "ways"]
theorem sc_way_of : FnScope N_way_of ["stairs", "many", "number"] (defScope s_way_of) := ⟨rfl, rfl, rfl, by decide +kernel, rfl, by decide +kernel, by decide +kernel⟩
abbrev s_number_of : Stmt := topS 19
abbrev N_number_of : List Str := ["stairs", "towers", "rows", "ways", "taken", "number", "column", "height", "many", "free"]
theorem sc_number_of : FnScope N_number_of ["stairs", "towers"] (defScope s_number_of) := ⟨rfl, rfl, rfl, by decide +kernel, rfl, by decide +kernel, by decide +kernel⟩
abbrev s__choices : Stmt := topS 20
abbrev N__choices : List Str := ["stairs", "ways", "number", "left", "choices", "column", "height", "free"]
theorem sc__choices : FnScope N__choices ["stairs", "ways", "number"] (defScope s__choices) := ⟨rfl, rfl, rfl, by decide +kernel, rfl, by decide +kernel, by decide +kernel⟩
abbrev s__with_rows : Stmt := topS 21
abbrev N__with_rows : List Str := ["choices", "towers", "taken", "column", "free", "row"]
theorem sc__with_rows : FnScope N__with_rows ["choices"] (defScope s__with_rows) := ⟨rfl, rfl, rfl, by decide +kernel, rfl, by decide +kernel, by decide +kernel⟩
abbrev s__row_above : Stmt := topS 22
abbrev N__row_above : List Str := ["taken", "free", "row", "other"]
theorem sc__row_above : FnScope N__row_above ["taken", "free"] (defScope s__row_above) := ⟨rfl, rfl, rfl, by decide +kernel, rfl, by decide +kernel, by decide +kernel⟩
abbrev s__free_below : Stmt := topS 23
abbrev N__free_below : List Str := ["taken", "row", "other"]
theorem sc__free_below : FnScope N__free_below ["taken", "row"] (defScope s__free_below) := ⟨rfl, rfl, rfl, by decide +kernel, rfl, by decide +kernel, by decide +kernel⟩
abbrev s_l_cell_at : Stmt := topS 25
abbrev N_l_cell_at : List Str := ["_law_script", "_law_k"]
theorem sc_l_cell_at : FnScope N_l_cell_at ["_law_script", "_law_k"] (defScope s_l_cell_at) := ⟨rfl, rfl, rfl, by decide +kernel, rfl, by decide +kernel, by decide +kernel⟩
abbrev s_l_draw : Stmt := topS 26
abbrev N_l_draw : List Str := ["_law_cell", "_law_k", "_law_many", "_law_primes"]
theorem sc_l_draw : FnScope N_l_draw ["_law_cell", "_law_k", "_law_many"] (defScope s_l_draw) := ⟨rfl, rfl, rfl, by decide +kernel, rfl, by decide +kernel, by decide +kernel⟩
abbrev s_l_stairs : Stmt := topS 27
abbrev N_l_stairs : List Str := ["_law_script", "_law_kind", "_law_many", "_law_most", "_law_found", "_law_cell", "_law_k", "_law_height"]
theorem sc_l_stairs : FnScope N_l_stairs ["_law_script"] (defScope s_l_stairs) := ⟨rfl, rfl, rfl, by decide +kernel, rfl, by decide +kernel, by decide +kernel⟩
abbrev s_l_counts : Stmt := topS 28
abbrev N_l_counts : List Str := ["_law_stairs_here", "_law_found", "_law_column", "_law_height", "_law_many", "_law_ways"]
theorem sc_l_counts : FnScope N_l_counts ["_law_stairs_here"] (defScope s_l_counts) := ⟨rfl, rfl, rfl, by decide +kernel, rfl, by decide +kernel, by decide +kernel⟩
abbrev s_l_towers : Stmt := topS 29
abbrev N_l_towers : List Str := ["_law_stairs_here", "_law_found", "_law_columns", "_law_rows", "_law_column", "_law_row", "_law_cell"]
theorem sc_l_towers : FnScope N_l_towers ["_law_stairs_here", "_law_found"] (defScope s_l_towers) := ⟨rfl, rfl, rfl, by decide +kernel, rfl, by decide +kernel, by decide +kernel⟩
abbrev s_l_far : Stmt := topS 30
abbrev N_l_far : List Str := ["_law_script", "_law_by", "_law_most", "_law_found", "_law_k"]
theorem sc_l_far : FnScope N_l_far ["_law_script", "_law_by", "_law_most"] (defScope s_l_far) := ⟨rfl, rfl, rfl, by decide +kernel, rfl, by decide +kernel, by decide +kernel⟩
abbrev s_l_whole : Stmt := topS 31
abbrev N_l_whole : List Str := ["_law_number"]
theorem sc_l_whole : FnScope N_l_whole ["_law_number"] (defScope s_l_whole) := ⟨rfl, rfl, rfl, by decide +kernel, rfl, by decide +kernel, by decide +kernel⟩
abbrev s_l_set : Stmt := topS 32
abbrev N_l_set : List Str := ["_law_script", "_law_stairs_here", "_law_by", "_law_found", "_law_rows", "_law_column", "_law_height", "_law_row"]
theorem sc_l_set : FnScope N_l_set ["_law_script", "_law_stairs_here", "_law_by"] (defScope s_l_set) := ⟨rfl, rfl, rfl, by decide +kernel, rfl, by decide +kernel, by decide +kernel⟩
abbrev s_law : Stmt := topS 33
abbrev N_law : List Str := ["_law_script", "_law_stairs_here", "_law_whole_here", "_law_handed", "_law_top", "_law_many", "_law_number", "_law_found", "_law_kept", "_law_told", "_law_by", "_law_towers_here", "_law_asked"]
theorem sc_law : FnScope N_law ["_law_script"] (defScope s_law) := ⟨rfl, rfl, rfl, by decide +kernel, rfl, by decide +kernel, by decide +kernel⟩
end TS
namespace TS
open PySem PySem.Spec PyProof.Rows L2
structure Bl (mg : Str → Option Value) : Prop where
  len : mg "len" = none
  isinstance : mg "isinstance" = none
  sorted : mg "sorted" = none
  range : mg "range" = none
  enumerate : mg "enumerate" = none
  reversed : mg "reversed" = none
  min : mg "min" = none
  all : mg "all" = none
  list : mg "list" = none
  int : mg "int" = none
  bool : mg "bool" = none
  tuple : mg "tuple" = none
  dict : mg "dict" = none
  set : mg "set" = none
  divmod : mg "divmod" = none
end TS
namespace TS
/-! the counts of stairs as a function of the count of towers -/
def stp (f : Nat → Int) (h : Int) : Nat → Int
  | 0 => f 0
  | m + 1 => if (m : Int) < h then f (m + 1) + f m * (h - m) else f (m + 1)
theorem stp_succ (f : Nat → Int) (h : Int) (m : Nat) : stp f h (m + 1) = if (m : Int) < h then f (m + 1) + f m * (h - m) else f (m + 1) := rfl
def f0 : Nat → Int := fun k => if k = 0 then 1 else 0
def cntF (hs : List Int) : Nat → Int := hs.foldl stp f0
theorem cntF_nil : cntF [] = f0 := rfl
theorem cntF_snoc (hs : List Int) (h : Int) : cntF (hs ++ [h]) = stp (cntF hs) h := by
  unfold cntF
  rw [List.foldl_append]
  rfl
theorem cntF_take {hs : List Int} {c : Nat} {h : Int} (e : hs[c]? = some h) : cntF (hs.take (c + 1)) = stp (cntF (hs.take c)) h := by
  rw [List.take_add_one, e]
  exact cntF_snoc _ _
theorem snoc_ind {P : List Int → Prop} (h0 : P []) (h1 : ∀ xs x, P xs → P (xs ++ [x])) (xs : List Int) : P xs := by
  have h : ∀ (n : Nat) (ys : List Int), ys.length = n → P ys := by
    intro n
    induction n with
    | zero => intro ys e; rw [List.length_eq_zero_iff.mp e]; exact h0
    | succ n ih =>
      intro ys e
      have hne : ys ≠ [] := by intro z; rw [z] at e; cases e
      rw [← List.dropLast_concat_getLast hne]
      refine h1 _ _ (ih _ ?_)
      rw [List.length_dropLast, e]
      rfl
  exact h _ xs rfl
theorem cntF_gt : ∀ (hs : List Int) (k : Nat), hs.length < k → cntF hs k = 0 := by
  intro hs
  induction hs using snoc_ind with
  | h0 => intro k hk; rw [cntF_nil]; unfold f0; rw [if_neg (by rw [List.length_nil] at hk; omega)]
  | h1 xs x ih =>
    intro k hk
    rw [List.length_append, List.length_singleton] at hk
    obtain ⟨m, rfl⟩ : ∃ m, k = m + 1 := ⟨k - 1, by omega⟩
    rw [cntF_snoc]
    rw [stp_succ]
    rw [ih (m + 1) (by omega), ih m (by omega)]
    split <;> omega
theorem cntF_zero : ∀ (hs : List Int), cntF hs 0 = 1 := by
  intro hs
  induction hs using snoc_ind with
  | h0 => rfl
  | h1 xs x ih => rw [cntF_snoc]; exact ih
theorem cntF_low (j : Nat) : ∀ (hs : List Int), (∀ x ∈ hs, x ≤ (j : Int)) → cntF hs (j + 1) = 0 := by
  intro hs
  induction hs using snoc_ind with
  | h0 => intro _; rfl
  | h1 xs x ih =>
    intro h
    rw [cntF_snoc]
    rw [stp_succ]
    have hx : x ≤ (j : Int) := h x (by simp)
    rw [if_neg (by omega)]
    exact ih fun y hy => h y (by simp [hy])
theorem cntF_step {hs : List Int} {h : Int} (h0 : 0 ≤ h) (hle : ∀ x ∈ hs, x ≤ h) (m : Nat) : cntF (hs ++ [h]) (m + 1) = cntF hs (m + 1) + cntF hs m * (h - m) := by
  rw [cntF_snoc, stp_succ]
  by_cases c : (m : Int) < h
  · rw [if_pos c]
  · rw [if_neg c]
    by_cases e : (m : Int) = h
    · rw [e, Int.sub_self, Int.mul_zero, Int.add_zero]
    · obtain ⟨j, rfl⟩ : ∃ j, m = j + 1 := ⟨m - 1, by omega⟩
      have z : cntF hs (j + 1) = 0 := cntF_low j hs fun x hx => by have := hle x hx; omega
      rw [z, Int.zero_mul, Int.add_zero]
/-! sums -/
def sm (g : Nat → Int) : Nat → Int
  | 0 => 0
  | n + 1 => sm g n + g n
theorem sm_congr {g g' : Nat → Int} : ∀ {n : Nat}, (∀ k, k < n → g k = g' k) → sm g n = sm g' n
  | 0, _ => rfl
  | n + 1, h => by
    show sm g n + g n = sm g' n + g' n
    rw [sm_congr (n := n) fun k hk => h k (by omega), h n (by omega)]
theorem sm_add (g g' : Nat → Int) : ∀ n : Nat, sm (fun k => g k + g' k) n = sm g n + sm g' n
  | 0 => rfl
  | n + 1 => by
    show sm (fun k => g k + g' k) n + (g n + g' n) = (sm g n + g n) + (sm g' n + g' n)
    rw [sm_add g g' n]
    omega
theorem sm_mul (g : Nat → Int) (c : Int) : ∀ n : Nat, sm (fun k => g k * c) n = sm g n * c
  | 0 => by simp [sm]
  | n + 1 => by
    show sm (fun k => g k * c) n + g n * c = (sm g n + g n) * c
    rw [sm_mul g c n, Int.add_mul]
theorem sm_shift (g : Nat → Int) : ∀ n : Nat, sm g (n + 1) = g 0 + sm (fun k => g (k + 1)) n
  | 0 => by simp [sm]
  | n + 1 => by
    show sm g (n + 1) + g (n + 1) = g 0 + (sm (fun k => g (k + 1)) n + g (n + 1))
    rw [sm_shift g n]
    omega
theorem sm_rev (g : Nat → Int) : ∀ n : Nat, sm (fun k => g (n - 1 - k)) n = sm g n
  | 0 => rfl
  | n + 1 => by
    rw [sm_shift]
    show g (n + 1 - 1 - 0) + sm (fun k => g (n + 1 - 1 - (k + 1))) n = sm g n + g n
    rw [sm_congr (g' := fun k => g (n - 1 - k)) (n := n) (by intro k hk; show g (n + 1 - 1 - (k + 1)) = g (n - 1 - k); congr 1; omega), sm_rev g n]
    show g n + sm g n = sm g n + g n
    omega
/-! falling products, the product of the heights -/
def ff (x : Int) : Nat → Int
  | 0 => 1
  | n + 1 => ff x n * (x - n)
def prodF (hs : List Int) (more : Int) : Nat → Int
  | 0 => 1
  | n + 1 => prodF hs more n * (hs.getD n 0 + more - n)
def Rise (hs : List Int) : Prop := ∀ (i j : Nat) (x y : Int), i ≤ j → hs[i]? = some x → hs[j]? = some y → x ≤ y
def Pos0 (hs : List Int) : Prop := ∀ x ∈ hs, 0 ≤ x
theorem gjw_step {f : Nat → Int} {n : Nat} {h x : Int} {f' : Nat → Int} (hn : f (n + 1) = 0) (h0 : f' 0 = f 0) (hs : ∀ m, f' (m + 1) = f (m + 1) + f m * (h - m)) :
    sm (fun k => f' k * ff x (n + 1 - k)) (n + 2) = sm (fun k => f k * ff x (n - k)) (n + 1) * (h + x - n) := by
  rw [sm_shift, h0]
  have e1 : sm (fun k => f' (k + 1) * ff x (n + 1 - (k + 1))) (n + 1) = sm (fun k => f (k + 1) * ff x (n + 1 - (k + 1))) (n + 1) + sm (fun k => f k * (h - k) * ff x (n - k)) (n + 1) := by
    rw [← sm_add]
    refine sm_congr fun k hk => ?_
    show f' (k + 1) * ff x (n + 1 - (k + 1)) = f (k + 1) * ff x (n + 1 - (k + 1)) + f k * (h - k) * ff x (n - k)
    rw [hs, Nat.add_sub_add_right]
    grind
  have e2 : f 0 * ff x (n + 1 - 0) + sm (fun k => f (k + 1) * ff x (n + 1 - (k + 1))) (n + 1) = sm (fun k => f k * ff x (n + 1 - k)) (n + 1) := by
    have e := sm_shift (fun k => f k * ff x (n + 1 - k)) (n + 1)
    rw [← e]
    show sm (fun k => f k * ff x (n + 1 - k)) (n + 1) + f (n + 1) * _ = _
    rw [hn, Int.zero_mul, Int.add_zero]
  rw [e1, ← Int.add_assoc, e2, ← sm_add, ← sm_mul]
  refine sm_congr fun k hk => ?_
  show f k * ff x (n + 1 - k) + f k * (h - k) * ff x (n - k) = f k * ff x (n - k) * (h + x - n)
  obtain ⟨d, rfl⟩ : ∃ d, n = k + d := ⟨n - k, by omega⟩
  rw [show k + d + 1 - k = d + 1 by omega, show k + d - k = d by omega]
  show f k * (ff x d * (x - d)) + f k * (h - k) * ff x d = f k * ff x d * (h + x - ((k + d : Nat) : Int))
  rw [Int.natCast_add]
  grind
theorem prodF_snoc {hs : List Int} {h more : Int} : ∀ n : Nat, n ≤ hs.length → prodF (hs ++ [h]) more n = prodF hs more n
  | 0, _ => rfl
  | n + 1, hn => by
    show prodF (hs ++ [h]) more n * _ = prodF hs more n * _
    rw [prodF_snoc n (by omega)]
    have e : (hs ++ [h]).getD n 0 = hs.getD n 0 := by
      rw [List.getD_eq_getElem?_getD, List.getD_eq_getElem?_getD, List.getElem?_append_left (by omega)]
    rw [e]
theorem Rise.front {hs : List Int} {h : Int} (r : Rise (hs ++ [h])) : Rise hs := by
  intro i j x y hij hx hy
  have h1 : i < hs.length := (List.getElem?_eq_some_iff.mp hx).1
  have h2 : j < hs.length := (List.getElem?_eq_some_iff.mp hy).1
  exact r i j x y hij (by rw [List.getElem?_append_left h1]; exact hx) (by rw [List.getElem?_append_left h2]; exact hy)
theorem Rise.last {hs : List Int} {h : Int} (r : Rise (hs ++ [h])) : ∀ x ∈ hs, x ≤ h := by
  intro x hx
  obtain ⟨i, hi, e⟩ := List.getElem_of_mem hx
  refine r i hs.length x h (by omega) ?_ ?_
  · rw [List.getElem?_append_left hi, List.getElem?_eq_getElem hi, e]
  · simp
theorem gjw : ∀ (hs : List Int), Rise hs → Pos0 hs → ∀ x : Int, sm (fun k => cntF hs k * ff x (hs.length - k)) (hs.length + 1) = prodF hs x hs.length := by
  intro hs
  induction hs using snoc_ind with
  | h0 => intro _ _ x; simp [sm, prodF, ff, cntF_zero]
  | h1 xs h ih =>
    intro r p x
    have hp : 0 ≤ h := p h (by simp)
    have e := ih r.front (fun y hy => p y (by simp [hy])) x
    rw [List.length_append, List.length_singleton]
    rw [gjw_step (f := cntF xs) (n := xs.length) (h := h) (x := x) (cntF_gt xs _ (by omega)) (by rw [cntF_snoc]; rfl) (cntF_step hp r.last), e]
    show _ = prodF (xs ++ [h]) x xs.length * ((xs ++ [h]).getD xs.length 0 + x - xs.length)
    rw [prodF_snoc _ (Nat.le_refl _)]
    have eg : (xs ++ [h]).getD xs.length 0 = h := by simp
    rw [eg]
theorem gjw_rev {hs : List Int} (r : Rise hs) (p : Pos0 hs) (x : Int) : sm (fun left => cntF hs (hs.length - left) * ff x left) (hs.length + 1) = prodF hs x hs.length := by
  rw [← gjw hs r p x, ← sm_rev (fun k => cntF hs k * ff x (hs.length - k)) (hs.length + 1)]
  refine sm_congr fun k hk => ?_
  show cntF hs (hs.length - k) * ff x k = cntF hs (hs.length + 1 - 1 - k) * ff x (hs.length - (hs.length + 1 - 1 - k))
  rw [show hs.length + 1 - 1 - k = hs.length - k by omega, show hs.length - (hs.length - k) = k by omega]
end TS
namespace TS
/-! lists as tables of functions -/
def tab (f : Nat → Int) (n : Nat) : List Int := (List.range n).map f
theorem tab_len (f : Nat → Int) (n : Nat) : (tab f n).length = n := by unfold tab; simp
theorem tab_get {f : Nat → Int} {n k : Nat} (h : k < n) : (tab f n)[k]? = some (f k) := by
  unfold tab
  rw [List.getElem?_map, List.getElem?_range h]
  rfl
theorem tab_congr {f g : Nat → Int} {n : Nat} (h : ∀ k, k < n → f k = g k) : tab f n = tab g n := by
  unfold tab
  exact List.map_congr_left fun k hk => h k (List.mem_range.mp hk)
theorem tab_set (f : Nat → Int) (n j : Nat) (v : Int) : (tab f n).set j v = tab (fun k => if k = j then v else f k) n := by
  apply List.ext_getElem?
  intro k
  rw [List.getElem?_set, tab_len]
  by_cases hk : k < n
  · rw [tab_get hk, tab_get hk]
    by_cases e : j = k
    · subst e
      rw [if_pos rfl, if_pos hk, if_pos rfl]
    · rw [if_neg e, if_neg (fun z => e z.symm)]
  · have h1 : (tab f n)[k]? = none := List.getElem?_eq_none (by rw [tab_len]; omega)
    have h2 : (tab (fun k => if k = j then v else f k) n)[k]? = none := List.getElem?_eq_none (by rw [tab_len]; omega)
    rw [h1, h2]
    by_cases e : j = k
    · subst e
      rw [if_pos rfl, if_neg hk]
    · rw [if_neg e]
theorem tab_succ (f : Nat → Int) (n : Nat) : tab f (n + 1) = f 0 :: tab (fun k => f (k + 1)) n := by
  unfold tab
  rw [List.range_succ_eq_map, List.map_cons, List.map_map]
  rfl
theorem tab_const (c : Int) : ∀ n : Nat, tab (fun _ => c) n = List.replicate n c
  | 0 => rfl
  | n + 1 => by rw [tab_succ, tab_const c n]; rfl
theorem tab_f0 (n : Nat) : tab f0 (n + 1) = 1 :: List.replicate n 0 := by
  rw [tab_succ, ← tab_const]
  rfl
/-! the counts' sizes -/
theorem cnt_rng {M : Int} (hM : 1 ≤ M) : ∀ (hs : List Int), (∀ x ∈ hs, 0 ≤ x ∧ x + 1 ≤ M) → ∀ k, 0 ≤ cntF hs k ∧ cntF hs k ≤ M ^ hs.length := by
  intro hs
  induction hs using snoc_ind with
  | h0 =>
    intro _ k
    rw [cntF_nil]
    unfold f0
    split <;> simp
  | h1 xs x ih =>
    intro h k
    have hx := h x (by simp)
    have ih' := ih fun y hy => h y (by simp [hy])
    have hp : 0 ≤ M ^ xs.length := Int.pow_nonneg (by omega)
    rw [cntF_snoc, List.length_append, List.length_singleton, Int.pow_succ]
    have grow : M ^ xs.length ≤ M ^ xs.length * M := by
      have := Int.mul_le_mul_of_nonneg_left hM hp
      rw [Int.mul_one] at this
      exact this
    cases k with
    | zero =>
      have a := ih' 0
      exact ⟨a.1, Int.le_trans a.2 grow⟩
    | succ m =>
      rw [stp_succ]
      have a := ih' (m + 1)
      have b := ih' m
      by_cases c : (m : Int) < x
      · rw [if_pos c]
        have d : 0 ≤ cntF xs m * (x - m) := Int.mul_nonneg b.1 (by omega)
        have e : cntF xs m * (x - m) ≤ M ^ xs.length * (M - 1) := Int.mul_le_mul b.2 (by omega) (by omega) hp
        have e2 : M ^ xs.length * (M - 1) = M ^ xs.length * M - M ^ xs.length := by rw [Int.mul_sub, Int.mul_one]
        omega
      · rw [if_neg c]
        exact ⟨a.1, Int.le_trans a.2 grow⟩
/-- low enough: heights and such -/
def Lo (x : Int) : Prop := x.natAbs < 2 ^ 208
theorem abs_pow {x : Int} {a n : Nat} (h0 : 0 ≤ x) (h : x ≤ ((2 : Int) ^ a) ^ n) : x.natAbs < 2 ^ (a * n + 1) := by
  have e : ((2 : Int) ^ a) ^ n = ((2 ^ (a * n) : Nat) : Int) := by
    rw [← Int.pow_mul, Int.natCast_pow]
    rfl
  rw [e] at h
  have : x.natAbs ≤ 2 ^ (a * n) := by omega
  have h2 : 2 ^ (a * n) < 2 ^ (a * n + 1) := Nat.pow_lt_pow_right (by decide) (by omega)
  omega
theorem cnt_abs {hs : List Int} (h : ∀ x ∈ hs, 0 ≤ x ∧ x + 1 ≤ 2 ^ 208) (k : Nat) : (cntF hs k).natAbs < 2 ^ (208 * hs.length + 1) := by
  have q := cnt_rng (M := 2 ^ 208) (by decide) hs h k
  exact abs_pow q.1 q.2
theorem pow_up {x : Int} {a b : Nat} (h : x.natAbs < 2 ^ a) (hab : a ≤ b) : x.natAbs < 2 ^ b := Nat.lt_of_lt_of_le h (Nat.pow_le_pow_right (by decide) hab)
/-! a column put in, in the middle of its loop -/
def mid (f : Nat → Int) (h : Int) (t i : Nat) : Nat → Int := fun k => if t - i < k then stp f h k else f k
theorem stp_high {f : Nat → Int} {h : Int} {k : Nat} (hk : h < (k : Int)) (h0 : 0 < k) : stp f h k = f k := by
  obtain ⟨m, rfl⟩ : ∃ m, k = m + 1 := ⟨k - 1, by omega⟩
  rw [stp_succ, if_neg (by omega)]
theorem mid_start {f : Nat → Int} {h : Int} {n t : Nat} (ht : (t : Int) = h ∨ n ≤ t) : tab (mid f h t 0) (n + 1) = tab f (n + 1) := by
  refine tab_congr fun k hk => ?_
  unfold mid
  by_cases c : t - 0 < k
  · rw [if_pos c]
    rcases ht with e | e
    · exact stp_high (by omega) (by omega)
    · omega
  · rw [if_neg c]
theorem mid_end {f : Nat → Int} {h : Int} {n t : Nat} : tab (mid f h t t) (n + 1) = tab (stp f h) (n + 1) := by
  refine tab_congr fun k hk => ?_
  unfold mid
  rw [Nat.sub_self]
  cases k with
  | zero => rfl
  | succ m => rw [if_pos (by omega)]
theorem mid_turn {f : Nat → Int} {h : Int} {n t i m : Nat} (ht : (t : Int) ≤ h) (hi : i < t) (hm : m + 1 = t - i) :
    (tab (mid f h t i) (n + 1)).set (m + 1) (f (m + 1) + f m * (h - m)) = tab (mid f h t (i + 1)) (n + 1) := by
  rw [tab_set]
  refine tab_congr fun k hk => ?_
  show (if k = m + 1 then _ else mid f h t i k) = mid f h t (i + 1) k
  unfold mid
  by_cases e : k = m + 1
  · rw [if_pos e, if_pos (by omega), e, stp_succ, if_pos (by omega)]
  · rw [if_neg e]
    by_cases c : t - i < k
    · rw [if_pos c, if_pos (by omega)]
    · rw [if_neg c, if_neg (by omega)]
theorem mid_at {f : Nat → Int} {h : Int} {t i k : Nat} (hk : k ≤ t - i) : mid f h t i k = f k := by
  unfold mid
  rw [if_neg (by omega)]
end TS
namespace TS
/-! the law's own loop over all counts -/
theorem mid_start2 {f : Nat → Int} {h : Int} {n t : Nat} (hz : ∀ k, t ≤ k → f k = 0) : tab (mid f h t 0) (n + 1) = tab f (n + 1) := by
  refine tab_congr fun k hk => ?_
  unfold mid
  by_cases c : t - 0 < k
  · rw [if_pos c]
    obtain ⟨m, rfl⟩ : ∃ m, k = m + 1 := ⟨k - 1, by omega⟩
    rw [stp_succ, hz m (by omega), hz (m + 1) (by omega)]
    split <;> omega
  · rw [if_neg c]
theorem mid_set {f : Nat → Int} {h : Int} {n t i m : Nat} (hi : i < t) (hm : m + 1 = t - i) (c : (m : Int) < h) :
    (tab (mid f h t i) (n + 1)).set (m + 1) (f (m + 1) + f m * (h - m)) = tab (mid f h t (i + 1)) (n + 1) := by
  rw [tab_set]
  refine tab_congr fun k hk => ?_
  show (if k = m + 1 then _ else mid f h t i k) = mid f h t (i + 1) k
  unfold mid
  by_cases e : k = m + 1
  · rw [if_pos e, if_pos (by omega), e, stp_succ, if_pos c]
  · rw [if_neg e]
    by_cases c : t - i < k
    · rw [if_pos c, if_pos (by omega)]
    · rw [if_neg c, if_neg (by omega)]
theorem mid_skip {f : Nat → Int} {h : Int} {n t i m : Nat} (hi : i < t) (hm : m + 1 = t - i) (c : ¬ (m : Int) < h) :
    tab (mid f h t i) (n + 1) = tab (mid f h t (i + 1)) (n + 1) := by
  refine tab_congr fun k hk => ?_
  unfold mid
  by_cases e : k = m + 1
  · rw [if_neg (by omega), if_pos (by omega), e, stp_succ, if_neg c]
  · by_cases c : t - i < k
    · rw [if_pos c, if_pos (by omega)]
    · rw [if_neg c, if_neg (by omega)]
/-! the product's size -/
theorem prod_abs {hs : List Int} {x : Int} (h : ∀ y ∈ hs, 0 ≤ y ∧ y + 1 ≤ 2 ^ 208) (hl : hs.length ≤ 100) (h0 : 0 ≤ x) (hx : x + 1 ≤ 2 ^ 208) : ∀ n : Nat, n ≤ hs.length → (prodF hs x n).natAbs < 2 ^ (210 * n + 1)
  | 0, _ => by show (1 : Int).natAbs < 2 ^ (210 * 0 + 1); decide
  | n + 1, hn => by
    show (prodF hs x n * (hs.getD n 0 + x - n)).natAbs < 2 ^ (210 * (n + 1) + 1)
    have ih := prod_abs h hl h0 hx n (by omega)
    have e : hs.getD n 0 ∈ hs := by
      rw [List.getD_eq_getElem?_getD, List.getElem?_eq_getElem (by omega)]
      exact List.getElem_mem _
    have b := h _ e
    have hc : (hs.getD n 0 + x - n).natAbs < 2 ^ 210 := by
      have h2 : (2 : Int) ^ 208 = ((2 ^ 208 : Nat) : Int) := rfl
      have h3 : (2 : Nat) ^ 210 = 2 ^ 208 * 4 := rfl
      have h4 : 1000 ≤ (2 : Nat) ^ 208 := by decide
      omega
    rw [Int.natAbs_mul, show 210 * (n + 1) + 1 = (210 * n + 1) + 210 by omega, Nat.pow_add]
    exact Nat.mul_lt_mul'' ih hc
end TS
namespace TS
theorem rise_of_pw {hs : List Int} (h : hs.Pairwise (· ≤ ·)) : Rise hs := by
  intro i j x y hij hx hy
  obtain ⟨h1, e1⟩ := List.getElem?_eq_some_iff.mp hx
  obtain ⟨h2, e2⟩ := List.getElem?_eq_some_iff.mp hy
  by_cases e : i = j
  · subst e
    rw [e1] at e2
    omega
  · have q := List.pairwise_iff_getElem.mp h i j h1 h2 (by omega)
    rw [e1, e2] at q
    exact q
/-- each height more by its place -/
def lift (hs : List Int) (n : Nat) : List Int := tab (fun k => hs.getD k 0 + k) n
theorem lift_rise {hs : List Int} (h : Rise hs) : Rise (lift hs hs.length) := by
  intro i j x y hij hx hy
  have h2 : j < hs.length := by
    have := (List.getElem?_eq_some_iff.mp hy).1
    unfold lift at this
    rw [tab_len] at this
    exact this
  unfold lift at hx hy
  rw [tab_get (by omega)] at hx hy
  have e1 := Option.some.inj hx
  have e2 := Option.some.inj hy
  have q := h i j _ _ hij (List.getElem?_eq_getElem (show i < hs.length by omega)) (List.getElem?_eq_getElem h2)
  simp only [List.getD_eq_getElem?_getD, List.getElem?_eq_getElem h2, List.getElem?_eq_getElem (show i < hs.length by omega), Option.getD_some] at e1 e2
  omega
theorem lift_mem {hs : List Int} {m : Int} (h : ∀ x ∈ hs, 0 ≤ x ∧ x < m) : ∀ x ∈ lift hs hs.length, 0 ≤ x ∧ x < m + hs.length := by
  intro x hx
  unfold lift tab at hx
  obtain ⟨k, hk, rfl⟩ := List.mem_map.mp hx
  have hk' := List.mem_range.mp hk
  have q := h hs[k] (List.getElem_mem hk')
  rw [List.getD_eq_getElem?_getD, List.getElem?_eq_getElem hk']
  show 0 ≤ hs[k] + (k : Int) ∧ hs[k] + (k : Int) < m + hs.length
  omega
theorem lift_succ {hs : List Int} {i : Nat} {h : Int} (e : hs[i]? = some h) : lift hs (i + 1) = lift hs i ++ [h + i] := by
  unfold lift tab
  rw [List.range_succ, List.map_append, List.map_singleton, List.getD_eq_getElem?_getD, e]
  rfl
/-- what the drawn stairs are -/
structure GoodS (n : Nat) (hs : List Int) : Prop where
  rise : Rise hs
  pos : Pos0 hs
  low : ∀ x ∈ hs, x < 10 ^ 59
  len : hs.length = min 63 n
theorem goodS_mod {n : Nat} {ms hs : List Int} (hp : hs.Perm (ms.map fun x => x / 5 % 10 ^ 59)) (hw : hs.Pairwise (· ≤ ·)) (hl : ms.length = min 63 n) : GoodS n hs := by
  have mem : ∀ x ∈ hs, 0 ≤ x ∧ x < 10 ^ 59 := fun x hx => by
    obtain ⟨y, _, rfl⟩ := List.mem_map.mp (hp.mem_iff.mp hx)
    exact ⟨Int.emod_nonneg _ (by decide), Int.emod_lt_of_pos _ (by decide)⟩
  exact ⟨rise_of_pw hw, fun x hx => (mem x hx).1, fun x hx => (mem x hx).2, by rw [hp.length_eq, List.length_map, hl]⟩
theorem goodS_draw {n : Nat} {m : Int} {ds hs : List Int} (hp : hs.Perm ds) (hw : hs.Pairwise (· ≤ ·)) (hm : m ≤ 300) (hd : ∀ x ∈ ds, 0 ≤ x ∧ x < m) (hl : ds.length = min 63 n) : GoodS n hs ∧ GoodS n (lift hs hs.length) := by
  have mem : ∀ x ∈ hs, 0 ≤ x ∧ x < m := fun x hx => hd x (hp.mem_iff.mp hx)
  have big : (1000 : Int) < 10 ^ 59 := by decide
  have len : hs.length = min 63 n := by rw [hp.length_eq, hl]
  refine ⟨⟨rise_of_pw hw, fun x hx => (mem x hx).1, fun x hx => ?_, len⟩, ⟨lift_rise (rise_of_pw hw), fun x hx => (lift_mem mem x hx).1, fun x hx => ?_, ?_⟩⟩
  · have := (mem x hx).2
    omega
  · have := (lift_mem mem x hx).2
    omega
  · unfold lift
    rw [tab_len, len]
/-- the menu of the greatest height -/
theorem most_menu {n k : Int} (h0 : 0 ≤ k) (h1 : k < 5) (hn : 0 ≤ n) (hn2 : n ≤ 63) : ∃ m : Int, 0 < m ∧ m ≤ 300 ∧ [(1 : Int), n + 3, 4, 3 * n + 2, n / 2 + 2][k.toNat]? = some m := by
  have e : k = 0 ∨ k = 1 ∨ k = 2 ∨ k = 3 ∨ k = 4 := by omega
  rcases e with rfl | rfl | rfl | rfl | rfl
  · exact ⟨_, by decide, by decide, rfl⟩
  · exact ⟨n + 3, by omega, by omega, rfl⟩
  · exact ⟨4, by decide, by decide, rfl⟩
  · exact ⟨3 * n + 2, by omega, by omega, rfl⟩
  · exact ⟨n / 2 + 2, by omega, by omega, rfl⟩
end TS
namespace TS
/-! rows free and taken -/
def rowAbove : List Int → Int → Int
  | [], x => x
  | t :: ts, x => if t ≤ x then rowAbove ts (x + 1) else rowAbove ts x
def less (T : List Int) (r : Int) : Int := ((T.filter fun t => decide (t < r)).length : Int)
theorem less_nil (r : Int) : less [] r = 0 := rfl
theorem less_cons (t : Int) (T : List Int) (r : Int) : less (t :: T) r = (if t < r then 1 else 0) + less T r := by
  unfold less
  rw [List.filter_cons]
  by_cases h : t < r
  · rw [if_pos (decide_eq_true h), if_pos h, List.length_cons]
    omega
  · rw [if_neg (fun z => h (of_decide_eq_true z)), if_neg h]
    omega
theorem less_nonneg (T : List Int) (r : Int) : 0 ≤ less T r := by unfold less; omega
theorem less_perm {T U : List Int} (p : T.Perm U) (r : Int) : less T r = less U r := by
  unfold less
  rw [(p.filter _).length_eq]
theorem less_none {T : List Int} {r : Int} (h : ∀ t ∈ T, ¬ t < r) : less T r = 0 := by
  induction T with
  | nil => rfl
  | cons t T ih =>
    rw [less_cons, if_neg (h t (by simp)), ih fun u hu => h u (by simp [hu])]
    rfl
theorem above_stuck {T : List Int} {x : Int} (h : ∀ t ∈ T, x < t) : rowAbove T x = x := by
  induction T with
  | nil => rfl
  | cons t T ih =>
    unfold rowAbove
    rw [if_neg (by have := h t (by simp); omega), ih fun u hu => h u (by simp [hu])]
theorem above_facts : ∀ (T : List Int), T.Pairwise (· < ·) → ∀ x : Int, x ≤ rowAbove T x ∧ rowAbove T x - less T (rowAbove T x) = x ∧ rowAbove T x ∉ T ∧ rowAbove T x ≤ x + T.length
  | [], _, x => ⟨Int.le_refl _, by show x - less [] x = x; rw [less_nil]; omega, by simp, by simp [rowAbove]⟩
  | t :: T, h, x => by
    obtain ⟨h1, h2⟩ := List.pairwise_cons.mp h
    by_cases c : t ≤ x
    · have e : rowAbove (t :: T) x = rowAbove T (x + 1) := by
        show (if t ≤ x then rowAbove T (x + 1) else rowAbove T x) = _
        rw [if_pos c]
      obtain ⟨a, b, d, f⟩ := above_facts T h2 (x + 1)
      rw [e, less_cons, if_pos (by omega), List.length_cons]
      refine ⟨by omega, by omega, fun m => ?_, by omega⟩
      rcases List.mem_cons.mp m with m | m
      · omega
      · exact d m
    · have up : ∀ u ∈ t :: T, x < u := fun u hu => by
        rcases List.mem_cons.mp hu with rfl | hu
        · omega
        · have := h1 u hu; omega
      rw [above_stuck up]
      refine ⟨Int.le_refl _, ?_, fun m => ?_, by omega⟩
      · rw [less_none fun u hu => by have := up u hu; omega]
        omega
      · have := up x m
        omega
theorem less_gap : ∀ (T : List Int), T.Pairwise (· < ·) → ∀ t r : Int, (∀ u ∈ T, t < u) → t < r → less T r ≤ r - t - 1
  | [], _, t, r, _, hr => by rw [less_nil]; omega
  | u :: T, h, t, r, ht, hr => by
    obtain ⟨h1, h2⟩ := List.pairwise_cons.mp h
    rw [less_cons]
    have hu := ht u (by simp)
    by_cases c : u < r
    · rw [if_pos c]
      have := less_gap T h2 u r h1 c
      omega
    · rw [if_neg c, less_none fun v hv => by have := h1 v hv; omega]
      omega
theorem above_back : ∀ (T : List Int), T.Pairwise (· < ·) → ∀ r : Int, r ∉ T → rowAbove T (r - less T r) = r
  | [], _, r, _ => by rw [less_nil]; show r - 0 = r; omega
  | t :: T, h, r, hr => by
    obtain ⟨h1, h2⟩ := List.pairwise_cons.mp h
    have ne : r ≠ t := fun e => hr (by simp [e])
    have nm : r ∉ T := fun m => hr (by simp [m])
    by_cases c : t < r
    · have g := less_gap T h2 t r h1 c
      rw [less_cons, if_pos c]
      have e : rowAbove (t :: T) (r - (1 + less T r)) = rowAbove T (r - (1 + less T r) + 1) := by
        show (if t ≤ r - (1 + less T r) then _ else _) = _
        rw [if_pos (by omega)]
      rw [e, show r - (1 + less T r) + 1 = r - less T r by omega]
      exact above_back T h2 r nm
    · rw [less_cons, if_neg c, less_none fun u hu => by have := h1 u hu; omega]
      rw [show r - (0 + 0) = r by omega]
      refine above_stuck fun u hu => ?_
      rcases List.mem_cons.mp hu with rfl | hu
      · omega
      · have := h1 u hu; omega
theorem less_lt : ∀ (T : List Int), T.Pairwise (· < ·) → ∀ r : Int, 0 ≤ r → (∀ u ∈ T, 0 ≤ u) → less T r ≤ r
  | [], _, r, h0, _ => by rw [less_nil]; exact h0
  | t :: T, h, r, h0, hp => by
    obtain ⟨h1, h2⟩ := List.pairwise_cons.mp h
    rw [less_cons]
    by_cases c : t < r
    · have g := less_gap T h2 t r h1 c
      have := hp t (by simp)
      rw [if_pos c]
      omega
    · rw [if_neg c, less_none fun u hu => by have := h1 u hu; omega]
      omega
/-- of rows below h, how many above r -/
theorem less_up : ∀ (T : List Int), T.Pairwise (· < ·) → ∀ r h : Int, r < h → r ∉ T → (∀ u ∈ T, u < h) → (T.length : Int) - less T r ≤ h - r - 1
  | [], _, r, h, hr, _, _ => by rw [less_nil]; simp; omega
  | t :: T, w, r, h, hr, hn, hu => by
    obtain ⟨h1, h2⟩ := List.pairwise_cons.mp w
    rw [less_cons, List.length_cons]
    have ne : r ≠ t := fun e => hn (by simp [e])
    by_cases c : t < r
    · rw [if_pos c]
      have := less_up T h2 r h hr (fun m => hn (by simp [m])) fun u hu' => hu u (by simp [hu'])
      omega
    · rw [if_neg c, less_none fun u hu' => by have := h1 u hu'; omega]
      -- all above r, at most h - r - 1 of them
      have len : ∀ (U : List Int), U.Pairwise (· < ·) → ∀ a : Int, (∀ u ∈ U, a < u) → (∀ u ∈ U, u < h) → a < h → (U.length : Int) ≤ h - a - 1 := by
        intro U
        induction U with
        | nil => intro _ a _ _ ha; simp; omega
        | cons u U ih =>
          intro w a ha hb hah
          obtain ⟨w1, w2⟩ := List.pairwise_cons.mp w
          have := ih w2 u w1 (fun v hv => hb v (by simp [hv])) (hb u (by simp))
          have := ha u (by simp)
          rw [List.length_cons]
          omega
      have all : ∀ u ∈ t :: T, r < u := fun u hu' => by
        rcases List.mem_cons.mp hu' with rfl | hu'
        · omega
        · have := h1 u hu'; omega
      have := len (t :: T) w r all hu hr
      rw [List.length_cons] at this
      omega
end TS
namespace TS
/-! two sorted lists of the same numbers are one -/
theorem sorted_same : ∀ {a b : List Int}, a.Perm b → a.Pairwise (· ≤ ·) → b.Pairwise (· ≤ ·) → a = b
  | [], b, p, _, _ => (List.nil_perm.mp p).symm
  | x :: a, [], p, _, _ => by have := p.length_eq; simp at this
  | x :: a, y :: b, p, ha, hb => by
    obtain ⟨ha1, ha2⟩ := List.pairwise_cons.mp ha
    obtain ⟨hb1, hb2⟩ := List.pairwise_cons.mp hb
    have hxy : x = y := by
      have m1 : x ∈ y :: b := p.mem_iff.mp (by simp)
      have m2 : y ∈ x :: a := p.mem_iff.mpr (by simp)
      rcases List.mem_cons.mp m1 with e | m1
      · exact e
      · rcases List.mem_cons.mp m2 with e | m2
        · exact e.symm
        · have h1 := ha1 y m2
          have h2 := hb1 x m1
          omega
    subst hxy
    rw [sorted_same (List.Perm.cons_inv p) ha2 hb2]
def ins (x : Int) : List Int → List Int
  | [] => [x]
  | y :: l => if x ≤ y then x :: y :: l else y :: ins x l
def srt : List Int → List Int
  | [] => []
  | x :: l => ins x (srt l)
theorem ins_perm (x : Int) : ∀ l : List Int, (ins x l).Perm (x :: l)
  | [] => List.Perm.refl _
  | y :: l => by
    unfold ins
    split
    · exact List.Perm.refl _
    · exact ((ins_perm x l).cons y).trans (List.Perm.swap x y l)
theorem ins_pw (x : Int) : ∀ l : List Int, l.Pairwise (· ≤ ·) → (ins x l).Pairwise (· ≤ ·)
  | [], _ => by simp [ins]
  | y :: l, h => by
    obtain ⟨h1, h2⟩ := List.pairwise_cons.mp h
    unfold ins
    split
    · next c =>
      refine List.pairwise_cons.mpr ⟨fun z hz => ?_, h⟩
      rcases List.mem_cons.mp hz with rfl | hz
      · exact c
      · have := h1 z hz; omega
    · next c =>
      refine List.pairwise_cons.mpr ⟨fun z hz => ?_, ins_pw x l h2⟩
      rcases List.mem_cons.mp ((ins_perm x l).mem_iff.mp hz) with rfl | hz
      · omega
      · exact h1 z hz
theorem srt_perm : ∀ l : List Int, (srt l).Perm l
  | [] => List.Perm.refl _
  | x :: l => (ins_perm x (srt l)).trans ((srt_perm l).cons x)
theorem srt_pw : ∀ l : List Int, (srt l).Pairwise (· ≤ ·)
  | [] => List.Pairwise.nil
  | x :: l => ins_pw x _ (srt_pw l)
theorem srt_of {l m : List Int} (p : m.Perm l) (h : m.Pairwise (· ≤ ·)) : m = srt l := sorted_same (p.trans (srt_perm l).symm) h (srt_pw l)
theorem srt_congr {l m : List Int} (p : m.Perm l) : srt m = srt l := srt_of ((srt_perm m).trans p) (srt_pw m)
theorem strict_of {l : List Int} (h : l.Pairwise (· ≤ ·)) (n : l.Nodup) : l.Pairwise (· < ·) := by
  induction l with
  | nil => exact List.Pairwise.nil
  | cons x l ih =>
    obtain ⟨h1, h2⟩ := List.pairwise_cons.mp h
    obtain ⟨n1, n2⟩ := List.nodup_cons.mp n
    refine List.pairwise_cons.mpr ⟨fun y hy => ?_, ih h2 n2⟩
    have := h1 y hy
    have ne : x ≠ y := fun e => n1 (e ▸ hy)
    omega
theorem srt_strict {l : List Int} (n : l.Nodup) : (srt l).Pairwise (· < ·) := strict_of (srt_pw l) ((srt_perm l).nodup_iff.mpr n)
/-! heights and counts of the first columns -/
abbrev ht (hs : List Int) (i : Nat) : Int := hs.getD i 0
theorem ht_at {hs : List Int} {i : Nat} (h : i < hs.length) : hs[i]? = some (ht hs i) := by
  show hs[i]? = some (hs.getD i 0)
  rw [List.getD_eq_getElem?_getD, List.getElem?_eq_getElem h]
  rfl
theorem ht_nonneg {hs : List Int} (p : Pos0 hs) (i : Nat) : 0 ≤ ht hs i := by
  by_cases h : i < hs.length
  · exact p _ (List.mem_of_getElem? (ht_at h))
  · show 0 ≤ hs.getD i 0
    rw [List.getD_eq_getElem?_getD, List.getElem?_eq_none (by omega)]
    exact Int.le_refl _
abbrev cn (hs : List Int) (i k : Nat) : Int := cntF (hs.take i) k
theorem cn_succ {hs : List Int} {i : Nat} (h : i < hs.length) (m : Nat) : cn hs (i + 1) (m + 1) = if (m : Int) < ht hs i then cn hs i (m + 1) + cn hs i m * (ht hs i - m) else cn hs i (m + 1) := by
  show cntF (hs.take (i + 1)) (m + 1) = _
  rw [cntF_take (ht_at h)]
  rfl
theorem cn_zero (hs : List Int) (i : Nat) : cn hs i 0 = 1 := cntF_zero _
theorem cn_gt {hs : List Int} {i k : Nat} (h : i < k) : cn hs i k = 0 := cntF_gt _ _ (by rw [List.length_take]; omega)
theorem cn_nonneg {hs : List Int} (p : Pos0 hs) : ∀ i, i ≤ hs.length → ∀ k, 0 ≤ cn hs i k
  | 0, _, k => by
    show 0 ≤ cntF (hs.take 0) k
    rw [List.take_zero, cntF_nil]
    unfold f0
    split <;> decide
  | i + 1, h, 0 => by rw [cn_zero]; decide
  | i + 1, h, m + 1 => by
    rw [cn_succ (by omega)]
    have a := cn_nonneg p i (by omega) (m + 1)
    have b := cn_nonneg p i (by omega) m
    split
    · next c =>
      have := Int.mul_nonneg b (show 0 ≤ ht hs i - m by omega)
      omega
    · exact a
theorem cn_mono {hs : List Int} (p : Pos0 hs) {i : Nat} (h : i < hs.length) (k : Nat) : cn hs i k ≤ cn hs (i + 1) k := by
  cases k with
  | zero => rw [cn_zero, cn_zero]; exact Int.le_refl _
  | succ m =>
    rw [cn_succ h]
    split
    · next c =>
      have := Int.mul_nonneg (cn_nonneg p i (by omega) m) (show 0 ≤ ht hs i - m by omega)
      omega
    · exact Int.le_refl _
/-! a number, taken apart by free rows (the last column first) -/
inductive Enc (hs : List Int) : Nat → List (Nat × Int) → Int → Prop
  | zero : Enc hs 0 [] 0
  | skip {i : Nat} {ds : List (Nat × Int)} {num : Int} : Enc hs i ds num → Enc hs (i + 1) ds num
  | put {i : Nat} {ds : List (Nat × Int)} {num f : Int} : Enc hs i ds num → 0 ≤ f → f < ht hs i - ds.length → Enc hs (i + 1) ((i, f) :: ds) (cn hs i (ds.length + 1) + num * (ht hs i - ds.length) + f)
theorem Enc.rng {hs : List Int} (p : Pos0 hs) {i : Nat} {ds : List (Nat × Int)} {num : Int} (e : Enc hs i ds num) : i ≤ hs.length → 0 ≤ num ∧ num < cn hs i ds.length := by
  induction e with
  | zero => intro _; exact ⟨Int.le_refl _, by rw [List.length_nil, cn_zero]; decide⟩
  | skip e ih =>
    intro h
    have q := ih (by omega)
    exact ⟨q.1, Int.lt_of_lt_of_le q.2 (cn_mono p (by omega) _)⟩
  | @put i ds num f e f0 f1 ih =>
    intro h
    have q := ih (by omega)
    have hm : 0 < ht hs i - ds.length := by omega
    have w := cn_nonneg p i (by omega) (ds.length + 1)
    have a := Int.mul_nonneg q.1 (Int.le_of_lt hm)
    refine ⟨by omega, ?_⟩
    rw [List.length_cons, cn_succ (by omega), if_pos (by omega)]
    have b : num * (ht hs i - ds.length) ≤ (cn hs i ds.length - 1) * (ht hs i - ds.length) := Int.mul_le_mul_of_nonneg_right (by omega) (Int.le_of_lt hm)
    rw [Int.sub_mul, Int.one_mul] at b
    omega
def ch (hs : List Int) : Nat → Nat → Int → List (Nat × Int)
  | 0, _, _ => []
  | i + 1, k, num => if cn hs i k ≤ num then (i, (num - cn hs i k) % (ht hs i - k + 1)) :: ch hs i (k - 1) ((num - cn hs i k) / (ht hs i - k + 1)) else ch hs i k num
theorem ch_succ (hs : List Int) (i k : Nat) (num : Int) : ch hs (i + 1) k num = if cn hs i k ≤ num then (i, (num - cn hs i k) % (ht hs i - k + 1)) :: ch hs i (k - 1) ((num - cn hs i k) / (ht hs i - k + 1)) else ch hs i k num := rfl
theorem Enc.ch_eq {hs : List Int} (p : Pos0 hs) {i : Nat} {ds : List (Nat × Int)} {num : Int} (e : Enc hs i ds num) : i ≤ hs.length → ch hs i ds.length num = ds := by
  induction e with
  | zero => intro _; rfl
  | skip e ih =>
    intro h
    have q := e.rng p (by omega)
    rw [ch_succ, if_neg (by omega)]
    exact ih (by omega)
  | @put i ds num f e f0 f1 ih =>
    intro h
    have q := e.rng p (by omega)
    have hm : 0 < ht hs i - ds.length := by omega
    have a := Int.mul_nonneg q.1 (Int.le_of_lt hm)
    rw [List.length_cons, ch_succ, if_pos (by omega)]
    have e1 : ht hs i - ((ds.length + 1 : Nat) : Int) + 1 = ht hs i - ds.length := by omega
    have e2 : cn hs i (ds.length + 1) + num * (ht hs i - ds.length) + f - cn hs i (ds.length + 1) = f + num * (ht hs i - ds.length) := by omega
    rw [e1, e2, Int.add_mul_emod_self_right, Int.add_mul_ediv_right _ _ (by omega), Int.emod_eq_of_lt f0 f1, Int.ediv_eq_zero_of_lt f0 f1, Int.zero_add, Nat.add_sub_cancel, ih (by omega)]
theorem enc_ex {hs : List Int} (p : Pos0 hs) : ∀ (i : Nat), i ≤ hs.length → ∀ (k : Nat) (num : Int), 0 ≤ num → num < cn hs i k → ∃ ds, Enc hs i ds num ∧ ds.length = k
  | 0, _, k, num, h0, h1 => by
    have e : cn hs 0 k = f0 k := by
      show cntF (hs.take 0) k = f0 k
      rw [List.take_zero, cntF_nil]
    rw [e] at h1
    unfold f0 at h1
    by_cases c : k = 0
    · rw [if_pos c] at h1
      exact ⟨[], by rw [show num = 0 by omega]; exact .zero, by rw [c]; rfl⟩
    · rw [if_neg c] at h1
      omega
  | i + 1, h, k, num, h0, h1 => by
    by_cases c : num < cn hs i k
    · obtain ⟨ds, e, l⟩ := enc_ex p i (by omega) k num h0 c
      exact ⟨ds, .skip e, l⟩
    · cases k with
      | zero => rw [cn_zero] at h1 c; omega
      | succ m =>
        rw [cn_succ (by omega)] at h1
        by_cases c2 : (m : Int) < ht hs i
        · rw [if_pos c2] at h1
          have hm : 0 < ht hs i - m := by omega
          have hd : num - cn hs i (m + 1) < cn hs i m * (ht hs i - m) := by omega
          have q0 : 0 ≤ (num - cn hs i (m + 1)) / (ht hs i - m) := Int.ediv_nonneg (by omega) (by omega)
          have q1 : (num - cn hs i (m + 1)) / (ht hs i - m) < cn hs i m := Int.ediv_lt_of_lt_mul hm hd
          obtain ⟨ds, e, l⟩ := enc_ex p i (by omega) m _ q0 q1
          subst l
          have r0 := Int.emod_nonneg (num - cn hs i (ds.length + 1)) (show ht hs i - ds.length ≠ 0 by omega)
          have r1 := Int.emod_lt_of_pos (num - cn hs i (ds.length + 1)) hm
          refine ⟨(i, (num - cn hs i (ds.length + 1)) % (ht hs i - ds.length)) :: ds, ?_, rfl⟩
          have x := Enc.put e r0 r1
          have y := Int.mul_ediv_add_emod (num - cn hs i (ds.length + 1)) (ht hs i - ds.length)
          rw [Int.mul_comm] at y
          rw [show cn hs i (ds.length + 1) + (num - cn hs i (ds.length + 1)) / (ht hs i - ds.length) * (ht hs i - ds.length) + (num - cn hs i (ds.length + 1)) % (ht hs i - ds.length) = num by omega] at x
          exact x
        · rw [if_neg c2] at h1
          omega
/-! towers -/
abbrev rowsOf (ts : List (Nat × Int)) : List Int := ts.map Prod.snd
def tw : List (Nat × Int) → List (Nat × Int)
  | [] => []
  | (c, f) :: ds => tw ds ++ [(c, rowAbove (srt (rowsOf (tw ds))) f)]
theorem tw_len : ∀ ds : List (Nat × Int), (tw ds).length = ds.length
  | [] => rfl
  | (c, f) :: ds => by
    show (tw ds ++ [_]).length = ds.length + 1
    rw [List.length_append, tw_len ds]
    rfl
inductive Run (hs : List Int) : Nat → List (Nat × Int) → Int → Prop
  | zero : Run hs 0 [] 0
  | skip {i : Nat} {ts : List (Nat × Int)} {num : Int} : Run hs i ts num → Run hs (i + 1) ts num
  | put {i : Nat} {ts : List (Nat × Int)} {num r : Int} : Run hs i ts num → r ∉ rowsOf ts → 0 ≤ r → r < ht hs i → Run hs (i + 1) (ts ++ [(i, r)]) (cn hs i (ts.length + 1) + num * (ht hs i - ts.length) + (r - less (rowsOf ts) r))
structure Valid (hs : List Int) (ts : List (Nat × Int)) : Prop where
  asc : ts.Pairwise fun a b => a.1 < b.1
  cell : ∀ q ∈ ts, q.1 < hs.length ∧ 0 ≤ q.2 ∧ q.2 < ht hs q.1
  rows : (rowsOf ts).Nodup
theorem Run.facts {hs : List Int} {i : Nat} {ts : List (Nat × Int)} {num : Int} (e : Run hs i ts num) : (ts.Pairwise fun a b => a.1 < b.1) ∧ (∀ q ∈ ts, q.1 < i ∧ 0 ≤ q.2 ∧ q.2 < ht hs q.1) ∧ (rowsOf ts).Nodup := by
  induction e with
  | zero => exact ⟨List.Pairwise.nil, by simp, by simp⟩
  | skip e ih => exact ⟨ih.1, fun q hq => ⟨by have := (ih.2.1 q hq).1; omega, (ih.2.1 q hq).2⟩, ih.2.2⟩
  | @put i ts num r e h0 h1 h2 ih =>
    refine ⟨List.pairwise_append.mpr ⟨ih.1, List.pairwise_singleton _ _, fun a ha b hb => ?_⟩, fun q hq => ?_, ?_⟩
    · rw [List.mem_singleton.mp hb]
      exact (ih.2.1 a ha).1
    · rcases List.mem_append.mp hq with hq | hq
      · exact ⟨by have := (ih.2.1 q hq).1; omega, (ih.2.1 q hq).2⟩
      · rw [List.mem_singleton.mp hq]
        exact ⟨by show i < i + 1; omega, h1, h2⟩
    · show (List.map Prod.snd (ts ++ [(i, r)])).Nodup
      rw [List.map_append]
      refine List.nodup_append.mpr ⟨ih.2.2, by simp, fun a ha b hb => ?_⟩
      rw [List.mem_singleton.mp hb]
      intro z
      have z' : a = r := z
      exact h0 (z' ▸ ha)
theorem Run.valid {hs : List Int} {ts : List (Nat × Int)} {num : Int} (e : Run hs hs.length ts num) : Valid hs ts := ⟨e.facts.1, e.facts.2.1, e.facts.2.2⟩
theorem Run.low {hs : List Int} (rise : Rise hs) {i : Nat} {ts : List (Nat × Int)} {num : Int} (e : Run hs i ts num) (h : i < hs.length) : ∀ r ∈ rowsOf ts, 0 ≤ r ∧ r < ht hs i := by
  intro r hr
  obtain ⟨q, hq, rfl⟩ := List.mem_map.mp hr
  obtain ⟨a, b, c⟩ := e.facts.2.1 q hq
  have := rise q.1 i _ _ (by omega) (ht_at (show q.1 < hs.length by omega)) (ht_at h)
  omega
theorem Run.enc {hs : List Int} (rise : Rise hs) {i : Nat} {ts : List (Nat × Int)} {num : Int} (e : Run hs i ts num) : i ≤ hs.length → ∃ ds, Enc hs i ds num ∧ tw ds = ts ∧ ds.length = ts.length := by
  induction e with
  | zero => intro _; exact ⟨[], .zero, rfl, rfl⟩
  | skip e ih =>
    intro h
    obtain ⟨ds, a, b, c⟩ := ih (by omega)
    exact ⟨ds, .skip a, b, c⟩
  | @put i ts num r e h0 h1 h2 ih =>
    intro h
    obtain ⟨ds, a, b, c⟩ := ih (by omega)
    have nd := e.facts.2.2
    have lo := e.low rise (by omega)
    have st := srt_strict nd
    have lp := less_perm (srt_perm (rowsOf ts)) r
    have nm : r ∉ srt (rowsOf ts) := fun m => h0 ((srt_perm _).mem_iff.mp m)
    have x := less_lt _ st r h1 (fun u hu => (lo u ((srt_perm _).mem_iff.mp hu)).1)
    have y := less_up _ st r (ht hs i) h2 nm (fun u hu => (lo u ((srt_perm _).mem_iff.mp hu)).2)
    rw [lp] at x y
    rw [(srt_perm (rowsOf ts)).length_eq, show (rowsOf ts).length = ts.length from List.length_map _] at y
    refine ⟨(i, r - less (rowsOf ts) r) :: ds, ?_, ?_, by rw [List.length_cons, c, List.length_append]; rfl⟩
    · have z := Enc.put (f := r - less (rowsOf ts) r) a (by omega) (by rw [c]; omega)
      rw [c] at z
      exact z
    · show tw ds ++ [(i, rowAbove (srt (rowsOf (tw ds))) (r - less (rowsOf ts) r))] = ts ++ [(i, r)]
      rw [b, ← lp, above_back _ st r nm]
theorem Enc.run {hs : List Int} (rise : Rise hs) {i : Nat} {ds : List (Nat × Int)} {num : Int} (e : Enc hs i ds num) : i ≤ hs.length → Run hs i (tw ds) num := by
  induction e with
  | zero => intro _; exact .zero
  | skip e ih => intro h; exact .skip (ih (by omega))
  | @put i ds num f e f0 f1 ih =>
    intro h
    have r := ih (by omega)
    have nd := r.facts.2.2
    have st := srt_strict nd
    obtain ⟨a, b, c, d⟩ := above_facts _ st f
    rw [(srt_perm (rowsOf (tw ds))).length_eq, show (rowsOf (tw ds)).length = ds.length by rw [show (rowsOf (tw ds)).length = (tw ds).length from List.length_map _, tw_len]] at d
    have nm : rowAbove (srt (rowsOf (tw ds))) f ∉ rowsOf (tw ds) := fun m => c ((srt_perm _).mem_iff.mpr m)
    have x := Run.put r nm (by omega) (by omega)
    rw [less_perm (srt_perm (rowsOf (tw ds)))] at b
    rw [b, tw_len] at x
    exact x
theorem Run.uniq {hs : List Int} {i : Nat} {ts : List (Nat × Int)} {a : Int} (e : Run hs i ts a) : ∀ {b : Int}, Run hs i ts b → a = b := by
  induction e with
  | zero => intro b h; cases h; rfl
  | @skip i ts num e ih =>
    intro b h
    cases h with
    | skip h => exact ih h
    | @put _ ts' num' r h _ _ _ =>
      have := (e.facts.2.1 (i, r) (by simp)).1
      exact absurd this (Nat.lt_irrefl i)
  | @put i ts num r e h0 h1 h2 ih =>
    intro b h
    generalize hT : ts ++ [(i, r)] = T at h
    cases h with
    | skip h =>
      subst hT
      have := (h.facts.2.1 (i, r) (by simp)).1
      exact absurd this (Nat.lt_irrefl i)
    | @put _ ts' num' r' h _ _ _ =>
      obtain ⟨e1, e2⟩ := List.append_inj' hT rfl
      have e3 : r = r' := by
        have := List.head_eq_of_cons_eq e2
        exact congrArg Prod.snd this
      subst e1
      subst e3
      rw [ih h]
end TS
namespace TS
/-! a column taken out, in the middle of its loop -/
def dim (f : Nat → Int) (h : Int) (j : Nat) : Nat → Int := fun k => if k ≤ j then f k else stp f h k
theorem dim_start {f : Nat → Int} {h : Int} {n : Nat} : tab (dim f h 0) (n + 1) = tab (stp f h) (n + 1) := by
  refine tab_congr fun k hk => ?_
  unfold dim
  by_cases c : k ≤ 0
  · rw [if_pos c, show k = 0 by omega]
    rfl
  · rw [if_neg c]
theorem dim_end {f : Nat → Int} {h : Int} {n t : Nat} (ht : (t : Int) = h ∨ n ≤ t) : tab (dim f h t) (n + 1) = tab f (n + 1) := by
  refine tab_congr fun k hk => ?_
  unfold dim
  by_cases c : k ≤ t
  · rw [if_pos c]
  · rw [if_neg c]
    rcases ht with e | e
    · exact stp_high (by omega) (by omega)
    · omega
theorem dim_turn {f : Nat → Int} {h : Int} {n j : Nat} (hj : (j : Int) < h) :
    (tab (dim f h j) (n + 1)).set (j + 1) (stp f h (j + 1) - f j * (h - j)) = tab (dim f h (j + 1)) (n + 1) := by
  rw [tab_set]
  refine tab_congr fun k hk => ?_
  show (if k = j + 1 then _ else dim f h j k) = dim f h (j + 1) k
  unfold dim
  by_cases e : k = j + 1
  · rw [if_pos e, if_pos (by omega), e, stp_succ, if_pos hj]
    omega
  · rw [if_neg e]
    by_cases c : k ≤ j
    · rw [if_pos c, if_pos (by omega)]
    · rw [if_neg c, if_neg (by omega)]
theorem dim_lo {f : Nat → Int} {h : Int} {j k : Nat} (hk : k ≤ j) : dim f h j k = f k := by
  unfold dim
  rw [if_pos hk]
theorem dim_hi {f : Nat → Int} {h : Int} {j k : Nat} (hk : j < k) : dim f h j k = stp f h k := by
  unfold dim
  rw [if_neg (by omega)]
/-! rows passed, one after another -/
def passR (T : List Int) (x : Int) : Int := T.foldl (fun x t => if t ≤ x then x + 1 else x) x
theorem passR_eq : ∀ (T : List Int) (x : Int), passR T x = rowAbove T x
  | [], _ => rfl
  | t :: T, x => by
    show passR T (if t ≤ x then x + 1 else x) = if t ≤ x then rowAbove T (x + 1) else rowAbove T x
    rw [passR_eq T]
    split <;> rfl
theorem passR_take {T : List Int} {i : Nat} {t : Int} (h : T[i]? = some t) (x : Int) : passR (T.take (i + 1)) x = if t ≤ passR (T.take i) x then passR (T.take i) x + 1 else passR (T.take i) x := by
  unfold passR
  rw [List.take_add_one, h, List.foldl_append]
  rfl
end TS
namespace TS
/-! the towers of the first columns -/
def pre (ts : List (Nat × Int)) (i : Nat) : List (Nat × Int) := ts.filter fun q => decide (q.1 < i)
theorem pre_zero (ts : List (Nat × Int)) : pre ts 0 = [] := by
  unfold pre
  rw [List.filter_eq_nil_iff]
  intro q _
  simp
theorem pre_none {ts : List (Nat × Int)} {i : Nat} (h : ∀ q ∈ ts, q.1 ≠ i) : pre ts (i + 1) = pre ts i := by
  unfold pre
  refine List.filter_congr fun q hq => ?_
  have := h q hq
  have e : (q.1 < i + 1) = (q.1 < i) := propext (by omega)
  simp only [e]
theorem pre_all {ts : List (Nat × Int)} {n : Nat} (h : ∀ q ∈ ts, q.1 < n) : pre ts n = ts := by
  unfold pre
  rw [List.filter_eq_self]
  intro q hq
  exact decide_eq_true (h q hq)
theorem pre_some : ∀ {ts : List (Nat × Int)} {i : Nat} {r : Int}, (ts.Pairwise fun a b => a.1 < b.1) → (i, r) ∈ ts → pre ts (i + 1) = pre ts i ++ [(i, r)]
  | [], i, r, _, hm => by cases hm
  | q :: ts, i, r, ha, hm => by
    obtain ⟨h1, h2⟩ := List.pairwise_cons.mp ha
    unfold pre
    rw [List.filter_cons, List.filter_cons]
    rcases List.mem_cons.mp hm with e | hm
    · subst e
      rw [if_pos (decide_eq_true (by show i < i + 1; omega)), if_neg (by simp)]
      have z1 : ts.filter (fun q => decide (q.1 < i + 1)) = [] := by
        rw [List.filter_eq_nil_iff]
        intro q hq
        have := h1 q hq
        have t : i < q.1 := this
        simp
        omega
      have z2 : ts.filter (fun q => decide (q.1 < i)) = [] := by
        rw [List.filter_eq_nil_iff]
        intro q hq
        have t : i < q.1 := h1 q hq
        simp
        omega
      rw [z1, z2]
      rfl
    · have lt : q.1 < i := h1 _ hm
      rw [if_pos (decide_eq_true (by omega)), if_pos (decide_eq_true lt)]
      have ih := pre_some h2 hm
      unfold pre at ih
      rw [ih]
      rfl
theorem pre_len (ts : List (Nat × Int)) (i : Nat) : (pre ts i).length ≤ ts.length := List.length_filter_le _ _
theorem pre_mem {ts : List (Nat × Int)} {i : Nat} {q : Nat × Int} (h : q ∈ pre ts i) : q ∈ ts ∧ q.1 < i := by
  unfold pre at h
  obtain ⟨a, b⟩ := List.mem_filter.mp h
  exact ⟨a, of_decide_eq_true b⟩
theorem rows_apart {ts : List (Nat × Int)} {i : Nat} {r : Int} (nd : (rowsOf ts).Nodup) (hm : (i, r) ∈ ts) : r ∉ rowsOf (pre ts i) := by
  intro h
  obtain ⟨q, hq, e⟩ := List.mem_map.mp h
  obtain ⟨h1, h2⟩ := pre_mem hq
  have same : ∀ {ts : List (Nat × Int)}, (rowsOf ts).Nodup → ∀ {a b : Nat × Int}, a ∈ ts → b ∈ ts → a.2 = b.2 → a = b := by
    intro ts
    induction ts with
    | nil => intro _ a b ha; cases ha
    | cons t ts ih =>
      intro nd a b ha hb e
      obtain ⟨n1, n2⟩ := List.nodup_cons.mp nd
      rcases List.mem_cons.mp ha with ea | ha2
      · rcases List.mem_cons.mp hb with eb | hb2
        · rw [ea, eb]
        · exact (n1 (List.mem_map.mpr ⟨b, hb2, by rw [← e, ea]⟩)).elim
      · rcases List.mem_cons.mp hb with eb | hb2
        · exact (n1 (List.mem_map.mpr ⟨a, ha2, by rw [e, eb]⟩)).elim
        · exact ih n2 ha2 hb2 e
  have := same nd h1 hm e
  rw [this] at h2
  exact absurd h2 (Nat.lt_irrefl _)
/-- a way and its number: what a law asks -/
theorem way_number {hs : List Int} (rise : Rise hs) (p : Pos0 hs) {k : Nat} {num : Int} (h0 : 0 ≤ num) (h1 : num < cn hs hs.length k) :
    Valid hs (tw (ch hs hs.length k num)) ∧ (tw (ch hs hs.length k num)).length = k ∧ Run hs hs.length (tw (ch hs hs.length k num)) num := by
  obtain ⟨ds, e, rfl⟩ := enc_ex p hs.length (Nat.le_refl _) k num h0 h1
  rw [e.ch_eq p (Nat.le_refl _)]
  have r := e.run rise (Nat.le_refl _)
  exact ⟨r.valid, tw_len ds, r⟩
theorem number_way {hs : List Int} (rise : Rise hs) (p : Pos0 hs) {ts : List (Nat × Int)} {num : Int} (r : Run hs hs.length ts num) : 0 ≤ num ∧ num < cn hs hs.length ts.length ∧ tw (ch hs hs.length ts.length num) = ts := by
  obtain ⟨ds, e, et, el⟩ := r.enc rise (Nat.le_refl _)
  have q := e.rng p (Nat.le_refl _)
  rw [← el, e.ch_eq p (Nat.le_refl _)]
  exact ⟨q.1, q.2, et⟩
end TS
namespace TS
/-! the greatest count that has a way -/
theorem cnt_down {hs : List Int} (p : Pos0 hs) : ∀ i, i ≤ hs.length → ∀ k, 0 < cn hs i (k + 1) → 0 < cn hs i k
  | 0, _, k, h => by
    have e : cn hs 0 (k + 1) = f0 (k + 1) := by
      show cntF (hs.take 0) (k + 1) = f0 (k + 1)
      rw [List.take_zero, cntF_nil]
    rw [e] at h
    exact absurd h (by unfold f0; simp)
  | i + 1, hi, k, h => by
    have ih := cnt_down p i (by omega)
    have up := cn_mono p (show i < hs.length by omega) k
    rw [cn_succ (by omega)] at h
    by_cases c : 0 < cn hs i (k + 1)
    · have := ih k c
      omega
    · have z := cn_nonneg p i (by omega) (k + 1)
      split at h
      · next g =>
        have y := cn_nonneg p i (by omega) k
        by_cases e : cn hs i k = 0
        · rw [e, Int.zero_mul] at h
          omega
        · omega
      · omega
theorem down_all {hs : List Int} (p : Pos0 hs) {k : Nat} (h : 0 < cn hs hs.length k) : ∀ j, j ≤ k → 0 < cn hs hs.length j := by
  intro j hj
  obtain ⟨d, rfl⟩ : ∃ d, k = j + d := ⟨k - j, by omega⟩
  induction d with
  | zero => exact h
  | succ d ih => exact ih (cnt_down p _ (Nat.le_refl _) _ h) (by omega)
/-- of numbers that are positive up to a place, how many are -/
theorem pos_count {f : Nat → Int} (down : ∀ k, 0 < f (k + 1) → 0 < f k) (h0 : 0 < f 0) : ∀ n : Nat, ∃ t, t ≤ n ∧ ((tab f (n + 1)).filter fun x => decide (0 < x)).length = t + 1 ∧ (∀ k, k ≤ t → 0 < f k) ∧ ∀ k, k ≤ n → 0 < f k → k ≤ t
  | 0 => ⟨0, Nat.le_refl _, by
      rw [tab_succ, List.filter_cons, if_pos (decide_eq_true h0)]
      rfl, fun k hk => by rw [show k = 0 by omega]; exact h0, fun k hk _ => hk⟩
  | n + 1 => by
    obtain ⟨t, t1, t2, t3, t4⟩ := pos_count down h0 n
    have e : tab f (n + 1 + 1) = tab f (n + 1) ++ [f (n + 1)] := by
      unfold tab
      rw [List.range_succ, List.map_append]
      rfl
    rw [e, List.filter_append, List.length_append, t2]
    by_cases c : 0 < f (n + 1)
    · have tn : t = n := by
        have := t4 n (Nat.le_refl _) (down n c)
        omega
      refine ⟨n + 1, Nat.le_refl _, ?_, fun k hk => ?_, fun k hk _ => hk⟩
      · rw [List.filter_cons, if_pos (decide_eq_true c), tn]
        rfl
      · by_cases g : k ≤ n
        · exact t3 k (by omega)
        · rw [show k = n + 1 by omega]; exact c
    · refine ⟨t, by omega, ?_, t3, fun k hk hp => ?_⟩
      · rw [List.filter_cons, if_neg (fun z => c (of_decide_eq_true z))]
        rfl
      · by_cases g : k ≤ n
        · exact t4 k g hp
        · rw [show k = n + 1 by omega] at hp
          exact absurd hp c
theorem top_of {hs : List Int} (p : Pos0 hs) : ∃ t, t ≤ hs.length ∧ ((tab (cntF hs) (hs.length + 1)).filter fun x => decide (0 < x)).length = t + 1 ∧ (∀ k, k ≤ t → 0 < cn hs hs.length k) ∧ ∀ k, k ≤ hs.length → 0 < cn hs hs.length k → k ≤ t := by
  have e : cntF hs = cn hs hs.length := by
    show cntF hs = cntF (hs.take hs.length)
    rw [List.take_length]
  rw [e]
  exact pos_count (cnt_down p _ (Nat.le_refl _)) (by rw [cn_zero]; decide) hs.length
end TS
namespace TS
open PySem PySem.Spec PyProof.Rows L2
theorem ip_mulW {X : Cx} : PIp X .Mult (rI CMulW fun i j => .int (i * j)) := opI fun _ _ _ _ _ _ _ hc q => PyProof.Rows.imul_int q hc.ok
theorem rep_flat (v : V) : ∀ n : Nat, (List.replicate n [v]).flatten = List.replicate n v
  | 0 => rfl
  | n + 1 => by
    show [v] ++ (List.replicate n [v]).flatten = v :: List.replicate n v
    rw [rep_flat v n]
    rfl
end TS
namespace TS
open PySem PySem.Spec PyProof.Rows L2
/-! for i, x in enumerate(xs); the same in a comprehension; for x in reversed(xs) -/
theorem for_enum {K : PySem.W.Frag} {a : Addr} {xs : List V} {g : TG} {tb : TS} {D : Ends} {σ : L2.St} {H : Hp} (Wd : Nat → L2.St → Hp → Prop) (h0 : Wd 0 σ H) (hl : ∀ i σ H, i ≤ xs.length → Wd i σ H → SqL K H a xs)
    (hs : ∀ i x T σ H, xs[i]? = some x → Wd i σ H → H T = none → g (.ref T) σ (upd H T (.tup [.int (i : Nat), x])) fun σ9 H9 => tb { D with nx := Wd (i + 1), ct := Wd (i + 1), bk := D.nx } σ9 H9) (hd : ∀ σ H, Wd xs.length σ H → D.nx σ H) :
    ∃ Y : Nat → Nat → L2.St → Hp → Prop, (∃ m, Y 0 m σ H) ∧ ∀ i m σ H, Y i m σ H →
      ((Ite K a).stop i H ∧ D.nx σ H) ∨ ((Ite K a).go i H ∧ ∃ N : L2.St → Hp → Prop, (∀ σ' H', N σ' H' → ∃ m', m' < m ∧ Y (i + 1) m' σ' H') ∧ ∀ x H', (Ite K a).yld i H x H' → g x σ H' fun σ9 H9 => tb { D with nx := N, ct := N, bk := D.nx } σ9 H9) := by
  refine ⟨fun i m σ H => m = xs.length - i ∧ i ≤ xs.length ∧ Wd i σ H, ⟨xs.length, by simp, Nat.zero_le _, h0⟩, ?_⟩
  rintro i m σ H ⟨rfl, hi, held⟩
  have seen := hl i σ H hi held
  by_cases inside : i < xs.length
  · refine .inr ⟨⟨xs, xs[i], seen, by simp [inside]⟩, Wd (i + 1), fun σ' H' p' => ⟨xs.length - (i + 1), by omega, rfl, inside, p'⟩, fun v H' y => ?_⟩
    obtain ⟨T, x, rfl, nT, rfl, e⟩ := y
    exact hs i x T σ _ (e xs seen) held nT
  · have atEnd : i = xs.length := by omega
    subst atEnd
    exact .inl ⟨⟨xs, seen, Nat.le_refl _⟩, hd σ H held⟩
theorem lc_enum {K : PySem.W.Frag} {a : Addr} {xs : List V} {g : TG} {tt : TT} {te : TE} {vs : List Nat} {σ : L2.St} {H1 : Hp} {D : Addr} {Qd : Hp → Prop} (Wd : Nat → Hp → Prop) (h0 : Wd 0 (upd H1 D (.lst []))) (hl : ∀ i H, i ≤ xs.length → Wd i H → SqL K H a xs)
    (hs : ∀ i x T H, xs[i]? = some x → Wd i H → H T = none → g (.ref T) (wipe σ vs) (upd H T (.tup [.int (i : Nat), x])) fun σ9 H9 => wipe σ9 vs = wipe σ vs ∧ tt σ9 H9 fun b H8 =>
      if b = true then te σ9 H8 fun y H7 => ∃ made, H7 D = some (.lst made) ∧ made.length < sizeLine ∧ Wd (i + 1) (upd H7 D (.lst (made ++ [y]))) else Wd (i + 1) H8) (hd : ∀ H, Wd xs.length H → Qd H) :
    ∃ Y : Nat → Nat → Hp → Prop, (∃ m, Y 0 m (upd H1 D (.lst []))) ∧ ∀ i m H, Y i m H →
      ((Ite K a).stop i H ∧ Qd H) ∨ ((Ite K a).go i H ∧ ∃ Nw : Hp → Prop, (∀ H', Nw H' → ∃ m', m' < m ∧ Y (i + 1) m' H') ∧ ∀ x H', (Ite K a).yld i H x H' → g x (wipe σ vs) H' fun σ9 H9 => wipe σ9 vs = wipe σ vs ∧ tt σ9 H9 fun b H8 =>
        if b = true then te σ9 H8 fun y H7 => ∃ made, H7 D = some (.lst made) ∧ made.length < sizeLine ∧ Nw (upd H7 D (.lst (made ++ [y]))) else Nw H8) := by
  refine ⟨fun i m H => m = xs.length - i ∧ i ≤ xs.length ∧ Wd i H, ⟨xs.length, by simp, Nat.zero_le _, h0⟩, ?_⟩
  rintro i m H ⟨rfl, hi, held⟩
  have seen := hl i H hi held
  by_cases inside : i < xs.length
  · refine .inr ⟨⟨xs, xs[i], seen, by simp [inside]⟩, Wd (i + 1), fun H' p' => ⟨xs.length - (i + 1), by omega, rfl, inside, p'⟩, fun v H' y => ?_⟩
    obtain ⟨T, x, rfl, nT, rfl, e⟩ := y
    exact hs i x T _ (e xs seen) held nT
  · have atEnd : i = xs.length := by omega
    subst atEnd
    exact .inl ⟨⟨xs, seen, Nat.le_refl _⟩, hd H held⟩
theorem for_rev {K : PySem.W.Frag} {a : Addr} {xs : List V} {g : TG} {tb : TS} {D : Ends} {σ : L2.St} {H : Hp} (Wd : Nat → L2.St → Hp → Prop) (h0 : Wd 0 σ H) (hl : ∀ i σ H, i ≤ xs.length → Wd i σ H → SqL K H a xs)
    (hs : ∀ i x σ H, i < xs.length → xs[xs.length - 1 - i]? = some x → Wd i σ H → g x σ H fun σ9 H9 => tb { D with nx := Wd (i + 1), ct := Wd (i + 1), bk := D.nx } σ9 H9) (hd : ∀ σ H, Wd xs.length σ H → D.nx σ H) :
    ∃ Y : Nat → Nat → L2.St → Hp → Prop, (∃ m, Y 0 m σ H) ∧ ∀ i m σ H, Y i m σ H →
      ((Itv K a xs.length).stop i H ∧ D.nx σ H) ∨ ((Itv K a xs.length).go i H ∧ ∃ N : L2.St → Hp → Prop, (∀ σ' H', N σ' H' → ∃ m', m' < m ∧ Y (i + 1) m' σ' H') ∧ ∀ x H', (Itv K a xs.length).yld i H x H' → g x σ H' fun σ9 H9 => tb { D with nx := N, ct := N, bk := D.nx } σ9 H9) := by
  refine ⟨fun i m σ H => m = xs.length - i ∧ i ≤ xs.length ∧ Wd i σ H, ⟨xs.length, by simp, Nat.zero_le _, h0⟩, ?_⟩
  rintro i m σ H ⟨rfl, hi, held⟩
  have seen := hl i σ H hi held
  by_cases inside : i < xs.length
  · have back : xs.length - 1 - i < xs.length := by omega
    refine .inr ⟨⟨inside, xs, xs[xs.length - 1 - i], seen, by simp [back]⟩, Wd (i + 1), fun σ' H' p' => ⟨xs.length - (i + 1), by omega, rfl, inside, p'⟩, fun v H' y => ?_⟩
    obtain ⟨rfl, e⟩ := y
    exact hs i v σ _ inside (e xs seen) held
  · have atEnd : i = xs.length := by omega
    subst atEnd
    exact .inl ⟨Nat.le_refl _, hd σ H held⟩
/-! rules within a comprehension: the written part named -/
theorem ixLK {X : Cx} {K : PySem.W.Frag} (h : X.K = K := by rfl) : IxR X (rIxL K) := by
  subst h
  exact ix_list
theorem ixTK {X : Cx} {K : PySem.W.Frag} (h : X.K = K := by rfl) : IxR X (rIxT K) := by
  subst h
  exact ix_tup
theorem notInK {X : Cx} {K : PySem.W.Frag} (h : X.K = K := by rfl) : OpR X (compareOp .NotIn) (rIn K true) := by
  subst h
  exact op_notIn_seq
theorem isiK {X : Cx} {K : PySem.W.Frag} (h : X.K = K := by rfl) : CallR X (.builtin "isinstance") (rIsi K) := by
  subst h
  exact call_isi
def rLenK (K : PySem.W.Frag) : List V → Hp → VK → Prop := fun xs H Q => ∃ p ys, xs = [.ref p] ∧ (SqL K H p ys ∨ SqT K H p ys) ∧ Q (.int ys.length) H
theorem lenK {X : Cx} {K : PySem.W.Frag} (h : X.K = K := by rfl) : CallR X (.builtin "len") (rLenK K) := by
  subst h
  exact call_len_seq
end TS
namespace TS
open PySem PySem.Spec PyProof.Rows L2
theorem inV_ints (r : Int) (rows : List Int) : inV (.int r) (rows.map V.int) = rows.contains r := by
  unfold inV
  induction rows with
  | nil => rfl
  | cons x xs ih =>
    rw [List.map_cons, List.any_cons, ih, List.contains_cons]
    congr 1
    show (x == r) = (r == x)
    exact Bool.beq_comm
theorem flat_ints (rows : List Int) : (rows.map V.int).all flatV = true := by
  induction rows with
  | nil => rfl
  | cons x xs ih => rw [List.map_cons, List.all_cons, ih]; rfl
/-! lists of pairs -/
abbrev Prs : Type := List (Addr × Nat × Int)
abbrev refsT (ps : Prs) : List V := ps.map fun p => V.ref p.1
abbrev cellV (q : Nat × Int) : List V := [.int (q.1 : Int), .int q.2]
def Tps (H : Hp) (ps : Prs) : Prop := ∀ p ∈ ps, H p.1 = some (.tup (cellV p.2))
theorem Tps.same {H H' : Hp} {ps : Prs} (h : Tps H ps) (s : Same H H') : Tps H' ps := fun p hp => s _ _ (h p hp)
theorem Tps.lst {H : Hp} {ps : Prs} {a : Addr} {xs ys : List V} (h : Tps H ps) (ha : H a = some (.lst xs)) : Tps (upd H a (.lst ys)) ps := fun p hp => by
  rw [upd_ne (ne_of (h p hp) ha (by intro z; cases z))]
  exact h p hp
theorem Tps.app {H : Hp} {ps qs : Prs} (h : Tps H ps) (k : Tps H qs) : Tps H (ps ++ qs) := fun p hp => by
  rcases List.mem_append.mp hp with hp | hp
  · exact h p hp
  · exact k p hp
theorem Tps.one {H : Hp} {a : Addr} {q : Nat × Int} (h : H a = some (.tup (cellV q))) : Tps H [(a, q)] := fun p hp => by
  rw [List.mem_singleton.mp hp]
  exact h
theorem Tps.nil {H : Hp} : Tps H [] := fun p hp => by cases hp
def PL (H : Hp) (a : Addr) (ts : List (Nat × Int)) : Prop := ∃ ps : Prs, H a = some (.lst (refsT ps)) ∧ Tps H ps ∧ ps.map Prod.snd = ts
theorem PL.same {H H' : Hp} {a : Addr} {ts : List (Nat × Int)} (h : PL H a ts) (s : Same H H') : PL H' a ts := let ⟨ps, x, y, z⟩ := h; ⟨ps, s _ _ x, y.same s, z⟩
theorem refsT_app (ps qs : Prs) : refsT (ps ++ qs) = refsT ps ++ refsT qs := List.map_append
theorem refsT_at {ps : Prs} {i : Nat} {x : V} (h : (refsT ps)[i]? = some x) : ∃ a q, x = .ref a ∧ ps[i]? = some (a, q) := by
  rw [List.getElem?_map] at h
  cases e : ps[i]? with
  | none => rw [e] at h; cases h
  | some p => rw [e] at h; exact ⟨p.1, p.2, (Option.some.inj h).symm, rfl⟩
theorem refsT_get {ps : Prs} {i : Nat} {q : Nat × Int} (h : (ps.map Prod.snd)[i]? = some q) : ∃ a, ps[i]? = some (a, q) := by
  rw [List.getElem?_map] at h
  cases e : ps[i]? with
  | none => rw [e] at h; cases h
  | some p => rw [e] at h; exact ⟨p.1, by rw [← Option.some.inj h]⟩
theorem snd_at {ps : Prs} {i : Nat} {a : Addr} {q : Nat × Int} (h : ps[i]? = some (a, q)) : (ps.map Prod.snd)[i]? = some q := by
  rw [List.getElem?_map, h]
  rfl
/-- a tuple behind what was put in -/
theorem PL.add {H : Hp} {a t : Addr} {ts : List (Nat × Int)} {q : Nat × Int} {xs : List V} (h : PL H a ts) (ht : H t = some (.tup (cellV q))) (hx : H a = some (.lst xs)) : PL (upd H a (.lst (xs ++ [.ref t]))) a (ts ++ [q]) := by
  obtain ⟨ps, e1, e2, e3⟩ := h
  rw [hx] at e1
  have e4 : xs = refsT ps := by injection e1 with e; injection e
  refine ⟨ps ++ [(t, q)], ?_, (e2.app (Tps.one ht)).lst hx, by rw [List.map_append, e3]; rfl⟩
  rw [upd_same, e4, refsT_app]
  rfl
theorem PL.empty {H : Hp} {a : Addr} (h : H a = some (.lst [])) : PL H a [] := ⟨[], h, Tps.nil, rfl⟩
/-- all but what stands at one address -/
def SameX (a : Addr) (H H' : Hp) : Prop := ∀ b o, b ≠ a → H b = some o → H' b = some o
theorem SameX.of {a : Addr} {H H' : Hp} (h : Same H H') : SameX a H H' := fun b o _ e => h b o e
theorem SameX.trans {a : Addr} {H H1 H2 : Hp} (x : SameX a H H1) (y : SameX a H1 H2) : SameX a H H2 := fun b o n e => y b o n (x b o n e)
theorem SameX.put {a : Addr} {H H1 : Hp} {o : HO} (x : SameX a H H1) : SameX a H (upd H1 a o) := fun b u n e => by
  rw [upd_ne n]
  exact x b u n e
theorem SameX.same {a : Addr} {H0 H H' : Hp} (s : Same H0 H) (n : H0 a = none) (x : SameX a H H') : Same H0 H' := fun b o e => x b o (ne_of_none e n) (s b o e)
theorem SameX.mut {a p : Addr} {H H1 : Hp} {o : HO} (x : SameX a H H1) (n : H p = none) : SameX a H (upd H1 p o) := fun b u hb e => by
  rw [upd_ne (ne_of_none e n)]
  exact x b u hb e
end TS
namespace TS
open PySem PySem.Spec PyProof.Rows L2
/-! a set of ints made by a comprehension over anything that is walked, without ifs -/
abbrev setMore (w : World) (D : Addr) (S : Int → Bool) (n : Nat) (c : Int) : HO := SetO w D (fun j => S j || decide (j = c)) (if S c = true then n else n + 1)
def tSci (w : World) (wi : TI) (g : TG) (te : TE) (vs : List Nat) : TE := fun σ H Q => wi σ H fun J H1 => ∀ D, H1 D = none →
  ∃ Y : Nat → Nat → Hp → Prop, (∃ m, Y 0 m (upd H1 D (SetO w D (fun _ => false) 0))) ∧ ∀ i m Hi, Y i m Hi → (J.stop i Hi ∧ Q (.ref D) Hi) ∨
    (J.go i Hi ∧ ∃ Nw : Hp → Prop, (∀ Hn, Nw Hn → ∃ m', m' < m ∧ Y (i + 1) m' Hn) ∧ ∀ x Hx, J.yld i Hi x Hx → g x (wipe σ vs) Hx fun σt Ht => wipe σt vs = wipe σ vs ∧
      te σt Ht fun y He => ∃ (c : Int) (S : Int → Bool) (n : Nat), y = .int c ∧ He D = some (SetO w D S n) ∧ n + 1 < scanBound ∧ Nw (upd He D (setMore w D S n c)))
section
variable {X : Cx}
theorem put_in {pins : List (Addr × Obj)} {σ : L2.St} {H : Hp} {s : Shared} {E : Value → Shared → Prop} {D : Addr} {S : Int → Bool} {n : Nat} {c : Int} {v : Value} {Q : Value → Shared → Prop} (inv : Inv X pins σ H s)
    (at' : H D = some (SetO X.w D S n)) (room : n + 1 < scanBound) (rv : RelV (.int c) v) (k : ∀ s', Inv X pins σ (upd H D (setMore X.w D S n c)) s' → Q .none s') :
    wpAny (model X.prog X.w) X.A (call (.builtin "set.add") [.ref D, v]) Q E s := by
  obtain ⟨tk, rfl⟩ := rv
  refine setR_add (setO_get inv at') room fun hp sb made => ?_
  have there : ∃ u, hp.get? D = some u := let ⟨o, _, _, _, ho, _⟩ := made; ⟨o, ho⟩
  exact k _ (inv.write (e := D) (t' := s.toks + 1) (by rw [at']; trivial) (.inl rfl) (fun b u away hb => (sb.2 b away).trans hb) there (setO_new made))
theorem pe_sci {elt tg iter : Expr} {scope : Scope} {own : List (PySem.Str × Nat)} {pos : Pos} {wi : TI} {g : TG} {te : TE} (calm : X.calm = true) (nd : X.N.Nodup) (walks : PI X tg iter wi) (blk : BlkOk X.N X.env.scope scope own)
    (tgt : ∀ (s : Shared) (H : Hp) (C : Addr) (cl : List (PySem.Str × Addr)) (fp : List Addr), PG (X.blk s H scope (compEnvC scope cl C X.env) fp) tg g)
    (val : ∀ (s : Shared) (H : Hp) (C : Addr) (cl : List (PySem.Str × Addr)) (fp : List Addr), PE (X.blk s H scope (compEnvC scope cl C X.env) fp) elt te)
    (fold : ∀ x, foldedSetIterable iter X.env x = pure x := by intro _; rfl) : PE X (.SetComp elt [⟨tg, iter, [], 0⟩] scope pos) (tSci X.w wi g te (own.map (·.2))) := by
  refine ⟨fun pins s σ H Q inv want => ?_⟩
  rw [PpSet.eval_SetComp]
  have caught : ∀ y ∈ scope.names, y.2 = .free → ∃ c, X.env.cells.lookup y.1 = some c := fun y hy e => (blk.free y hy e).elim (fun z => inv.ok.has _ (.inl z)) (fun z => inv.ok.has _ (.inr z))
  refine wpAny_comprehension_free (use := none) rfl fold (closure_ok caught) blk.kind (fun y hy e => (blk.uniq y hy).trans (by rw [e])) (thn (walks.run pins s σ H _ inv want) fun _ sa wa => thn wa fun _ sb wb => ?_)
  obtain ⟨it, fp, tn, J, Hb, rfl, Ib, turns, st0, apart, goes⟩ := wb
  refine PpSet.newSet_ok (newEnv_comp ?_)
  -- the new set
  obtain ⟨D, eD⟩ : ∃ D, D = sb.heap.objs.size := ⟨_, rfl⟩
  obtain ⟨o0, eo⟩ : ∃ o0 : Obj, o0 = { cls := .type "set", dict := none, data := .set #[] 0 (.fresh 0 0 (!X.w.params.followText "set-order")) } := ⟨_, rfl⟩
  rw [← eD, ← eo]
  have newD : Hb D = none := Ib.hok.fresh (Nat.le_of_eq eD.symm)
  obtain ⟨Y, ⟨m0, y0⟩, each⟩ := goes D newD
  obtain ⟨sc, esc⟩ : ∃ sc : Shared, sc = { sb with heap := sb.heap.push o0 } := ⟨_, rfl⟩
  have hpc : sc.heap = sb.heap.push o0 := by rw [esc]
  have Ic : Inv X pins σ (upd Hb D (SetO X.w D (fun _ => false) 0)) sc := by
    rw [esc]
    refine Ib.laid (t' := sb.toks) (fun b o e => Heap.get?_push_of_some _ e) (Nat.le_of_eq eD.symm) ?_
    rw [eD, eo]
    exact setO_new (setR_fresh X.w)
  have fpLt : ∀ b ∈ fp, b < sb.heap.objs.size := fun b hb => let ⟨o, e, _⟩ := turns.obj _ _ st0 b hb; Heap.lt_size e
  obtain ⟨Hc, eHc⟩ : ∃ Hc, Hc = upd Hb D (SetO X.w D (fun _ => false) 0) := ⟨_, rfl⟩
  rw [← eHc] at Ic y0
  have away : ∀ b ∈ fp, FpOk X pins Hc b ∧ b < sc.heap.objs.size := fun b hb => by
    have lt := fpLt b hb
    have ne : b ≠ D := by rw [eD]; exact Nat.ne_of_lt lt
    have q := apart b hb
    exact ⟨⟨by rw [eHc, upd_ne ne]; exact q.1, q.2⟩, by rw [hpc, Heap.size_push]; exact Nat.lt_succ_of_lt lt⟩
  have st1 : tn 0 sc.heap := turns.keep _ _ _ st0 fun b _ o e => by rw [hpc]; exact Heap.get?_push_of_some _ e
  -- the block's context
  have Id := block_start Ic blk nd away
  obtain ⟨env1, eE⟩ : ∃ e, e = compEnvC scope (cellsFrom (sc.heap.objs.size + 1) scope.names (cloFrom X.env.cells scope.names [])) sc.heap.objs.size X.env := ⟨_, rfl⟩
  have locE : env1.locals = sc.heap.objs.size := by rw [eE]; rfl
  have PGt := tgt sc Hc sc.heap.objs.size (cellsFrom (sc.heap.objs.size + 1) scope.names (cloFrom X.env.cells scope.names [])) fp
  have PEv := val sc Hc sc.heap.objs.size (cellsFrom (sc.heap.objs.size + 1) scope.names (cloFrom X.env.cells scope.names [])) fp
  rw [← eE] at Id PGt PEv
  obtain ⟨sd, esd⟩ : ∃ sd : Shared, sd = { sc with heap := pushCells (sc.heap.push { cls := .type "dict", data := .dict #[] }) scope.names } := ⟨_, rfl⟩
  rw [← esd] at Id
  have st2 : tn 0 sd.heap := turns.keep _ _ _ st1 fun b _ o e => by rw [esd]; exact pushCells_keeps _ _ _ _ (Heap.get?_push_of_some _ e)
  have noFp : ∀ b ∈ fp, Hc b = none := fun b hb => (away b hb).1.1
  obtain ⟨Z, eZ⟩ : ∃ Z, Z = X.blk sc Hc scope env1 fp := ⟨_, rfl⟩
  have still : ∀ {σ' : L2.St} {H' : Hp} {s' : Shared}, Inv (X.blk sc Hc scope env1 fp) [] σ' H' s' → (∀ b ∈ fp, H' b = none) → ∀ b ∈ fp, FpOk (X.blk sc Hc scope env1 fp) [] H' b := fun {σ' H' s'} inv' no b hb =>
    ⟨no b hb, (inv'.ok.exf b hb).1, inv'.ok.exfs b hb, .inl hb, fun x c e => (inv'.ok.exf b hb).2 x c e, fun p hp => absurd (show p ∈ ([] : List (Addr × Obj)) ++ [] from hp) (by simp)⟩
  have ends : ∀ {s' : Shared} {H' : Hp}, Inv X pins σ H' s' → Q (.ref D) H' → (∃ m, s'.heap.Ns sc.heap.objs.size m) → FpOk X pins H' sc.heap.objs.size →
      compPost (model X.prog X.w) X.A X.xe none (EP X pins σ Q) (.ref D) sc.heap.objs.size (.ok .next) s' := fun {s' H'} inv' q ⟨m, hn⟩ f => by
    refine ⟨m, hn, fun h2 sb2 => ?_⟩
    obtain ⟨a0, a1, a2, a3, a4, a5⟩ := f
    exact ⟨.ref D, H', inv'.turned (t' := s'.toks) (fun b o hb e => (sb2.2 b hb).trans e) a0 a1 a3 a4 a5, rfl, q⟩
  have run : codeAny (model X.prog X.w) X.A (.compLoop (.SetComp elt [⟨tg, iter, [], 0⟩] scope pos) 0 (.ref it) (.ref D) env1) (compPost (model X.prog X.w) X.A X.xe none (EP X pins σ Q) (.ref D) sc.heap.objs.size) sd := by
    refine PpSet.compLoopS_any (fun left s' => ∃ i H', Inv (X.blk sc Hc scope env1 fp) [] (wipe σ (own.map (·.2))) H' s' ∧ tn i s'.heap ∧ (∀ b ∈ fp, H' b = none) ∧ Y i left H') ?_ m0 ⟨0, Hc, Id, st2, noFp, y0⟩
    rintro left s5 ⟨i, H5, I5, st5, no5, y5⟩
    rcases each i left H5 y5 with ⟨stop, done⟩ | ⟨go, Nw, less, step⟩
    · refine thnF (turns.done (X.blk sc Hc scope env1 fp) rfl rfl rfl calm i [] s5 _ H5 (fun _ _ => False) I5 (still I5 no5) st5 stop) fun r s6 ⟨er, I6⟩ => ?_
      subst er
      have I7 : Inv X pins σ H5 s6 := Ic.call' (ch := fp) I6.os I6.base I6.hok I6.bare fun b hb => let z := (away b hb).1.2; ⟨z.2.2.1, z.1, z.2.2.2.1, z.2.2.2.2⟩
      have noC : H5 sc.heap.objs.size = none := by
        have z : H5 env1.locals = none := I6.free
        rw [locE] at z
        exact z
      obtain ⟨m, hn, _⟩ := I6.loc
      have hn' : s6.heap.Ns env1.locals m := hn
      rw [locE] at hn'
      exact ends I7 done ⟨m, hn'⟩ (Ic.fpOk (Nat.le_refl _) noC)
    · refine thnF (turns.item (X.blk sc Hc scope env1 fp) rfl rfl rfl calm i [] s5 _ H5 (fun _ _ => False) I5 (still I5 no5) st5 go) fun r s6 ⟨u, er, h6⟩ => ?_
      subst er
      refine thnF h6 fun _ s7 ⟨x, H7, I7, r7, y7, st7, no7⟩ => ?_
      refine thnF (PGt.run _ s7 _ H7 x u _ (I7.pinned (still I7 no7) (turns.obj _ _ st7)) r7 (step x H7 y7)) fun _ s8 ⟨σ8, H8, I8, eσ, q8⟩ => ?_
      refine thnF (wpAny_tests_nil (Q := fun b s' => b = true ∧ s' = s8) ⟨rfl, rfl⟩) fun b s9 ⟨eb, e9⟩ => ?_
      subst eb e9
      simp only [if_true]
      refine thnF (PEv.run _ s9 σ8 H8 _ I8 q8) fun z s10 ⟨yv, H10, I10, r10, c, S, n, ey, hD, room, nx⟩ => ?_
      subst ey
      refine put_in (X := X.blk sc Hc scope env1 fp) I10 hD room r10 fun s11 I11 => ?_
      obtain ⟨m', lt, y'⟩ := less _ nx
      have kept : ∀ b ∈ fp, ∀ o, s7.heap.get? b = some o → s11.heap.get? b = some o ∧ upd H10 D (setMore X.w D S n c) b = none := fun b hb o e =>
        let z := I11.pin (b, o) (List.mem_append_right _ (List.mem_append_right _ (mem_pinsAt hb e)))
        ⟨z.1, z.2.1⟩
      refine ⟨m', lt, i + 1, _, (I11.unpinned (pins := [])).weak (by rw [← eσ, wipe_length]) (fun j v e => ?_), turns.keep _ _ _ st7 fun b hb o e => (kept b hb o e).1, fun b hb => ?_, y'⟩
      · rw [← eσ] at e
        exact (wipe_some e).1
      · obtain ⟨o, e, _⟩ := turns.obj _ _ st7 b hb
        exact (kept b hb o e).2
  have fin := PpSet.codeAny_compStart_set run (turns.self X.A 0 _ _ _ st2 run)
  subst esd
  subst eE
  subst esc
  exact fin
end
end TS
namespace TS
open PySem PySem.Spec PyProof.Rows L2
theorem sci_list {w : World} {K : PySem.W.Frag} {a : Addr} {xs : List V} {g : TG} {te : TE} {vs : List Nat} {σ : L2.St} {H1 : Hp} {D : Addr} {Qd : Hp → Prop} (Wd : Nat → Hp → Prop) (start : Wd 0 (upd H1 D (SetO w D (fun _ => false) 0)))
    (there : ∀ i H, i ≤ xs.length → Wd i H → SqL K H a xs)
    (turn : ∀ i x H, xs[i]? = some x → Wd i H → g x (wipe σ vs) H fun σt Ht => wipe σt vs = wipe σ vs ∧ te σt Ht fun y He => ∃ (c : Int) (S : Int → Bool) (n : Nat), y = .int c ∧ He D = some (SetO w D S n) ∧ n + 1 < scanBound ∧ Wd (i + 1) (upd He D (setMore w D S n c)))
    (fin : ∀ H, Wd xs.length H → Qd H) :
    ∃ Y : Nat → Nat → Hp → Prop, (∃ m, Y 0 m (upd H1 D (SetO w D (fun _ => false) 0))) ∧ ∀ i m Hi, Y i m Hi → ((Itl K a).stop i Hi ∧ Qd Hi) ∨
      ((Itl K a).go i Hi ∧ ∃ Nw : Hp → Prop, (∀ Hn, Nw Hn → ∃ m', m' < m ∧ Y (i + 1) m' Hn) ∧ ∀ x Hx, (Itl K a).yld i Hi x Hx → g x (wipe σ vs) Hx fun σt Ht => wipe σt vs = wipe σ vs ∧
        te σt Ht fun y He => ∃ (c : Int) (S : Int → Bool) (n : Nat), y = .int c ∧ He D = some (SetO w D S n) ∧ n + 1 < scanBound ∧ Nw (upd He D (setMore w D S n c))) := by
  refine ⟨fun i m H => m + i = xs.length ∧ Wd i H, ⟨xs.length, by omega, start⟩, ?_⟩
  rintro i m H ⟨em, word⟩
  have seen := there i H (by omega) word
  by_cases inside : i < xs.length
  · refine .inr ⟨⟨xs, xs[i], seen, List.getElem?_eq_getElem inside⟩, Wd (i + 1), fun Hn nw => ⟨m - 1, by omega, by omega, nw⟩, fun x Hx y => ?_⟩
    obtain ⟨eH, ex⟩ := y
    subst eH
    exact turn i x _ (ex xs seen) word
  · have at' : i = xs.length := by omega
    rw [at'] at word ⊢
    exact .inl ⟨⟨xs, seen, Nat.le_refl _⟩, fin H word⟩
/-- len of a set of ints -/
def rLenSet (w : World) : List V → Hp → VK → Prop := fun xs H Q => ∃ (a : Addr) (S : Int → Bool) (n : Nat), xs = [V.ref a] ∧ H a = some (SetO w a S n) ∧ Q (.int (n : Int)) H
theorem cr_lenSet {X : Cx} : CallR X (.builtin "len") (rLenSet X.w) := by
  intro pins s σ H xs us Q inv r h
  obtain ⟨a, S, n, rfl, ha, q⟩ := h
  cases r with
  | cons r rr =>
    cases rr
    cases r
    obtain ⟨o, es, ep, t, ho, hex, hd, _, _, _, lt, hf, hn, _⟩ := setO_get inv ha
    have b : ((es.size : Nat) : Int) < 2 ^ 63 := by
      unfold scanBound at lt
      omega
    exact call_len_set ho hex hd hf b ⟨.int n, H, inv.tok _, ⟨_, by rw [hn]⟩, q⟩
end TS
namespace TS
open PySem PySem.Spec PyProof.Rows L2
/-! set(xs) of a list of allI, told well enough to be sorted -/
section
variable {P : Program} {w : World} {A : Around} {E : Value → Shared → Prop} {s : Shared}
abbrev bareSet (w : World) : Obj := { cls := .type "set", dict := none, data := .set #[] 0 (.fresh 0 0 (!w.params.followText "set-order")) }
theorem set_from_list {l : Addr} {its : Array Value} (ns : List Int) {Q : Value → Shared → Prop} (calm : A.handled = none) (isL : s.heap.IsList l its) (allI : IntsAre its.toList ns) (few : ns.length + 1 < scanBound)
    (k : ∀ (h' : Heap) (tk c : Nat), SetR w h' s.heap.objs.size (fun j => decide (j ∈ ns)) c → c ≤ ns.length → (∀ b o, s.heap.get? b = some o → h'.get? b = some o) → Q (.ref s.heap.objs.size) { s with heap := h', toks := tk }) :
      wpAny (model P w) A (call (Value.type "set") [Value.ref l]) Q E s := by
  have size : its.size = ns.length := (Array.length_toList (xs := its)).symm.trans (IntsAre.length allI)
  obtain ⟨_, _, inMro⟩ := F.called_set.mro
  have m1 := F.called_set.made
  have m2 := F.called_set.sub
  have m3 := F.called_set.notType
  have m4 := F.called_set.canCreate
  have m5 := F.typeCall_set_1 (.ref l)
  refine wpAny_call (codeAny_of_tree (show wpAny _ _ (callAny (.type "set") _) _ _ _ from wpAny_pure ⟨Code.quiet_builtin _ (by decide +kernel), codeAny_builtin F.entry_type_call ?_⟩))
  rw [show A.under _ = _ from Around.under_plain (weight_type_call_type "set" [.ref l] []) rfl]
  repeat any_goals first | assumption | wp_step
  refine codeAny_mono (code_set_led1 (.ref l) (E := E) (Q₁ := fun v s1 => v = .ref s.heap.objs.size ∧ s1 = { s with heap := s.heap.push (bareSet w) }) ⟨rfl, rfl⟩) fun r s1 hr => ?_
  cases r with
  | error e => exact hr
  | ok fl =>
    cases fl with
    | ret v =>
      obtain ⟨rfl, rfl⟩ := hr
      have bare : (s.heap.push (bareSet w)).get? s.heap.objs.size = some (bareSet w) := Heap.get?_push_size _ rfl
      have ty : Shared.TypeIs { s with heap := s.heap.push (bareSet w) } (.ref s.heap.objs.size) "set" := ⟨_, bare, rfl⟩
      have i1 := F.called_set.init.lookup
      have i2 := F.called_set.init.bind (.ref s.heap.objs.size)
      repeat any_goals first | assumption | wp_step
      refine codeAny_mono (codeAny_call_builtin (R := wants (fun r s2 => r = .none ∧ ∃ h' tk c, s2 = { s with heap := h', toks := tk } ∧ SetR w h' s.heap.objs.size (fun j => decide (j ∈ ns)) c ∧ c ≤ ns.length ∧ ∀ b o, s.heap.get? b = some o → h'.get? b = some o) E)
        F.called_set.init.plain F.entry_set_init (check_set_init_1 ty ?_)) fun r2 s2 hr2 => ?_
      · obtain ⟨⟨ocls, odict, odata, oslots⟩, hol, hcl, nl, hdl⟩ := isL
        simp only at hcl hdl
        subst hcl hdl
        have hol' : (s.heap.push (bareSet w)).get? l = some { cls := .type "list", dict := odict, data := .seq its nl, slots := oslots } := Heap.get?_push_of_some _ hol
        have z1 := F.sub_list_set
        have z2 := F.sub_list_frozenset
        have z3 : (Value.type "list" == Value.type "dict") = false := by decide
        have isL' : (s.heap.push (bareSet w)).IsList l its := ⟨_, hol', rfl, nl, rfl⟩
        unfold Builtin.«set.__init__» Builtin.Frozenset.updateFrom noKeywords
        generalize hIt : pyIter = It
        wp_walk
        subst hIt
        refine wpAny_pyIter_list isL' (wpAny_bind (wpAny_runValue ?_))
        have ltl : l < s.heap.objs.size := Heap.lt_size hol
        have sz : (s.heap.push (bareSet w)).objs.size = s.heap.objs.size + 1 := Heap.size_push ..
        have ne1 : l ≠ (s.heap.push (bareSet w)).objs.size := by
          rw [sz]
          exact Nat.ne_of_lt (Nat.lt_succ_of_lt ltl)
        have notIn : s.heap.objs.size ∉ [(s.heap.push (bareSet w)).objs.size, l] := by
          rw [sz]
          intro z
          rcases List.mem_cons.mp z with z | z
          · exact Nat.ne_of_lt (Nat.lt_succ_self _) z
          · exact Nat.ne_of_gt ltl (List.mem_singleton.mp z)
        have calm3 : A.in1.in1.in1.handled = none := by simp [calm]
        have vals : ∀ (i : Nat) (v : Value), its[i]? = some v → ∃ k t, ns[i]? = some k ∧ v = .int k t := fun i v hv => by
          have lt : i < ns.length := by rw [← size]; exact (Array.getElem?_eq_some_iff.mp hv).1
          obtain ⟨t, e⟩ := PyProof.Rows.IntsAre.int_at allI i v (by rw [Array.getElem?_toList]; exact hv)
          exact ⟨ns[i], t, List.getElem?_eq_getElem lt, by rw [e, List.getD_eq_getElem?_getD, List.getElem?_eq_getElem lt, Option.getD_some]⟩
        refine set_update_ints ((Walks.list calm3 _ l ne1 its).toS) s.heap.objs.size notIn ns size few vals (its.size - 0) 0 _ (by omega) (Nat.zero_le _) ⟨⟨_, Heap.get?_push_size _ rfl, rfl, rfl⟩, isL'.push _⟩
          ⟨0, Nat.le_refl 0, setR_new_at (Heap.get?_push_of_some _ bare)⟩ ?_
        rintro ⟨h', g2, d2, tk, os2⟩ c' moved le made
        have q1 : g2 = s.gens := moved.gens
        have q2 : d2 = s.drawn := moved.drawn
        have q3 : os2 = s.os := moved.os
        subst q1 q2 q3
        show wpAny _ _ _ _ _ _
        refine wpAny_pure ?_
        show wpAny _ _ (ret .none) _ _ _
        refine wpAny_pure ⟨rfl, h', tk, c', rfl, made, by omega, fun b o e => ?_⟩
        have lt := Heap.lt_size e
        refine moved.heap b o (fun z => ?_) (Heap.get?_push_of_some _ (Heap.get?_push_of_some _ e))
        rcases List.mem_cons.mp z with z | z
        · exact Nat.ne_of_lt lt z
        · have z' := List.mem_singleton.mp z
          rw [sz] at z'
          exact Nat.ne_of_lt (Nat.lt_succ_of_lt lt) z'
      · cases r2 with
        | error e => exact hr2
        | ok fl2 =>
          cases fl2 with
          | ret v2 =>
            obtain ⟨rfl, h', tk, c', rfl, made, le, kept⟩ := hr2
            repeat any_goals first | assumption | wp_step
            exact k _ _ _ made le kept
          | _ => exact hr2.elim
    | _ => exact hr.elim
end
def rSetOfI (K : PySem.W.Frag) (w : World) : List V → Hp → VK → Prop := fun xs H Q => ∃ (l : Addr) (ns : List Int), xs = [V.ref l] ∧ SqL K H l (ns.map V.int) ∧ ns.length ≤ 4000 ∧ ∀ p c, c ≤ ns.length → H p = none → Q (.ref p) (upd H p (SetO w p (fun j => decide (j ∈ ns)) c))
theorem cr_setOfI {X : Cx} (calm : X.calm = true) : CallR X (.type "set") (rSetOfI X.K X.w) := by
  intro pins s σ H xs us Q inv r h
  obtain ⟨l, ns, rfl, hq, hl, q⟩ := h
  cases r with
  | cons r rr =>
    cases rr
    cases r
    obtain ⟨its, vr, pl, _⟩ := inv.list hq
    refine set_from_list ns (inv.ok.hd calm) pl.isList (by simpa using RZ.intsAre_vals vr) (by unfold scanBound; omega) fun h' tk c made le kept => ?_
    exact ⟨.ref _, upd H s.heap.objs.size (SetO X.w s.heap.objs.size (fun j => decide (j ∈ ns)) c), inv.laid (t' := tk) kept (Nat.le_refl _) (setO_new made), rfl, q _ c le (inv.hok.fresh (Nat.le_refl _))⟩
end TS
namespace TS
open PySem PySem.Spec PyProof.Rows L2
section
variable {P : Program} {w : World} {K : PySem.W.Frag} {mg : Str → Option Value} {base : Heap}
def spCellAt (K : PySem.W.Frag) : Sp := fun vs H Q _ => ∃ (a : Addr) (ns : List Int) (k : Nat), vs = [.ref a, .int (k : Int)] ∧ IL K H a ns ∧ Q (.int (ns.getD k 0)) H
theorem ok_l_cell_at {f : Addr} {fd : FuncData} {n : Nat} (B : Bl mg) (F : Fun K "_law_cell_at" "_law_cell_at" s_l_cell_at f fd) : FnOk P w K mg base CX0 (n + 1) f fd ["_law_script", "_law_k"] (spCellAt K) := by
  refine F.ok sc_l_cell_at (fun vs H Q E h => ?_) (fun cdv A outer s H vs Q E hr h => ?_)
  · obtain ⟨a, ns, k, rfl, _⟩ := h
    rfl
  · obtain ⟨a, ns, k, rfl, hS, q⟩ := h
    refine ⟨_, (pss_cons (ps_if (pt_cmpR op_lt (pv 1) (pe_callB call_len_seq (by rfl) B.len PySem.boot_len (pa_cons (pv 0) pa_nil)) (nomark _))
  (pss_one (ps_ret (pe_ix ix_list (pv 0) (pv 1) (fun _ _ => rfl))))
  pss_nil)
 (pss_one (ps_ret pe_int))), ?_⟩
    refine ⟨_, rfl, _, rfl, a, _, rfl, .inl hS, _, _, rfl, rfl, _, rfl, ite2 (fun c => ?_) (fun c => ?_)⟩
    · have hk : k < ns.length := by
        have c' := of_decide_eq_true c
        rw [List.length_map] at c'
        omega
      exact ⟨_, rfl, _, rfl, a, _, _, _, rfl, rfl, hS, atI_nat (mapI_at (getD_at hk)), q⟩
    · have hk : ¬ k < ns.length := fun z => c (decide_eq_true (by rw [List.length_map]; omega))
      have e : ns.getD k 0 = 0 := by
        rw [List.getD_eq_getElem?_getD, List.getElem?_eq_none (by omega)]
        rfl
      rw [e] at q
      exact q
/-! drawn numbers -/
def primes : List Int := [1000003, 1000033, 1000037, 1000039, 1000081, 1000099, 1000117, 1000121, 1000133, 1000151, 1000159, 1000171, 1000183, 1000187, 1000193, 1000199]
def draw (c : Int) (k : Nat) (m : Int) : Int := (c * 48271 + (k : Int) * 69621) % primes.getD (k % 16) 1 % m
theorem draw_nonneg {c : Int} {k : Nat} {m : Int} (h : 0 < m) : 0 ≤ draw c k m := Int.emod_nonneg _ (by omega)
theorem draw_lt {c : Int} {k : Nat} {m : Int} (h : 0 < m) : draw c k m < m := Int.emod_lt_of_pos _ h
theorem primes_pos {j : Nat} (h : j < 16) : 0 < primes.getD j 1 := by
  have q : ∀ j : Fin 16, 0 < primes.getD j.val 1 := by decide +kernel
  exact q ⟨j, h⟩
def spDraw : Sp := fun vs H Q _ => ∃ (c m : Int) (k : Nat), vs = [.int c, .int (k : Int), .int m] ∧ 0 < m ∧ k < 1000000 ∧ ∀ H', Same H H' → Q (.int (draw c k m)) H'
theorem ok_l_draw {f : Addr} {fd : FuncData} {n : Nat} (B : Bl mg) (F : Fun K "_law_draw" "_law_draw" s_l_draw f fd) : FnOk P w K mg base CX0 (n + 1) f fd ["_law_cell", "_law_k", "_law_many"] spDraw := by
  refine F.ok sc_l_draw (fun vs H Q E h => ?_) (fun cdv A outer s H vs Q E hr h => ?_)
  · obtain ⟨c, m, k, rfl, _⟩ := h
    rfl
  · obtain ⟨c, m, k, rfl, hm, hk, q⟩ := h
    refine ⟨_, (pss_cons (ps_set (i := 3) sc_l_draw.nd rfl (.inl rfl) (pe_tup (pa_cons pe_int (pa_cons pe_int (pa_cons pe_int (pa_cons pe_int (pa_cons pe_int (pa_cons pe_int (pa_cons pe_int (pa_cons pe_int (pa_cons pe_int (pa_cons pe_int (pa_cons pe_int (pa_cons pe_int (pa_cons pe_int (pa_cons pe_int (pa_cons pe_int (pa_cons pe_int pa_nil))))))))))))))))))
 (pss_one (ps_ret (pe_op op_mod (pe_op op_mod (pe_op op_add (pe_op op_mul (pv 0) pe_int) (pe_op op_mul (pv 1) pe_int)) (pe_ix ix_tup (pv 3) (pe_op op_mod (pv 1) pe_int) (fun _ _ => rfl))) (pv 2))))), ?_⟩
    refine ⟨by show 16 ≤ sizeLine; decide, fun t ht => ?_⟩
    have hj : k % 16 < 16 := Nat.mod_lt _ (by decide)
    have ht2 : SqT K (upd H t (.tup (primes.map V.int))) t (primes.map V.int) := SqT.of upd_same
    have hat : atI (primes.map V.int) ((k : Int) % 16) = some (.int (primes.getD (k % 16) 1)) := by
      have e : ((k : Int) % 16) = ((k % 16 : Nat) : Int) := by omega
      rw [e]
      refine atI_nat (mapI_at ?_)
      rw [List.getD_eq_getElem?_getD, List.getElem?_eq_getElem (show k % 16 < primes.length from hj)]
      rfl
    refine ⟨_, rfl, _, _, rfl, rfl, .inr ⟨by decide, by decide⟩, _, rfl, _, _, rfl, rfl, .inr ⟨by decide, by decide⟩, _, _, rfl, rfl, _, rfl, _, rfl, _, _, rfl, rfl, (by show (0 : Int) < 16; decide), _, _, _, _, rfl, rfl, ht2, hat, _, _, rfl, rfl, primes_pos hj, _, rfl, _, _, rfl, rfl, hm, ?_⟩
    exact q _ (same_upd ht)
end
end TS
namespace TS
open PySem PySem.Spec PyProof.Rows L2
section
variable {P : Program} {w : World} {K : PySem.W.Frag} {mg : Str → Option Value} {base : Heap}
def spNoCols : Sp := fun vs H Q _ => ∃ n : Nat, vs = [.int (n : Int)] ∧ n ≤ 1000 ∧ ∀ H' p, Same H H' → H p = none → H' p = some (.lst ((tab f0 (n + 1)).map V.int)) → Q (.ref p) H'
theorem ok_ways_without_columns {f : Addr} {fd : FuncData} {n : Nat} (B : Bl mg) (F : Fun K "ways_without_columns" "ways_without_columns" s_ways_without_columns f fd) : FnOk P w K mg base CX0 (n + 1) f fd ["most"] spNoCols := by
  refine F.ok sc_ways_without_columns (fun vs H Q E h => ?_) (fun cdv A outer s H vs Q E hr h => ?_)
  · obtain ⟨n, rfl, _⟩ := h
    rfl
  · obtain ⟨n, rfl, hn, q⟩ := h
    refine ⟨_, (pss_one (ps_ret (pe_op op_cat (pe_lst (pa_cons pe_int pa_nil)) (pe_op op_rep (pe_lst (pa_cons pe_int pa_nil)) (pv 0))))), ?_⟩
    refine ⟨by show 1 ≤ sizeLine; decide, fun p1 n1 => ⟨by show 1 ≤ sizeLine; decide, fun p2 n2 => ?_⟩⟩
    have n21 : p1 ≠ p2 := ne_of_none upd_same n2
    refine ⟨_, rfl, p2, _, _, rfl, rfl, upd_same, by omega, by omega, ?_, fun p3 n3 => ?_⟩
    · show 1 * (n : Int).toNat ≤ sizeLine
      exact sz63 (by omega)
    have n32 : p2 ≠ p3 := ne_of_none upd_same n3
    have n31 : p1 ≠ p3 := ne_of_none (by rw [upd_ne n21]; exact upd_same) n3
    rw [rep_flat, Int.toNat_natCast]
    refine ⟨p1, p3, _, _, rfl, rfl, by rw [upd_ne n31, upd_ne n21]; exact upd_same, upd_same, ?_, fun p4 n4 => ?_⟩
    · show 1 + (List.replicate n (V.int 0)).length ≤ sizeLine
      rw [List.length_replicate]
      exact sz63 (by omega)
    refine q _ p4 ((same_upd n1).trans ((same_upd n2).trans ((same_upd n3).trans (same_upd n4)))) ?_ ?_
    · exact (((same_upd n1).trans ((same_upd n2).trans (same_upd n3)))).free n4
    · rw [upd_same, tab_f0, List.map_cons, List.map_replicate]
      rfl
def spAddCol : Sp := fun vs H Q _ => ∃ (a : Addr) (h : Int) (n e : Nat) (g : Nat → Int), vs = [.ref a, .int h] ∧ H a = some (.lst ((tab g (n + 1)).map V.int)) ∧ n ≤ 1000 ∧ 0 ≤ h ∧ h.natAbs < 2 ^ 209 ∧ 0 < e ∧ e ≤ 900000 ∧ (∀ k, (g k).natAbs < 2 ^ e) ∧
  Q .non (upd H a (.lst ((tab (stp g h) (n + 1)).map V.int)))
theorem ok_add_column {f : Addr} {fd : FuncData} {m : Nat} (B : Bl mg) (F : Fun K "add_column" "add_column" s_add_column f fd) : FnOk P w K mg base CX0 (m + 1) f fd ["ways", "height"] spAddCol := by
  refine F.ok sc_add_column (fun vs H Q E h => ?_) (fun cdv A outer s H vs Q E hr h => ?_)
  · obtain ⟨a, h, n, e, g, rfl, _⟩ := h
    rfl
  · obtain ⟨a, h, n, e, g, rfl, hA, hn, h0, hb, he0, he, hg, q⟩ := h
    refine ⟨_, (pss_one (ps_for PassesOwn.never rfl (pi_range3 rfl B.range (pa_cons (pe_callB (call_min2 rfl) (by rfl) B.min (by decide +kernel) (pa_cons (pe_op op_sub (pe_callB call_len_seq (by rfl) B.len PySem.boot_len (pa_cons (pv 0) pa_nil)) pe_int) (pa_cons (pv 1) pa_nil))) (pa_cons pe_int (pa_cons (pe_un un_neg pe_int) pa_nil)))) (pg_name (i := 2) sc_add_column.nd rfl (.inl rfl))
  (pss_one (ps_augS (pv 0) (pv 2) get_list (pe_op op_mulW (pe_ix ix_list (pv 0) (pe_op op_sub (pv 2) pe_int) (fun _ _ => rfl)) (pe_op op_add (pe_op op_sub (pv 1) (pv 2)) pe_int)) ip_add set_list)))), ?_⟩
    have hA' : SqL K H a ((tab g (n + 1)).map V.int) := .inl (.inl hA)
    obtain ⟨t, ht, ht2, ht3⟩ : ∃ t : Nat, (if h < (n : Int) then h else (n : Int)) = (t : Int) ∧ ((t : Int) = h ∨ n ≤ t) ∧ ((t : Int) ≤ h ∧ t ≤ n) := by
      by_cases c : h < (n : Int)
      · exact ⟨h.toNat, by rw [if_pos c]; omega, by omega, by omega, by omega⟩
      · exact ⟨n, by rw [if_neg c], by omega, by omega, by omega⟩
    have hlen : (((tab g (n + 1)).map V.int).length : Int) - 1 = (n : Int) := by
      rw [List.length_map, tab_len]
      omega
    refine ⟨_, rfl, a, _, rfl, .inl hA', _, _, rfl, rfl, _, rfl, _, _, rfl, ?_⟩
    rw [hlen, ht]
    refine ⟨_, rfl, _, _, _, _, rfl, RgC.neg (by omega) (by omega) (by omega) (by omega), for_rangeC (fun i σ H' => ∃ v, σ = [some (.ref a), some (.int h), v] ∧ H' = upd H a (.lst ((tab (mid g h t i) (n + 1)).map V.int)))
      ⟨none, rfl, by rw [mid_start ht2, upd_id hA]⟩ ?_ ?_⟩
    · rintro i σ H' hi ⟨v, rfl, rfl⟩
      have hi' : i < t := by omega
      obtain ⟨k, hk⟩ : ∃ k, k + 1 = t - i := ⟨t - i - 1, by omega⟩
      have ev : (t : Int) + (i : Int) * (-1) = ((k + 1 : Nat) : Int) := by omega
      have hS : SqL K (upd H a (.lst ((tab (mid g h t i) (n + 1)).map V.int))) a ((tab (mid g h t i) (n + 1)).map V.int) := SqL.of upd_same
      have g1 : ((tab (mid g h t i) (n + 1)).map V.int)[k + 1]? = some (.int (g (k + 1))) := by
        refine mapI_at ?_
        rw [tab_get (by omega), mid_at (by omega)]
      have g0 : ((tab (mid g h t i) (n + 1)).map V.int)[k]? = some (.int (g k)) := by
        refine mapI_at ?_
        rw [tab_get (by omega), mid_at (by omega)]
      rw [ev]
      refine ⟨_, rfl, _, rfl, a, _, _, _, rfl, rfl, hS, atI_nat g1, _, rfl, _, rfl, _, _, rfl, rfl, a, _, _, _, rfl, rfl, hS, at_of (by show ((k + 1 : Nat) : Int) - 1 = (k : Int); omega) g0, _, rfl, _, rfl, _, _, rfl, rfl, _, _, rfl, rfl, _, _, rfl, rfl, ?_, _, _, rfl, rfl, a, _, _, k + 1, rfl, rfl, upd_same, ?_, ?_⟩
      · refine wide_mul (hg k) (b := 210) ?_ he0 (by omega) (by omega)
        have : (2 : Nat) ^ 210 = 2 ^ 209 * 2 := rfl
        omega
      · unfold ixN
        rw [List.length_map, tab_len, if_pos (by omega), if_pos (by omega), Int.toNat_natCast]
      · refine ⟨_, rfl, ?_⟩
        rw [upd_upd, ← mid_turn ht3.1 hi' hk, List.map_set]
        rw [show h - ((k + 1 : Nat) : Int) + 1 = h - (k : Int) by omega]
    · rintro σ H' ⟨v, rfl, rfl⟩
      rw [show ((t : Int) - 0).toNat = t by omega, mid_end]
      exact q
end
end TS
namespace TS
open PySem PySem.Spec PyProof.Rows L2
/-- heights that are not too high, not too many -/
structure Good (hs : List Int) : Prop where
  rise : Rise hs
  pos : Pos0 hs
  low : ∀ x ∈ hs, x + 1 ≤ 2 ^ 208
  len : hs.length ≤ 100
theorem Good.b {hs : List Int} (g : Good hs) : ∀ x ∈ hs, 0 ≤ x ∧ x + 1 ≤ 2 ^ 208 := fun x hx => ⟨g.pos x hx, g.low x hx⟩
theorem cnt_take {hs : List Int} (g : Good hs) (i k : Nat) : (cntF (hs.take i) k).natAbs < 2 ^ (208 * 100 + 1) := by
  have q := cnt_abs (hs := hs.take i) (fun x hx => g.b x (List.mem_of_mem_take hx)) k
  refine pow_up q ?_
  have := g.len
  rw [List.length_take]
  omega
section
variable {P : Program} {w : World} {K : PySem.W.Frag} {mg : Str → Option Value} {base : Heap}
def spUpTo (K : PySem.W.Frag) : Sp := fun vs H Q _ => ∃ (a : Addr) (hs : List Int) (n : Nat), vs = [.ref a, .int (n : Int)] ∧ IL K H a hs ∧ Good hs ∧ n ≤ 1000 ∧
  ∀ H' p, Same H H' → H p = none → H' p = some (.lst ((tab (cntF hs) (n + 1)).map V.int)) → Q (.ref p) H'
theorem ok_ways_up_to {f fW fA : Addr} {fd fdW fdA : FuncData} {m : Nat} (B : Bl mg) (Dways_without_columns : Df P w K mg base "ways_without_columns" (m + 1) ["most"] spNoCols fW fdW) (Dadd_column : Df P w K mg base "add_column" (m + 1) ["ways", "height"] spAddCol fA fdA)
    (F : Fun K "ways_up_to" "ways_up_to" s_ways_up_to f fd) : FnOk P w K mg base CX0 (m + 1 + 1) f fd ["stairs", "most"] (spUpTo K) := by
  refine F.ok sc_ways_up_to (fun vs H Q E h => ?_) (fun cdv A outer s H vs Q E hr h => ?_)
  · obtain ⟨a, hs, n, rfl, _⟩ := h
    rfl
  · obtain ⟨a, hs, n, rfl, hS, G, hn, q⟩ := h
    refine ⟨_, (pss_cons (ps_set (i := 2) sc_ways_up_to.nd rfl (.inl rfl) (pe_call Dways_without_columns.ok (hr.mono (Nat.le_refl _)) (by rfl) Dways_without_columns.g Dways_without_columns.kp Dways_without_columns.b .nil pass0 (pa_cons (pv 1) pa_nil)))
 (pss_cons (ps_for PassesOwn.never rfl (pi_list (pv 0)) (pg_name (i := 3) sc_ways_up_to.nd rfl (.inl rfl))
  (pss_one (ps_expr (pe_call Dadd_column.ok (hr.mono (Nat.le_refl _)) (by rfl) Dadd_column.g Dadd_column.kp Dadd_column.b .nil pass0 (pa_cons (pv 2) (pa_cons (pv 3) pa_nil))))))
 (pss_one (ps_ret (pv 2))))), ?_⟩
    refine ⟨_, rfl, n, rfl, hn, fun H1 p s1 np hp => ?_⟩
    have st : ∀ o : HO, SqL K (upd H1 p o) a (hs.map V.int) := fun o => (same_mut s1 np).seq hS
    refine ⟨_, rfl, a, rfl, ⟨_, s1.seq hS⟩, for_list (K := K) (a := a) (xs := hs.map V.int) (fun i σ H' => ∃ v, σ = [some (.ref a), some (.int (n : Int)), some (.ref p), v] ∧ H' = upd H1 p (.lst ((tab (cntF (hs.take i)) (n + 1)).map V.int)))
      ⟨none, rfl, (upd_id hp).symm⟩ (fun i σ H' _ ⟨_, _, e⟩ => by rw [e]; exact st _) ?_ ?_⟩
    · rintro i x σ H' hi ⟨v, rfl, rfl⟩
      obtain ⟨h, rfl, hh⟩ := mapI_get hi
      have hm : h ∈ hs := List.mem_of_getElem? hh
      have b := G.b h hm
      refine ⟨_, rfl, _, rfl, p, h, n, 208 * 100 + 1, cntF (hs.take i), rfl, upd_same, hn, b.1, ?_, by decide, by decide, cnt_take G i, ?_⟩
      · have : (2 : Int) ^ 208 = ((2 ^ 208 : Nat) : Int) := rfl
        have h2 : (2 : Nat) ^ 209 = 2 ^ 208 * 2 := rfl
        omega
      · refine ⟨some (.int h), rfl, ?_⟩
        rw [upd_upd, cntF_take hh]
    · rintro σ H' ⟨v, rfl, rfl⟩
      rw [List.length_map, List.take_length]
      exact ⟨_, rfl, q _ p (same_mut s1 np) np upd_same⟩
end
end TS
namespace TS
open PySem PySem.Spec PyProof.Rows L2
section
variable {P : Program} {w : World} {K : PySem.W.Frag} {mg : Str → Option Value} {base : Heap}
def spWhole : Sp := fun vs H Q _ => ∃ i : Int, vs = [.int i] ∧ Q (.bl true) H
theorem ok_l_whole {f : Addr} {fd : FuncData} {m : Nat} (B : Bl mg) (F : Fun K "_law_whole" "_law_whole" s_l_whole f fd) : FnOk P w K mg base CX0 (m + 1) f fd ["_law_number"] spWhole := by
  refine F.ok sc_l_whole (fun vs H Q E h => ?_) (fun cdv A outer s H vs Q E hr h => ?_)
  · obtain ⟨i, rfl, _⟩ := h
    rfl
  · obtain ⟨i, rfl, q⟩ := h
    refine ⟨_, (pss_one (ps_ret (pe_and (pe_callB call_isi (by rfl) B.isinstance (by decide +kernel) (pa_cons (pv 0) (pa_cons (pe_bltn (v := .ty "int") (by rfl) B.int PyProof.Rows.boot_int rfl) pa_nil))) (pe_one (pe_not (pe_callB call_isi (by rfl) B.isinstance (by decide +kernel) (pa_cons (pv 0) (pa_cons (pe_bltn (v := .ty "bool") (by rfl) B.bool PyProof.Rows.boot_bool rfl) pa_nil)))))))), ?_⟩
    exact ⟨_, rfl, _, _, _, _, true, rfl, .ty _, .base (.int i), kit_ty (by decide +kernel), true, rfl, iteT ⟨_, rfl, _, _, _, _, false, rfl, .ty _, .base (.int i), kit_ty (by decide +kernel), false, rfl, q⟩⟩
def spIsCount : Sp := fun vs H Q _ => ∃ i : Int, vs = [.int i] ∧ Q (.bl (decide (0 ≤ i))) H
theorem ok_is_count {f : Addr} {fd : FuncData} {m : Nat} (B : Bl mg) (F : Fun K "is_count" "is_count" s_is_count f fd) : FnOk P w K mg base CX0 (m + 1) f fd ["value"] spIsCount := by
  refine F.ok sc_is_count (fun vs H Q E h => ?_) (fun cdv A outer s H vs Q E hr h => ?_)
  · obtain ⟨i, rfl, _⟩ := h
    rfl
  · obtain ⟨i, rfl, q⟩ := h
    refine ⟨_, (pss_one (ps_ret (pe_and (pe_callB call_isi (by rfl) B.isinstance (by decide +kernel) (pa_cons (pv 0) (pa_cons (pe_bltn (v := .ty "int") (by rfl) B.int PyProof.Rows.boot_int rfl) pa_nil))) (pe_and (pe_not (pe_callB call_isi (by rfl) B.isinstance (by decide +kernel) (pa_cons (pv 0) (pa_cons (pe_bltn (v := .ty "bool") (by rfl) B.bool PyProof.Rows.boot_bool rfl) pa_nil)))) (pe_one (pe_cmpR op_ge (pv 0) pe_int (nomark _))))))), ?_⟩
    exact ⟨_, rfl, _, _, _, _, true, rfl, .ty _, .base (.int i), kit_ty (by decide +kernel), true, rfl, iteT ⟨_, rfl, _, _, _, _, false, rfl, .ty _, .base (.int i), kit_ty (by decide +kernel), false, rfl, true, rfl, iteT ⟨_, rfl, _, _, rfl, rfl, q⟩⟩⟩
def spIsStairs : Sp := fun vs H Q _ => ∃ (a : Addr) (hs : List Int), vs = [.ref a] ∧ H a = some (.lst (hs.map V.int)) ∧ Rise hs ∧ Pos0 hs ∧ Q (.bl true) H
theorem ok_is_stairs {f fC : Addr} {fd fdC : FuncData} {m : Nat} (B : Bl mg) (Dis_count : Df P w K mg base "is_count" (m + 1) ["value"] spIsCount fC fdC) (F : Fun K "is_stairs" "is_stairs" s_is_stairs f fd) :
    FnOk P w K mg base CX0 (m + 1 + 1) f fd ["stairs"] spIsStairs := by
  refine F.ok sc_is_stairs (fun vs H Q E h => ?_) (fun cdv A outer s H vs Q E hr h => ?_)
  · obtain ⟨a, hs, rfl, _⟩ := h
    rfl
  · obtain ⟨a, hs, rfl, hA, rise, pos, q⟩ := h
    refine ⟨_, (pss_cons (ps_if (pt_not (pt_val (pe_callB call_isi (by rfl) B.isinstance (by decide +kernel) (pa_cons (pv 0) (pa_cons (pe_bltn (v := .ty "list") (by rfl) B.list PyProof.Rows.boot_list rfl) pa_nil)))))
  (pss_one (ps_ret pe_bl))
  pss_nil)
 (pss_cons (ps_set (i := 1) sc_is_stairs.nd rfl (.inl rfl) pe_int)
 (pss_cons (ps_for PassesOwn.never rfl (pi_list (pv 0)) (pg_name (i := 2) sc_is_stairs.nd rfl (.inl rfl))
  (pss_cons (ps_if (PW.pt (pw_or (pt_not (pt_val (pe_call Dis_count.ok (hr.mono (Nat.le_refl _)) (by rfl) Dis_count.g Dis_count.kp Dis_count.b .nil pass0 (pa_cons (pv 2) pa_nil)))) (pw_or1 (pt_cmpR op_lt (pv 2) (pv 1) (nomark _)))))
  (pss_one (ps_ret pe_bl))
  pss_nil)
 (pss_one (ps_set (i := 1) sc_is_stairs.nd rfl (.inl rfl) (pv 2)))))
 (pss_one (ps_ret pe_bl))))), ?_⟩
    refine ⟨_, rfl, _, _, _, _, true, rfl, .ty _, .base (.lst hA), kit_ty (by decide +kernel), true, rfl, iteF ?_⟩
    refine ⟨_, rfl, a, rfl, ⟨_, SqL.of hA⟩, for_list (K := K) (a := a) (xs := hs.map V.int) (fun i σ H' => ∃ (z : Int) (v : Option V), σ = [some (.ref a), some (.int z), v] ∧ H' = H ∧ ∀ x, hs[i]? = some x → z ≤ x)
      ⟨0, none, rfl, rfl, fun x hx => pos x (List.mem_of_getElem? hx)⟩ (fun i σ H' _ ⟨_, _, _, e, _⟩ => by rw [e]; exact SqL.of hA) ?_ ?_⟩
    · rintro i x σ H' hi ⟨z, v, rfl, rfl, hz⟩
      obtain ⟨h, rfl, hh⟩ := mapI_get hi
      have h0 : 0 ≤ h := pos h (List.mem_of_getElem? hh)
      have hz' := hz h hh
      refine ⟨_, rfl, h, rfl, _, rfl, ?_⟩
      rw [decide_eq_true h0]
      refine iteF ?_
      refine ⟨_, rfl, _, rfl, _, _, rfl, rfl, _, rfl, ?_⟩
      rw [decide_eq_false (by omega)]
      refine iteF ?_
      refine ⟨_, rfl, h, some (.int h), rfl, rfl, fun x hx => rise i (i + 1) h x (by omega) hh hx⟩
    · rintro σ H' ⟨z, v, rfl, rfl, _⟩
      exact q
def spCheck : Sp := fun vs H Q _ => ∃ (a : Addr) (hs : List Int), vs = [.ref a] ∧ H a = some (.lst (hs.map V.int)) ∧ Rise hs ∧ Pos0 hs ∧ Q .non H
theorem ok_check_stairs {f fC : Addr} {fd fdC : FuncData} {m : Nat} (B : Bl mg) (Dis_stairs : Df P w K mg base "is_stairs" (m + 1) ["stairs"] spIsStairs fC fdC) (F : Fun K "check_stairs" "check_stairs" s_check_stairs f fd) :
    FnOk P w K mg base CX0 (m + 1 + 1) f fd ["stairs"] spCheck := by
  refine F.ok sc_check_stairs (fun vs H Q E h => ?_) (fun cdv A outer s H vs Q E hr h => ?_)
  · obtain ⟨a, hs, rfl, _⟩ := h
    rfl
  · obtain ⟨a, hs, rfl, hA, rise, pos, q⟩ := h
    refine ⟨_, (pss_one (ps_if (pt_not (pt_val (pe_call Dis_stairs.ok (hr.mono (Nat.le_refl _)) (by rfl) Dis_stairs.g Dis_stairs.kp Dis_stairs.b .nil pass0 (pa_cons (pv 0) pa_nil))))
  (pss_one ps_never)
  pss_nil)), ?_⟩
    exact ⟨_, rfl, a, hs, rfl, hA, rise, pos, true, rfl, iteF q⟩
end
end TS
namespace TS
open PySem PySem.Spec PyProof.Rows L2
section
variable {P : Program} {w : World} {K : PySem.W.Frag} {mg : Str → Option Value} {base : Heap}
def spLCounts (K : PySem.W.Frag) : Sp := fun vs H Q _ => ∃ (a : Addr) (hs : List Int), vs = [.ref a] ∧ IL K H a hs ∧ Good hs ∧
  ∀ H' p, Same H H' → H p = none → H' p = some (.lst ((tab (cntF hs) (hs.length + 1)).map V.int)) → Q (.ref p) H'
theorem ok_l_counts {f : Addr} {fd : FuncData} {m : Nat} (B : Bl mg) (F : Fun K "_law_counts" "_law_counts" s_l_counts f fd) : FnOk P w K mg base CX0 (m + 1) f fd ["_law_stairs_here"] (spLCounts K) := by
  refine F.ok sc_l_counts (fun vs H Q E h => ?_) (fun cdv A outer s H vs Q E hr h => ?_)
  · obtain ⟨a, hs, rfl, _⟩ := h
    rfl
  · obtain ⟨a, hs, rfl, hS, G, q⟩ := h
    refine ⟨_, (pss_cons (ps_set (i := 1) sc_l_counts.nd rfl (.inl rfl) (pe_op op_cat (pe_lst (pa_cons pe_int pa_nil)) (pe_op op_rep (pe_lst (pa_cons pe_int pa_nil)) (pe_callB call_len_seq (by rfl) B.len PySem.boot_len (pa_cons (pv 0) pa_nil)))))
 (pss_cons (ps_for PassesOwn.never rfl (pi_enum (by rfl) B.enumerate (pa_cons (pv 0) pa_nil)) (pg_tup rfl (pgs_cons (pg_name (i := 2) sc_l_counts.nd rfl (.inl rfl)) (pgs_cons (pg_name (i := 3) sc_l_counts.nd rfl (.inl rfl)) pgs_nil)))
  (pss_one (ps_for PassesOwn.never rfl (pi_revR (by rfl) B.reversed (prg_1 (by rfl) B.range (pe_op op_add (pv 2) pe_int))) (pg_name (i := 4) sc_l_counts.nd rfl (.inl rfl))
  (pss_one (ps_if (pt_cmpR op_gt (pv 3) (pv 4) (nomark _))
  (pss_cons (ps_set (i := 5) sc_l_counts.nd rfl (.inl rfl) (pe_op op_mulW (pe_ix ix_list (pv 1) (pv 4) (fun _ _ => rfl)) (pe_op op_sub (pv 3) (pv 4))))
 (pss_one (ps_asg (pe_op op_add (pe_ix ix_list (pv 1) (pe_op op_add (pv 4) pe_int) (fun _ _ => rfl)) (pv 5)) (pg_sub (pv 1) (pe_op op_add (pv 4) pe_int) set_list))))
  pss_nil)))))
 (pss_one (ps_ret (pv 1))))), ?_⟩
    have hl := G.len
    have elen : (((hs.map V.int).length : Nat) : Int).toNat = hs.length := by rw [List.length_map, Int.toNat_natCast]
    refine ⟨by show 1 ≤ sizeLine; decide, fun p1 n1 => ⟨by show 1 ≤ sizeLine; decide, fun p2 n2 => ?_⟩⟩
    have n21 : p1 ≠ p2 := ne_of_none upd_same n2
    have s2 := (same_upd (o := .lst [.int 1]) n1).trans (same_upd (o := .lst [.int 0]) n2)
    refine ⟨_, rfl, a, _, rfl, .inl (s2.seq hS), p2, _, _, rfl, rfl, upd_same, by omega, by rw [List.length_map]; omega, ?_, fun p3 n3 => ?_⟩
    · rw [elen]
      show 1 * hs.length ≤ sizeLine
      exact sz63 (by omega)
    have n32 : p2 ≠ p3 := ne_of_none upd_same n3
    have n31 : p1 ≠ p3 := ne_of_none (by rw [upd_ne n21]; exact upd_same) n3
    rw [rep_flat, elen]
    refine ⟨p1, p3, _, _, rfl, rfl, by rw [upd_ne n31, upd_ne n21]; exact upd_same, upd_same, ?_, fun p n4 => ?_⟩
    · show 1 + (List.replicate hs.length (V.int 0)).length ≤ sizeLine
      rw [List.length_replicate]
      exact sz63 (by omega)
    have np : H p = none := (s2.trans (same_upd n3)).free n4
    have s4 := (s2.trans (same_upd n3)).trans (same_upd (o := .lst ([V.int 1] ++ List.replicate hs.length (V.int 0))) n4)
    refine ⟨_, rfl, a, _, rfl, s4.seq hS, for_enum (K := K) (a := a) (xs := hs.map V.int) (fun i σ H' => ∃ (u v t z : Option V), σ = [some (.ref a), some (.ref p), u, v, t, z] ∧ Same H H' ∧ H' p = some (.lst ((tab (cntF (hs.take i)) (hs.length + 1)).map V.int)))
      ⟨none, none, none, none, rfl, s4, ?_⟩ (fun i σ H' _ ⟨_, _, _, _, _, e, _⟩ => e.seq hS) ?_ ?_⟩
    · rw [upd_same, List.take_zero, cntF_nil, tab_f0, List.map_cons, List.map_replicate]
      rfl
    · rintro i y T σ H' hi ⟨u, v, t, z, rfl, sm, hp⟩ nT
      obtain ⟨h, rfl, hh⟩ := mapI_get hi
      have hlt : i < hs.length := (List.getElem?_eq_some_iff.mp hh).1
      have nTp : p ≠ T := ne_of_none hp nT
      refine ⟨T, _, rfl, SqT.of upd_same, rfl, _, _, rfl, _, _, rfl, rfl, ?_⟩
      have e1 : ((0 : Int) + ((((i : Nat) : Int) + 1 - 0).toNat : Nat) - 1) = (i : Int) := by omega
      have e2 : (((i : Nat) : Int) + 1 - 0).toNat = i + 1 := by omega
      refine ⟨_, rfl, _, _, rfl, rfl, _, rfl, by omega, by omega, by omega, by omega, ?_⟩
      rw [e1, e2]
      refine for_rangeC (fun j σ H' => ∃ (t z : Option V), σ = [some (.ref a), some (.ref p), some (.int (i : Int)), some (.int h), t, z] ∧ Same H H' ∧ H' p = some (.lst ((tab (mid (cntF (hs.take i)) h (i + 1) j) (hs.length + 1)).map V.int))) ⟨t, z, rfl, sm.trans (same_upd nT), ?_⟩ ?_ ?_
      · rw [upd_ne nTp, hp, mid_start2]
        intro k hk
        exact cntF_gt _ _ (by rw [List.length_take]; omega)
      · rintro j σ H2 hj ⟨t, z, rfl, sm2, hp2⟩
        obtain ⟨k, hk⟩ : ∃ k, k + 1 = i + 1 - j := ⟨i - j, by omega⟩
        have ek : (i : Int) + (j : Int) * (-1) = (k : Int) := by omega
        rw [ek]
        refine ⟨_, rfl, _, rfl, _, _, rfl, rfl, _, rfl, ite2 (fun c => ?_) (fun c => ?_)⟩
        · have c' : (k : Int) < h := of_decide_eq_true c
          have g1 : ((tab (mid (cntF (hs.take i)) h (i + 1) j) (hs.length + 1)).map V.int)[k + 1]? = some (.int (cntF (hs.take i) (k + 1))) := by
            refine mapI_at ?_
            rw [tab_get (by omega), mid_at (by omega)]
          have g0 : ((tab (mid (cntF (hs.take i)) h (i + 1) j) (hs.length + 1)).map V.int)[k]? = some (.int (cntF (hs.take i) k)) := by
            refine mapI_at ?_
            rw [tab_get (by omega), mid_at (by omega)]
          have b := G.b h (List.mem_of_getElem? hh)
          refine ⟨_, rfl, _, rfl, p, _, _, _, rfl, rfl, SqL.of hp2, atI_nat g0, _, rfl, _, rfl, _, _, rfl, rfl, _, _, rfl, rfl, ?_, ?_⟩
          · refine wide_mul (cnt_take G i k) (b := 210) ?_ (by decide) (by decide) (by decide)
            have h2 : (2 : Int) ^ 208 = ((2 ^ 208 : Nat) : Int) := rfl
            have h3 : (2 : Nat) ^ 210 = 2 ^ 208 * 4 := rfl
            omega
          · have ek1 : (k : Int) + 1 = ((k + 1 : Nat) : Int) := by omega
            refine ⟨_, rfl, _, rfl, _, _, rfl, rfl, p, _, _, _, rfl, rfl, SqL.of hp2, at_of ek1 g1, _, rfl, _, _, rfl, rfl, _, rfl, _, rfl, _, _, rfl, rfl, p, _, _, k + 1, rfl, rfl, hp2, ?_, ?_⟩
            · unfold ixN
              rw [List.length_map, tab_len, if_pos (by omega), if_pos (by omega)]
              congr 1
            · refine ⟨_, _, rfl, same_mut sm2 np, ?_⟩
              rw [upd_same, ← mid_set (by omega) hk c', List.map_set]
        · have c' : ¬ (k : Int) < h := fun z => c (decide_eq_true z)
          refine ⟨_, _, rfl, sm2, ?_⟩
          rw [hp2, mid_skip (by omega) hk c']
      · rintro σ H2 ⟨t, z, rfl, sm2, hp2⟩
        refine ⟨_, _, _, _, rfl, sm2, ?_⟩
        rw [hp2, mid_end, cntF_take hh]
    · rintro σ H' ⟨u, v, t, z, rfl, sm, hp⟩
      rw [List.length_map, List.take_length] at hp
      exact ⟨_, rfl, q H' p sm np hp⟩
end
end TS
namespace TS
open PySem PySem.Spec PyProof.Rows L2
theorem cut_to (xs : List V) (n : Nat) : cutV xs none (some (n : Int)) = xs.take n := by
  unfold cutV
  rw [HT.sIx_none, HT.sIx_nat, Nat.sub_zero]
  show (List.drop 0 xs).take (min n xs.length) = xs.take n
  rw [List.drop_zero, List.take_eq_take_iff]
  omega
theorem Good.of {n : Nat} {hs : List Int} (g : GoodS n hs) : Good hs := by
  have b : (10 : Int) ^ 59 + 1 ≤ 2 ^ 208 := by decide
  refine ⟨g.rise, g.pos, fun x hx => ?_, ?_⟩
  · have := g.low x hx
    omega
  · have := g.len
    omega
section
variable {P : Program} {w : World} {K : PySem.W.Frag} {mg : Str → Option Value} {base : Heap}
def spStairs (K : PySem.W.Frag) : Sp := fun vs H Q _ => ∃ (a : Addr) (ns : List Int), vs = [.ref a] ∧ IL K H a ns ∧
  ∀ hs H' p, GoodS ns.length hs → Same H H' → H p = none → H' p = some (.lst (hs.map V.int)) → Q (.ref p) H'
theorem ok_l_stairs {f fC fD : Addr} {fd fdC fdD : FuncData} {m : Nat} (B : Bl mg) (Dl_cell_at : Df P w K mg base "_law_cell_at" (m + 1) ["_law_script", "_law_k"] (spCellAt K) fC fdC)
    (Dl_draw : Df P w K mg base "_law_draw" (m + 1) ["_law_cell", "_law_k", "_law_many"] spDraw fD fdD)
    (F : Fun K "_law_stairs" "_law_stairs" s_l_stairs f fd) : FnOk P w K mg base CX0 (m + 1 + 1) f fd ["_law_script"] (spStairs K) := by
  refine F.ok sc_l_stairs (fun vs H Q E h => ?_) (fun cdv A outer s H vs Q E hr h => ?_)
  · obtain ⟨a, ns, rfl, _⟩ := h
    rfl
  · obtain ⟨a, ns, rfl, hS, q⟩ := h
    refine ⟨_, (pss_cons (ps_set (i := 0) sc_l_stairs.nd rfl (.inr rfl) (pe_slice sl_list (pv 0) po_none (po_some pe_int)))
 (pss_cons (ps_par (i := 1) (j := 2) rfl sc_l_stairs.nd rfl rfl (by decide) rfl rfl (pa_cons (pe_call Dl_draw.ok (hr.mono (Nat.le_refl _)) (by rfl) Dl_draw.g Dl_draw.kp Dl_draw.b .nil pass0 (pa_cons (pe_call Dl_cell_at.ok (hr.mono (Nat.le_refl _)) (by rfl) Dl_cell_at.g Dl_cell_at.kp Dl_cell_at.b .nil pass0 (pa_cons (pv 0) (pa_cons pe_int pa_nil))) (pa_cons pe_int (pa_cons pe_int pa_nil)))) (pa_cons (pe_callB call_len_seq (by rfl) B.len PySem.boot_len (pa_cons (pv 0) pa_nil)) pa_nil)) (by rfl))
 (pss_cons (ps_if (pt_cmpR op_eq (pv 1) pe_int (nomark _))
  (pss_one (ps_ret (pe_callB cr_sorted (by rfl) B.sorted (by decide +kernel) (pa_cons (pe_lc (own := [("_law_cell", 5)]) (g := gName 5) (tt := tYes) rfl sc_l_stairs.nd (pi_list (pv 0)) (blkOk_by (N := N_l_stairs) (sc := defScope s_l_stairs) (by decide +kernel)) (fun _ _ _ _ _ => pg_name (i := 5) sc_l_stairs.nd rfl (Or.inl rfl)) (fun _ _ _ _ _ => pts_nil) (fun _ _ _ _ _ => (pe_op op_mod (pe_op op_fdiv (pv 5) pe_int) (pe_op op_pow pe_int pe_int)))) pa_nil))))
  pss_nil)
 (pss_cons (ps_set (i := 3) sc_l_stairs.nd rfl (.inr rfl) (pe_ix ix_tup (pe_tup (pa_cons pe_int (pa_cons (pe_op op_add (pv 2) pe_int) (pa_cons pe_int (pa_cons (pe_op op_add (pe_op op_mul pe_int (pv 2)) pe_int) (pa_cons (pe_op op_add (pe_op op_fdiv (pv 2) pe_int) pe_int) pa_nil)))))) (pv 1) (fun _ _ => rfl)))
 (pss_cons (ps_set (i := 4) sc_l_stairs.nd rfl (.inl rfl) (pe_callB cr_sorted (by rfl) B.sorted (by decide +kernel) (pa_cons (pe_lc (own := [("_law_k", 6)]) (g := gName 6) (tt := tYes) rfl sc_l_stairs.nd (pi_range1 rfl B.range (pa_cons (pv 2) pa_nil)) (blkOk_by (N := N_l_stairs) (sc := defScope s_l_stairs) (by decide +kernel)) (fun _ _ _ _ _ => pg_name (i := 6) sc_l_stairs.nd rfl (Or.inl rfl)) (fun _ _ _ _ _ => pts_nil) (fun _ _ _ _ _ => (pe_call Dl_draw.ok (hr.mono (Nat.le_refl _)) (by rfl) Dl_draw.g Dl_draw.kp Dl_draw.b .nil pass0 (pa_cons (pe_ix ixLK (pv 0) (pv 6) (fun _ _ => rfl)) (pa_cons (pe_op op_add (pe_op op_mod (pv 6) pe_int) pe_int) (pa_cons (pv 3) pa_nil)))))) pa_nil)))
 (pss_cons (ps_if (pt_cmpR op_eq (pv 1) pe_int (nomark _))
  (pss_one (ps_setLc (i := 4) (own := [("_law_k", 6), ("_law_height", 7)]) (g := gTup K 2 (gCons (gName 6) (gCons (gName 7) (gNil)))) (tt := tYes) rfl sc_l_stairs.nd rfl rfl (sw_true rfl rfl rfl (by decide +kernel)) (pi_enum (by rfl) B.enumerate (pa_cons (pv 4) pa_nil)) (blkOk_by (N := N_l_stairs) (sc := defScope s_l_stairs) (by decide +kernel)) (fun _ _ _ _ _ => pg_tup rfl (pgs_cons (pg_name (i := 6) sc_l_stairs.nd rfl (.inl rfl)) (pgs_cons (pg_name (i := 7) sc_l_stairs.nd rfl (.inl rfl)) pgs_nil))) (fun _ _ _ _ _ => pts_nil) (fun _ _ _ _ _ => (pe_op op_add (pv 7) (pv 6)))))
  pss_nil)
 (pss_one (ps_ret (pv 4))))))))), ?_⟩
    refine ⟨_, rfl, (63 : Int), rfl, a, _, rfl, hS, fun c nc => ?_⟩
    rw [show cutV (ns.map V.int) none (some (63 : Int)) = (ns.take 63).map V.int by rw [List.map_take]; exact cut_to _ 63]
    obtain ⟨ms, hms⟩ : ∃ ms, ms = ns.take 63 := ⟨_, rfl⟩
    rw [← hms]
    have hml : ms.length = min 63 ns.length := by rw [hms, List.length_take]
    have s1 : Same H (upd H c (.lst (ms.map V.int))) := same_upd nc
    have hc : (upd H c (.lst (ms.map V.int))) c = some (.lst (ms.map V.int)) := upd_same
    revert s1 hc
    generalize upd H c (.lst (ms.map V.int)) = H1
    intro s1 hc
    refine ⟨_, rfl, c, ms, 0, rfl, il_of hc, _, 5, 6, rfl, by decide, by decide, fun H2 s2 => ?_⟩
    have hc2 : H2 c = some (.lst (ms.map V.int)) := s2 _ _ hc
    have sm := s1.trans s2
    have d0 := draw_nonneg (c := ms.getD 0 0) (k := 6) (m := 5) (by decide)
    have d1 := draw_lt (c := ms.getD 0 0) (k := 6) (m := 5) (by decide)
    revert d0 d1
    generalize draw (ms.getD 0 0) 6 5 = kind
    intro d0 d1
    have hml2 : (((ms.map V.int).length : Nat) : Int) = (ms.length : Int) := by rw [List.length_map]
    refine ⟨_, rfl, c, _, rfl, .inl (SqL.of hc2), _, _, rfl, ?_⟩
    rw [hml2]
    refine ⟨_, rfl, rfl, _, rfl, ite2 (fun e => ?_) (fun e => ?_)⟩
    · -- the numbers themselves
      refine ⟨_, rfl, c, rfl, ⟨_, SqL.of hc2⟩, fun L nL => lc_list (K := K) (a := c) (xs := ms.map V.int) (fun i H' => Same H2 H' ∧ H' L = some (.lst (((ms.map fun x => x / 5 % 10 ^ 59).take i).map V.int)))
        ⟨same_upd nL, upd_same⟩ (fun i H' _ p => p.1.seq (SqL.of hc2)) ?_ ?_⟩
      · rintro i x H' hi ⟨s3, hL⟩
        obtain ⟨n, rfl, hn⟩ := mapI_get hi
        refine ⟨rfl, _, rfl, _, _, rfl, rfl, ⟨by decide, by decide⟩, _, _, rfl, rfl, ⟨by decide, by decide, by decide⟩, _, _, rfl, rfl, (by show (0 : Int) < 10 ^ 59; decide), _, hL, ?_, same_mut s3 nL, ?_⟩
        · rw [List.length_map, List.length_take, List.length_map]
          exact sz63' (by omega)
        · rw [upd_same, List.take_add_one, List.getElem?_map, hn, List.map_append]
          rfl
      · rintro H' ⟨s3, hL⟩
        rw [List.length_map, List.take_of_length_le (by rw [List.length_map]; omega)] at hL
        refine ⟨L, _, rfl, SqL.of hL, by rw [List.length_map]; omega, fun hs p hp hw np => ?_⟩
        exact q hs _ p (goodS_mod hp hw hml) (sm.trans (s3.trans (same_upd np))) ((sm.trans s3).free np) upd_same
    · -- the menu
      obtain ⟨mo, m0, m3, hmo⟩ := most_menu (n := (ms.length : Int)) d0 d1 (by omega) (by omega)
      refine ⟨_, rfl, _, _, rfl, rfl, _, rfl, _, _, rfl, rfl, .inl ⟨by decide, by decide⟩, _, _, rfl, rfl, _, rfl, _, _, rfl, rfl, ⟨by decide, by decide⟩, _, _, rfl, rfl, by show 5 ≤ sizeLine; decide, fun t nt => ?_⟩
      have ht : SqT K (upd H2 t (.tup ([(1 : Int), (ms.length : Int) + 3, 4, 3 * (ms.length : Int) + 2, (ms.length : Int) / 2 + 2].map V.int))) t ([(1 : Int), (ms.length : Int) + 3, 4, 3 * (ms.length : Int) + 2, (ms.length : Int) / 2 + 2].map V.int) := SqT.of upd_same
      refine ⟨_, rfl, t, _, _, _, rfl, rfl, ht, at_of (j := kind.toNat) (by omega) (mapI_at hmo), ?_⟩
      have sm3 : Same H2 (upd H2 t (.tup ([(1 : Int), (ms.length : Int) + 3, 4, 3 * (ms.length : Int) + 2, (ms.length : Int) / 2 + 2].map V.int))) := same_upd nt
      show _
      revert sm3
      show Same H2 (upd H2 t (.tup ([V.int 1, V.int ((ms.length : Int) + 3), V.int 4, V.int (3 * (ms.length : Int) + 2), V.int ((ms.length : Int) / 2 + 2)]))) → _
      generalize upd H2 t (.tup ([V.int 1, V.int ((ms.length : Int) + 3), V.int 4, V.int (3 * (ms.length : Int) + 2), V.int ((ms.length : Int) / 2 + 2)])) = H3
      intro sm3
      have hc3 : H3 c = some (.lst (ms.map V.int)) := sm3 _ _ hc2
      have sm' := sm.trans sm3
      refine ⟨_, rfl, _, rfl, by omega, by omega, fun L nL => lc_range (lo := 0) (n := ((ms.length : Nat) : Int).toNat) (fun i H' => ∃ ds : List Int, Same H3 H' ∧ H' L = some (.lst (ds.map V.int)) ∧ ds.length = i ∧ ∀ x ∈ ds, 0 ≤ x ∧ x < mo)
        ⟨[], same_upd nL, upd_same, rfl, fun x hx => by cases hx⟩ ?_ ?_⟩
      · rintro i H' hi ⟨ds, s4, hL, hl, hd⟩
        have hi' : i < ms.length := by omega
        have hc4 : H' c = some (.lst (ms.map V.int)) := s4 _ _ hc3
        have ez : (0 : Int) + (i : Int) = (i : Int) := by omega
        have ek : ((i : Int)) % 5 + 1 = ((i % 5 + 1 : Nat) : Int) := by omega
        rw [ez]
        refine ⟨rfl, _, rfl, _, rfl, c, _, _, _, rfl, rfl, SqL.of hc4, atI_nat (mapI_at (getD_at hi')), _, rfl, _, _, rfl, rfl, (by show (0 : Int) < 5; decide), _, _, rfl, rfl, _, rfl, ms.getD i 0, mo, i % 5 + 1, ?_, m0, by omega, fun H5 s5 => ?_⟩
        · rw [← ek]
          rfl
        · refine ⟨_, s5 _ _ hL, ?_, ds ++ [draw (ms.getD i 0) (i % 5 + 1) mo], same_mut (s4.trans s5) nL, ?_, ?_, ?_⟩
          · rw [List.length_map]
            exact sz63' (by omega)
          · rw [upd_same, List.map_append]
            rfl
          · rw [List.length_append, List.length_singleton, hl]
          · intro x hx
            rcases List.mem_append.mp hx with hx | hx
            · exact hd x hx
            · rw [List.mem_singleton.mp hx]
              exact ⟨draw_nonneg m0, draw_lt m0⟩
      · rintro H' ⟨ds, s4, hL, hl, hd⟩
        rw [Int.toNat_natCast] at hl
        refine ⟨L, ds, rfl, SqL.of hL, by omega, fun hs p hp hw np => ?_⟩
        have good := goodS_draw (n := ns.length) hp hw m3 hd (hl.trans hml)
        have sp := sm'.trans (s4.trans (same_upd (o := .lst (hs.map V.int)) np))
        have hp5 : (upd H' p (.lst (hs.map V.int))) p = some (.lst (hs.map V.int)) := upd_same
        have np0 := (sm'.trans s4).free np
        revert sp hp5
        generalize upd H' p (.lst (hs.map V.int)) = H5
        intro sp hp5
        refine ⟨_, rfl, rfl, _, rfl, ite2 (fun e3 => ?_) (fun e3 => ?_)⟩
        · refine ⟨_, rfl, p, _, rfl, SqL.of hp5, fun L2 nL2 => lc_enum (K := K) (a := p) (xs := hs.map V.int) (fun i H' => Same H5 H' ∧ H' L2 = some (.lst ((lift hs i).map V.int)))
            ⟨same_upd nL2, upd_same⟩ (fun i H' _ p => p.1.seq (SqL.of hp5)) ?_ ?_⟩
          · rintro i x T H' hi ⟨s6, hL6⟩ nT
            obtain ⟨h, rfl, hh⟩ := mapI_get hi
            have hi' : i < hs.length := (List.getElem?_eq_some_iff.mp hh).1
            have lh := good.1.len
            refine ⟨T, _, rfl, SqT.of upd_same, rfl, _, _, rfl, _, _, rfl, rfl, rfl, _, rfl, _, rfl, _, _, rfl, rfl, _, (same_upd nT) _ _ hL6, ?_, same_mut (s6.trans (same_upd nT)) nL2, ?_⟩
            · rw [List.length_map, lift, tab_len]
              exact sz63' (by omega)
            · rw [upd_same, lift_succ hh, List.map_append]
              rfl
          · rintro H' ⟨s6, hL6⟩
            rw [List.length_map] at hL6
            exact ⟨_, rfl, q _ H' L2 good.2 (sp.trans s6) (sp.free nL2) hL6⟩
        · exact ⟨_, rfl, q hs H5 p good.1 sp np0 hp5⟩
end
end TS
namespace TS
open PySem PySem.Spec PyProof.Rows L2
section
variable {P : Program} {w : World} {K : PySem.W.Frag} {mg : Str → Option Value} {base : Heap}
def spTakeCol : Sp := fun vs H Q _ => ∃ (a : Addr) (h : Int) (n e : Nat) (g : Nat → Int), vs = [.ref a, .int h] ∧ H a = some (.lst ((tab (stp g h) (n + 1)).map V.int)) ∧ n ≤ 1000 ∧ 0 ≤ h ∧ h.natAbs < 2 ^ 209 ∧ 0 < e ∧ e ≤ 900000 ∧ (∀ k, (g k).natAbs < 2 ^ e) ∧
  Q .non (upd H a (.lst ((tab g (n + 1)).map V.int)))
theorem ok_take_column {f : Addr} {fd : FuncData} {m : Nat} (B : Bl mg) (F : Fun K "take_column" "take_column" s_take_column f fd) : FnOk P w K mg base CX0 (m + 1) f fd ["ways", "height"] spTakeCol := by
  refine F.ok sc_take_column (fun vs H Q E h => ?_) (fun cdv A outer s H vs Q E hr h => ?_)
  · obtain ⟨a, h, n, e, g, rfl, _⟩ := h
    rfl
  · obtain ⟨a, h, n, e, g, rfl, hA, hn, h0, hb, he0, he, hg, q⟩ := h
    refine ⟨_, (pss_one (ps_for PassesOwn.never rfl (pi_range2 rfl B.range (pa_cons pe_int (pa_cons (pe_op op_add (pe_callB (call_min2 rfl) (by rfl) B.min (by decide +kernel) (pa_cons (pe_op op_sub (pe_callB call_len_seq (by rfl) B.len PySem.boot_len (pa_cons (pv 0) pa_nil)) pe_int) (pa_cons (pv 1) pa_nil))) pe_int) pa_nil))) (pg_name (i := 2) sc_take_column.nd rfl (.inl rfl))
  (pss_one (ps_augS (pv 0) (pv 2) get_list (pe_op op_mulW (pe_ix ix_list (pv 0) (pe_op op_sub (pv 2) pe_int) (fun _ _ => rfl)) (pe_op op_add (pe_op op_sub (pv 1) (pv 2)) pe_int)) ip_sub set_list)))), ?_⟩
    have hA' : SqL K H a ((tab (stp g h) (n + 1)).map V.int) := .inl (.inl hA)
    obtain ⟨t, ht, ht2, ht3⟩ : ∃ t : Nat, (if h < (n : Int) then h else (n : Int)) = (t : Int) ∧ ((t : Int) = h ∨ n ≤ t) ∧ ((t : Int) ≤ h ∧ t ≤ n) := by
      by_cases c : h < (n : Int)
      · exact ⟨h.toNat, by rw [if_pos c]; omega, by omega, by omega, by omega⟩
      · exact ⟨n, by rw [if_neg c], by omega, by omega, by omega⟩
    have hlen : (((tab (stp g h) (n + 1)).map V.int).length : Int) - 1 = (n : Int) := by
      rw [List.length_map, tab_len]
      omega
    refine ⟨_, rfl, a, _, rfl, .inl hA', _, _, rfl, rfl, _, rfl, _, _, rfl, ?_⟩
    rw [hlen, ht]
    have et : ((t : Int) + 1 - 1).toNat = t := by omega
    refine ⟨_, _, rfl, rfl, _, _, rfl, ⟨by omega, by omega, by omega, by omega⟩, for_range (lo := 1) (n := ((t : Int) + 1 - 1).toNat) (fun i σ H' => ∃ v, σ = [some (.ref a), some (.int h), v] ∧ H' = upd H a (.lst ((tab (dim g h i) (n + 1)).map V.int)))
      ⟨none, rfl, by rw [dim_start, upd_id hA]⟩ ?_ ?_⟩
    · rintro i σ H' hi ⟨v, rfl, rfl⟩
      have hi' : i < t := by omega
      have ev : (1 : Int) + (i : Int) = ((i + 1 : Nat) : Int) := by omega
      have hS : SqL K (upd H a (.lst ((tab (dim g h i) (n + 1)).map V.int))) a ((tab (dim g h i) (n + 1)).map V.int) := SqL.of upd_same
      have g1 : ((tab (dim g h i) (n + 1)).map V.int)[i + 1]? = some (.int (stp g h (i + 1))) := by
        refine mapI_at ?_
        rw [tab_get (by omega), dim_hi (by omega)]
      have g0 : ((tab (dim g h i) (n + 1)).map V.int)[i]? = some (.int (g i)) := by
        refine mapI_at ?_
        rw [tab_get (by omega), dim_lo (by omega)]
      rw [ev]
      refine ⟨_, rfl, _, rfl, a, _, _, _, rfl, rfl, hS, atI_nat g1, _, rfl, _, rfl, _, _, rfl, rfl, a, _, _, _, rfl, rfl, hS, at_of (by show ((i + 1 : Nat) : Int) - 1 = (i : Int); omega) g0, _, rfl, _, rfl, _, _, rfl, rfl, _, _, rfl, rfl, _, _, rfl, rfl, ?_, _, _, rfl, rfl, a, _, _, i + 1, rfl, rfl, upd_same, ?_, ?_⟩
      · refine wide_mul (hg i) (b := 210) ?_ he0 (by omega) (by omega)
        have : (2 : Nat) ^ 210 = 2 ^ 209 * 2 := rfl
        omega
      · unfold ixN
        rw [List.length_map, tab_len, if_pos (by omega), if_pos (by omega), Int.toNat_natCast]
      · refine ⟨_, rfl, ?_⟩
        rw [upd_upd, ← dim_turn (by omega), List.map_set]
        rw [show h - ((i + 1 : Nat) : Int) + 1 = h - (i : Int) by omega]
    · rintro σ H' ⟨v, rfl, rfl⟩
      rw [et, dim_end ht2]
      exact q
def spRowAbove (K : PySem.W.Frag) : Sp := fun vs H Q _ => ∃ (a : Addr) (T : List Int) (x : Int), vs = [.ref a, .int x] ∧ IL K H a T ∧ Q (.int (rowAbove T x)) H
theorem ok__row_above {f : Addr} {fd : FuncData} {m : Nat} (B : Bl mg) (F : Fun K "_row_above" "_row_above" s__row_above f fd) : FnOk P w K mg base CX0 (m + 1) f fd ["taken", "free"] (spRowAbove K) := by
  refine F.ok sc__row_above (fun vs H Q E h => ?_) (fun cdv A outer s H vs Q E hr h => ?_)
  · obtain ⟨a, T, x, rfl, _⟩ := h
    rfl
  · obtain ⟨a, T, x, rfl, hS, q⟩ := h
    refine ⟨_, (pss_cons (ps_set (i := 2) sc__row_above.nd rfl (.inl rfl) (pv 1))
 (pss_cons (ps_for PassesOwn.never rfl (pi_list (pv 0)) (pg_name (i := 3) sc__row_above.nd rfl (.inl rfl))
  (pss_one (ps_if (pt_cmpR op_le (pv 3) (pv 2) (nomark _))
  (pss_one (ps_aug (i := 2) sc__row_above.nd rfl (.inl rfl) pe_int ip_add))
  pss_nil)))
 (pss_one (ps_ret (pv 2))))), ?_⟩
    refine ⟨_, rfl, _, rfl, a, rfl, ⟨_, hS⟩, for_list (K := K) (a := a) (xs := T.map V.int) (fun i σ H' => ∃ v, σ = [some (.ref a), some (.int x), some (.int (passR (T.take i) x)), v] ∧ H' = H)
      ⟨none, rfl, rfl⟩ (fun i σ H' _ ⟨_, _, e⟩ => by rw [e]; exact hS) ?_ ?_⟩
    · rintro i y σ H' hi ⟨v, rfl, rfl⟩
      obtain ⟨t, rfl, ht⟩ := mapI_get hi
      refine ⟨_, rfl, _, rfl, _, _, rfl, rfl, _, rfl, ite2 (fun c => ?_) (fun c => ?_)⟩
      · have c' : t ≤ passR (T.take i) x := of_decide_eq_true c
        refine ⟨_, rfl, _, _, rfl, rfl, some (.int t), ?_, rfl⟩
        rw [passR_take ht, if_pos c']
        rfl
      · have c' : ¬ t ≤ passR (T.take i) x := fun z => c (decide_eq_true z)
        refine ⟨some (.int t), ?_, rfl⟩
        rw [passR_take ht, if_neg c']
        rfl
    · rintro σ H' ⟨v, rfl, rfl⟩
      rw [List.length_map, List.take_length, passR_eq]
      exact ⟨_, rfl, q⟩
def spFreeBelow (K : PySem.W.Frag) : Sp := fun vs H Q _ => ∃ (a : Addr) (T : List Int) (r : Int), vs = [.ref a, .int r] ∧ IL K H a T ∧ T.length ≤ 1000 ∧ ∀ H', Same H H' → Q (.int (r - less T r)) H'
theorem ok__free_below {f : Addr} {fd : FuncData} {m : Nat} (B : Bl mg) (F : Fun K "_free_below" "_free_below" s__free_below f fd) : FnOk P w K mg base CX0 (m + 1) f fd ["taken", "row"] (spFreeBelow K) := by
  refine F.ok sc__free_below (fun vs H Q E h => ?_) (fun cdv A outer s H vs Q E hr h => ?_)
  · obtain ⟨a, T, r, rfl, _⟩ := h
    rfl
  · obtain ⟨a, T, r, rfl, hS, hl, q⟩ := h
    refine ⟨_, (pss_one (ps_ret (pe_op op_sub (pv 1) (pe_callB call_len_seq (by rfl) B.len PySem.boot_len (pa_cons (pe_lc (own := [("other", 2)]) (g := gName 2) rfl sc__free_below.nd (pi_list (pv 0)) (blkOk_by (N := N__free_below) (sc := defScope s__free_below) (by decide +kernel)) (fun _ _ _ _ _ => pg_name (i := 2) sc__free_below.nd rfl (Or.inl rfl)) (fun _ _ _ _ _ => pts_one (pt_cmpR op_lt (pv 2) (pv 1) (nomark _))) (fun _ _ _ _ _ => (pv 2))) pa_nil))))), ?_⟩
    refine ⟨_, rfl, _, rfl, a, rfl, ⟨_, hS⟩, fun D nD => lc_list (K := K) (a := a) (xs := T.map V.int) (fun i H' => Same H H' ∧ H' D = some (.lst (((T.take i).filter fun t => decide (t < r)).map V.int)))
      ⟨same_upd nD, upd_same⟩ (fun i H' _ e => e.1.seq hS) ?_ ?_⟩
    · rintro i x H' hi ⟨sm, hD⟩
      obtain ⟨t, rfl, ht⟩ := mapI_get hi
      have hil : i < T.length := (List.getElem?_eq_some_iff.mp ht).1
      refine ⟨rfl, _, rfl, _, rfl, _, _, rfl, rfl, _, rfl, ite2 (fun c => ?_) (fun c => ?_)⟩
      · refine ⟨_, rfl, _, hD, ?_, same_mut sm nD, ?_⟩
        · rw [List.length_map]
          have := List.length_filter_le (fun t => decide (t < r)) (T.take i)
          rw [List.length_take] at this
          exact sz63' (by omega)
        · have c' : decide (t < r) = true := c
          rw [upd_same, List.take_add_one, ht, List.filter_append, Option.toList_some, List.filter_cons, if_pos c', List.map_append]
          rfl
      · have c' : ¬ decide (t < r) = true := c
        refine ⟨sm, ?_⟩
        rw [hD, List.take_add_one, ht, List.filter_append, Option.toList_some, List.filter_cons, if_neg c']
        simp
    · rintro H' ⟨sm, hD⟩
      rw [List.length_map, List.take_length] at hD
      refine ⟨D, _, rfl, .inl (SqL.of hD), _, _, rfl, rfl, ?_⟩
      rw [List.length_map]
      exact q H' sm
end
end TS
namespace TS
open PySem PySem.Spec PyProof.Rows L2
theorem divp_low {i j : Int} (h : 0 < j) (hb : j.natAbs < 2 ^ 210) : CDivP i j := ⟨h, PyProof.noPylong_of_log2 (Nat.lt_of_lt_of_le (PySem.Flt.log2_lt_of (by decide) hb) (by decide))⟩
theorem cn_abs {hs : List Int} (g : Good hs) (i k : Nat) : (cn hs i k).natAbs < 2 ^ (208 * 100 + 1) := cnt_take g i k
section
variable {P : Program} {w : World} {K : PySem.W.Frag} {mg : Str → Option Value} {base : Heap}
def spChoices (K : PySem.W.Frag) : Sp := fun vs H Q _ => ∃ (a b : Addr) (hs : List Int) (k : Nat) (num : Int), vs = [.ref a, .ref b, .int num] ∧ H a = some (.lst (hs.map V.int)) ∧ a ≠ b ∧ H b = some (.lst ((tab (cn hs hs.length) (k + 1)).map V.int)) ∧ Good hs ∧ k ≤ 1000 ∧ 0 ≤ num ∧ num < cn hs hs.length k ∧
  ∀ H' p, SameX b H H' → H p = none → PL H' p (ch hs hs.length k num) → Q (.ref p) H'
theorem ok__choices {f fT : Addr} {fd fdT : FuncData} {m : Nat} (B : Bl mg) (Dtake_column : Df P w K mg base "take_column" (m + 1) ["ways", "height"] spTakeCol fT fdT) (F : Fun K "_choices" "_choices" s__choices f fd) :
    FnOk P w K mg base CX0 (m + 1 + 1) f fd ["stairs", "ways", "number"] (spChoices K) := by
  refine F.ok sc__choices (fun vs H Q E h => ?_) (fun cdv A outer s H vs Q E hr h => ?_)
  · obtain ⟨a, b, hs, k, num, rfl, _⟩ := h
    rfl
  · obtain ⟨a, b, hs, k, num, rfl, hS, nab, hB, G, hk, n0, n1, q⟩ := h
    refine ⟨_, (pss_cons (ps_set (i := 3) sc__choices.nd rfl (.inl rfl) (pe_op op_sub (pe_callB call_len_seq (by rfl) B.len PySem.boot_len (pa_cons (pv 1) pa_nil)) pe_int))
 (pss_cons (ps_set (i := 4) sc__choices.nd rfl (.inl rfl) (pe_lst pa_nil))
 (pss_cons (ps_for PassesOwn.never rfl (pi_revR (by rfl) B.reversed (prg_1 (by rfl) B.range (pe_callB call_len_seq (by rfl) B.len PySem.boot_len (pa_cons (pv 0) pa_nil)))) (pg_name (i := 5) sc__choices.nd rfl (.inl rfl))
  (pss_cons (ps_set (i := 6) sc__choices.nd rfl (.inl rfl) (pe_ix ix_list (pv 0) (pv 5) (fun _ _ => rfl)))
 (pss_cons (ps_expr (pe_call Dtake_column.ok (hr.mono (Nat.le_refl _)) (by rfl) Dtake_column.g Dtake_column.kp Dtake_column.b .nil pass0 (pa_cons (pv 1) (pa_cons (pv 6) pa_nil))))
 (pss_one (ps_if (pt_cmpR op_ge (pv 2) (pe_ix ix_list (pv 1) (pv 3) (fun _ _ => rfl)) (nomark _))
  (pss_cons (ps_asg (pe_callB call_divmodW (by rfl) B.divmod (by decide +kernel) (pa_cons (pe_op op_sub (pv 2) (pe_ix ix_list (pv 1) (pv 3) (fun _ _ => rfl))) (pa_cons (pe_op op_add (pe_op op_sub (pv 6) (pv 3)) pe_int) pa_nil))) (pg_tup rfl (pgs_cons (pg_name (i := 2) sc__choices.nd rfl (.inl rfl)) (pgs_cons (pg_name (i := 7) sc__choices.nd rfl (.inl rfl)) pgs_nil))))
 (pss_cons (ps_expr (pe_bm PySem.F.plainAttrs_list PySem.F.slot_list_append PySem.F.type_list_append mt_append (pv 4) (pa_cons (pe_tup (pa_cons (pv 5) (pa_cons (pv 7) pa_nil))) pa_nil)))
 (pss_one (ps_aug (i := 3) sc__choices.nd rfl (.inl rfl) pe_int ip_sub))))
  pss_nil)))))
 (pss_one (ps_ret (pv 4)))))), ?_⟩
    have hl := G.len
    have elen : (((tab (cn hs hs.length) (k + 1)).map V.int).length : Int) - 1 = (k : Int) := by
      rw [List.length_map, tab_len]
      omega
    refine ⟨_, rfl, b, _, rfl, .inl (SqL.of hB), _, _, rfl, rfl, Nat.zero_le _, fun c nc => ?_⟩
    have sc : Same H (upd H c (.lst [])) := same_upd nc
    have hc : (upd H c (.lst [])) c = some (.lst []) := upd_same
    have ncb : c ≠ b := (ne_of_none hB nc).symm
    have nac : a ≠ c := ne_of_none hS nc
    have eh : ((0 : Int) + ((((((hs.map V.int).length : Nat) : Int) - 0).toNat : Nat) : Int) - 1) = (hs.length : Int) - 1 := by rw [List.length_map]; omega
    have en : (((((hs.map V.int).length : Nat) : Int) - 0).toNat) = hs.length := by rw [List.length_map]; omega
    refine ⟨_, rfl, a, _, rfl, .inl (SqL.of (sc _ _ hS)), _, rfl, by decide, by decide, by omega, by rw [List.length_map]; omega, ?_⟩
    rw [eh, en]
    refine for_rangeC (fun t σ H' => ∃ (kt : Nat) (nt : Int) (ds : List (Nat × Int)) (x y z : Option V), σ = [some (.ref a), some (.ref b), some (.int nt), some (.int (kt : Int)), some (.ref c), x, y, z] ∧ SameX b H H' ∧ H' a = some (.lst (hs.map V.int)) ∧ H' b = some (.lst ((tab (cn hs (hs.length - t)) (k + 1)).map V.int)) ∧ PL H' c ds ∧
        ds ++ ch hs (hs.length - t) kt nt = ch hs hs.length k num ∧ 0 ≤ nt ∧ nt < cn hs (hs.length - t) kt ∧ kt ≤ k ∧ ds.length ≤ t)
      ⟨k, num, [], none, none, none, (by show [some (V.ref a), some (V.ref b), some (V.int num), some (V.int ((((tab (cn hs hs.length) (k + 1)).map V.int).length : Int) - 1)), some (V.ref c), none, none, none] = _; rw [elen]), SameX.of sc, sc _ _ hS, sc _ _ hB, PL.empty hc, rfl, n0, n1, Nat.le_refl _, Nat.le_refl _⟩ ?_ ?_
    · rintro t σ H' hlt0 ⟨kt, nt, ds, x, y, z, rfl, sx, hS', hB', hP, eds, m0, m1, hkt, hdl⟩
      obtain ⟨i, ei⟩ : ∃ i, i + 1 = hs.length - t := ⟨hs.length - t - 1, by omega⟩
      have ev : (hs.length : Int) - 1 + (t : Int) * (-1) = (i : Int) := by omega
      have hi : i < hs.length := by omega
      have hh := ht_at hi
      have hm : ht hs i ∈ hs := List.mem_of_getElem? hh
      have bb := G.b _ hm
      have b208 : (2 : Int) ^ 208 = ((2 ^ 208 : Nat) : Int) := rfl
      have b209 : (2 : Nat) ^ 209 = 2 ^ 208 * 2 := rfl
      have b210 : (2 : Nat) ^ 210 = 2 ^ 208 * 4 := rfl
      have b1000 : 1000 ≤ (2 : Nat) ^ 208 := by decide
      rw [← ei] at hB' eds m1
      have hB2 : H' b = some (.lst ((tab (stp (cntF (hs.take i)) (ht hs i)) (k + 1)).map V.int)) := by rw [hB', ← cntF_take hh]
      obtain ⟨ps, hPl, hPt, hPe⟩ := id hP
      have nbc : b ≠ c := ncb.symm
      rw [ev]
      refine ⟨_, rfl, _, rfl, a, _, _, _, rfl, rfl, SqL.of hS', atI_nat (mapI_at hh), _, rfl, _, rfl, b, ht hs i, k, 208 * 100 + 1, cntF (hs.take i), rfl, hB2, hk, bb.1, by omega, by decide, by decide, cnt_take G i, ?_⟩
      have hSn : (upd H' b (.lst ((tab (cntF (hs.take i)) (k + 1)).map V.int))) a = some (.lst (hs.map V.int)) := by
        rw [upd_ne nab]
        exact hS'
      have hBn : (upd H' b (.lst ((tab (cntF (hs.take i)) (k + 1)).map V.int))) b = some (.lst ((tab (cn hs i) (k + 1)).map V.int)) := upd_same
      have hPn : PL (upd H' b (.lst ((tab (cntF (hs.take i)) (k + 1)).map V.int))) c ds := ⟨ps, by rw [upd_ne ncb]; exact hPl, hPt.lst hB2, hPe⟩
      have sxn : SameX b H (upd H' b (.lst ((tab (cntF (hs.take i)) (k + 1)).map V.int))) := sx.put
      have hgw : ((tab (cn hs i) (k + 1)).map V.int)[kt]? = some (.int (cn hs i kt)) := mapI_at (tab_get (by omega))
      have ent : hs.length - (t + 1) = i := by omega
      revert hSn hBn hPn sxn
      generalize upd H' b (.lst ((tab (cntF (hs.take i)) (k + 1)).map V.int)) = H2
      intro hSn hBn hPn sxn
      obtain ⟨qs, hQl, hQt, hQe⟩ := id hPn
      refine ⟨_, rfl, _, rfl, _, rfl, b, _, _, _, rfl, rfl, SqL.of hBn, atI_nat hgw, _, _, rfl, rfl, _, rfl, ite2 (fun cc => ?_) (fun cc => ?_)⟩
      · have c' : cn hs i kt ≤ nt := of_decide_eq_true cc
        obtain ⟨k', rfl⟩ : ∃ k', kt = k' + 1 := ⟨kt - 1, by
          cases kt with
          | zero => rw [cn_zero] at c' m1; omega
          | succ j => omega⟩
        have hlt : (k' : Int) < ht hs i := by
          rw [cn_succ hi] at m1
          by_cases g : (k' : Int) < ht hs i
          · exact g
          · rw [if_neg g] at m1
            omega
        rw [cn_succ hi, if_pos hlt] at m1
        have ej : ht hs i - ((k' + 1 : Nat) : Int) + 1 = ht hs i - k' := by omega
        refine ⟨_, rfl, _, rfl, _, rfl, b, _, _, _, rfl, rfl, SqL.of hBn, atI_nat hgw, _, _, rfl, rfl, _, rfl, _, rfl, _, _, rfl, rfl, _, _, rfl, rfl, _, _, rfl, divp_low (by omega) (by omega), fun p np => ?_⟩
        rw [ej]
        refine ⟨p, _, rfl, SqT.of upd_same, rfl, _, _, rfl, _, _, rfl, rfl, ?_⟩
        refine ⟨_, rfl, .inl ⟨rfl, refsT qs, SqL.of (same_upd np _ _ hQl)⟩, ?_⟩
        refine ⟨_, rfl, _, rfl, by show 2 ≤ sizeLine; decide, fun u nu => ?_⟩
        have hc2 := same_upd (o := .tup [V.int ((nt - cn hs i (k' + 1)) / (ht hs i - k')), V.int ((nt - cn hs i (k' + 1)) % (ht hs i - k'))]) np _ _ hQl
        have hc3 := same_upd (o := .tup [V.int (i : Int), V.int ((nt - cn hs i (k' + 1)) % (ht hs i - k'))]) nu _ _ hc2
        have dl : qs.length = ds.length := by rw [← hQe, List.length_map]
        refine ⟨c, _, _, rfl, rfl, hc3, ?_, ?_⟩
        · rw [List.length_map, dl]
          exact sz63' (by omega)
        have sm2 := (same_upd (o := .tup [V.int ((nt - cn hs i (k' + 1)) / (ht hs i - k')), V.int ((nt - cn hs i (k' + 1)) % (ht hs i - k'))]) np).trans (same_upd (o := .tup [V.int (i : Int), V.int ((nt - cn hs i (k' + 1)) % (ht hs i - k'))]) nu)
        have hu : (upd (upd H2 p (.tup [V.int ((nt - cn hs i (k' + 1)) / (ht hs i - k')), V.int ((nt - cn hs i (k' + 1)) % (ht hs i - k'))])) u (.tup [V.int (i : Int), V.int ((nt - cn hs i (k' + 1)) % (ht hs i - k'))])) u = some (.tup (cellV (i, (nt - cn hs i (k' + 1)) % (ht hs i - k')))) := upd_same
        refine ⟨_, rfl, _, _, rfl, rfl, k', (nt - cn hs i (k' + 1)) / (ht hs i - k'), ds ++ [(i, (nt - cn hs i (k' + 1)) % (ht hs i - k'))], some (.int (i : Int)), some (.int (ht hs i)), some (.int ((nt - cn hs i (k' + 1)) % (ht hs i - k'))), ?_, (sxn.trans (SameX.of sm2)).mut nc, ?_, ?_, (hPn.same sm2).add hu hc3, ?_, ?_, ?_, by omega, ?_⟩
        · rw [show (k' : Int) = ((k' + 1 : Nat) : Int) - 1 by omega]
          rfl
        · rw [upd_ne nac]
          exact sm2 _ _ hSn
        · rw [ent, upd_ne nbc]
          exact sm2 _ _ hBn
        · rw [ent, ← eds, ch_succ, if_pos c', ej, List.append_assoc]
          rfl
        · exact Int.ediv_nonneg (by omega) (by omega)
        · rw [ent]
          exact Int.ediv_lt_of_lt_mul (by omega) (by omega)
        · rw [List.length_append, List.length_singleton]
          omega
      · have c' : ¬ cn hs i kt ≤ nt := fun g => cc (decide_eq_true g)
        refine ⟨kt, nt, ds, _, _, _, rfl, sxn, hSn, by rw [ent]; exact hBn, hPn, ?_, m0, by rw [ent]; omega, hkt, by omega⟩
        rw [ent, ← eds, ch_succ, if_neg c']
    · rintro σ H' ⟨kt, nt, ds, x, y, z, rfl, sx, hS', hB', hP, eds, m0, m1, hkt, hdl⟩
      rw [Nat.sub_self] at eds
      have e0 : ch hs 0 kt nt = [] := rfl
      rw [e0, List.append_nil] at eds
      rw [eds] at hP
      exact ⟨_, rfl, q H' c sx nc hP⟩
end
end TS
namespace TS
open PySem PySem.Spec PyProof.Rows L2
theorem drop_back {α : Type} {l : List α} {j : Nat} {x : α} (hj : j < l.length) (h : l[l.length - 1 - j]? = some x) : l.drop (l.length - (j + 1)) = x :: l.drop (l.length - j) := by
  have e1 : l.length - (j + 1) = l.length - 1 - j := by omega
  have e2 : l.length - j = l.length - 1 - j + 1 := by omega
  rw [e1, e2]
  obtain ⟨hlt, rfl⟩ := List.getElem?_eq_some_iff.mp h
  rw [List.drop_eq_getElem_cons hlt]
section
variable {P : Program} {w : World} {K : PySem.W.Frag} {mg : Str → Option Value} {base : Heap}
def spWithRows : Sp := fun vs H Q _ => ∃ (a : Addr) (ds : List (Nat × Int)), vs = [.ref a] ∧ PL H a ds ∧ ds.length ≤ 1000 ∧ ∀ H' p, Same H H' → H p = none → PL H' p (tw ds) → Q (.ref p) H'
theorem ok__with_rows {f fT : Addr} {fd fdT : FuncData} {m : Nat} (B : Bl mg) (D_row_above : Df P w K mg base "_row_above" (m + 1) ["taken", "free"] (spRowAbove K) fT fdT) (F : Fun K "_with_rows" "_with_rows" s__with_rows f fd) :
    FnOk P w K mg base CX0 (m + 1 + 1) f fd ["choices"] spWithRows := by
  refine F.ok sc__with_rows (fun vs H Q E h => ?_) (fun cdv A outer s H vs Q E hr h => ?_)
  · obtain ⟨a, ds, rfl, _⟩ := h
    rfl
  · obtain ⟨a, ds, rfl, ⟨qs, hA, hT, rfl⟩, hl, q⟩ := h
    rw [List.length_map] at hl
    refine ⟨_, (pss_cons (ps_set (i := 1) sc__with_rows.nd rfl (.inl rfl) (pe_lst pa_nil))
 (pss_cons (ps_set (i := 2) sc__with_rows.nd rfl (.inl rfl) (pe_lst pa_nil))
 (pss_cons (ps_for PassesOwn.never rfl (pi_reversed (by rfl) B.reversed (pa_cons (pv 0) pa_nil)) (pg_tup rfl (pgs_cons (pg_name (i := 3) sc__with_rows.nd rfl (.inl rfl)) (pgs_cons (pg_name (i := 4) sc__with_rows.nd rfl (.inl rfl)) pgs_nil)))
  (pss_cons (ps_set (i := 5) sc__with_rows.nd rfl (.inl rfl) (pe_call D_row_above.ok (hr.mono (Nat.le_refl _)) (by rfl) D_row_above.g D_row_above.kp D_row_above.b .nil pass0 (pa_cons (pv 2) (pa_cons (pv 4) pa_nil))))
 (pss_cons (ps_expr (pe_bm PySem.F.plainAttrs_list PySem.F.slot_list_append PySem.F.type_list_append mt_append (pv 1) (pa_cons (pe_tup (pa_cons (pv 3) (pa_cons (pv 5) pa_nil))) pa_nil)))
 (pss_one (ps_set (i := 2) sc__with_rows.nd rfl (.inl rfl) (pe_callB cr_sortedI (by rfl) B.sorted (by decide +kernel) (pa_cons (pe_op op_cat (pv 2) (pe_lst (pa_cons (pv 5) pa_nil))) pa_nil)))))))
 (pss_one (ps_ret (pv 1)))))), ?_⟩
    refine ⟨Nat.zero_le _, fun tv ntv => ⟨Nat.zero_le _, fun t0 nt0 => ?_⟩⟩
    have s0 := (same_upd (o := .lst []) ntv).trans (same_upd (o := .lst []) nt0)
    have htv := same_upd (o := .lst []) nt0 tv _ upd_same
    have ht0 : (upd (upd H tv (.lst [])) t0 (.lst [])) t0 = some (.lst []) := upd_same
    have nt : tv ≠ t0 := ne_of_none upd_same nt0
    refine ⟨_, rfl, a, _, rfl, SqL.of (s0 _ _ hA), for_rev (K := K) (a := a) (xs := refsT qs) (fun j σ H' => ∃ (tk : Addr) (x y z : Option V), σ = [some (.ref a), some (.ref tv), some (.ref tk), x, y, z] ∧ Same H H' ∧ PL H' tv (tw ((qs.map Prod.snd).drop (qs.length - j))) ∧ tk ≠ tv ∧
        H' tk = some (.lst ((srt (rowsOf (tw ((qs.map Prod.snd).drop (qs.length - j))))).map V.int)))
      ⟨t0, none, none, none, rfl, s0, ?_, nt.symm, ?_⟩ (fun j σ H' _ ⟨_, _, _, _, _, e, _⟩ => SqL.of (e _ _ hA)) ?_ ?_⟩
    · rw [Nat.sub_zero, List.drop_of_length_le (by rw [List.length_map]; exact Nat.le_refl _)]
      exact PL.empty htv
    · rw [Nat.sub_zero, List.drop_of_length_le (by rw [List.length_map]; exact Nat.le_refl _)]
      exact ht0
    · rintro j x σ H' hj hx ⟨tk, y1, y2, y3, rfl, sm, hP, ntk, hTk⟩
      have hj' : j < qs.length := by rw [List.length_map] at hj; exact hj
      have el : (refsT qs).length = (qs.map Prod.snd).length := by rw [List.length_map, List.length_map]
      rw [el] at hx
      obtain ⟨ta, ⟨c, fr⟩, rfl, hq⟩ := refsT_at hx
      have hq2 := snd_at hq
      have hcell : H' ta = some (.tup (cellV (c, fr))) := sm _ _ (hT _ (List.mem_of_getElem? hq))
      have hd := drop_back (l := qs.map Prod.snd) (j := j) (by rw [List.length_map]; exact hj') hq2
      rw [List.length_map] at hd
      obtain ⟨ps, hPl, hPt, hPe⟩ := id hP
      have lT : (srt (rowsOf (tw ((qs.map Prod.snd).drop (qs.length - j))))).length ≤ 1000 := by
        rw [(srt_perm _).length_eq, List.length_map, tw_len, List.length_drop, List.length_map]
        omega
      have lps : ps.length ≤ 1000 := by
        have : ps.length = (tw ((qs.map Prod.snd).drop (qs.length - j))).length := by rw [← hPe, List.length_map]
        rw [this, tw_len, List.length_drop, List.length_map]
        omega
      obtain ⟨T, eT⟩ : ∃ T, T = srt (rowsOf (tw ((qs.map Prod.snd).drop (qs.length - j)))) := ⟨_, rfl⟩
      rw [← eT] at hTk lT
      refine ⟨ta, _, rfl, SqT.of hcell, rfl, _, _, rfl, _, _, rfl, rfl, ?_⟩
      refine ⟨_, rfl, _, rfl, tk, T, fr, rfl, il_of hTk, ?_⟩
      refine ⟨_, rfl, .inl ⟨rfl, _, SqL.of hPl⟩, ?_⟩
      refine ⟨_, rfl, _, rfl, by show 2 ≤ sizeLine; decide, fun u nu => ?_⟩
      have su : Same H' (upd H' u (.tup (cellV (c, rowAbove T fr)))) := same_upd nu
      have hu : (upd H' u (.tup (cellV (c, rowAbove T fr)))) u = some (.tup (cellV (c, rowAbove T fr))) := upd_same
      have hP2 := hP.same su
      have hPl2 := su _ _ hPl
      have hTk2 := su _ _ hTk
      have sm2 := sm.trans su
      revert su hu hP2 hPl2 hTk2 sm2
      show Same H' (upd H' u (.tup [V.int (c : Int), V.int (rowAbove T fr)])) → (upd H' u (.tup [V.int (c : Int), V.int (rowAbove T fr)])) u = some (.tup (cellV (c, rowAbove T fr))) → PL (upd H' u (.tup [V.int (c : Int), V.int (rowAbove T fr)])) tv _ →
        (upd H' u (.tup [V.int (c : Int), V.int (rowAbove T fr)])) tv = _ → (upd H' u (.tup [V.int (c : Int), V.int (rowAbove T fr)])) tk = _ → Same H (upd H' u (.tup [V.int (c : Int), V.int (rowAbove T fr)])) → _
      generalize upd H' u (.tup [V.int (c : Int), V.int (rowAbove T fr)]) = H2
      intro su hu hP2 hPl2 hTk2 sm2
      refine ⟨tv, _, _, rfl, rfl, hPl2, by rw [List.length_map]; exact sz63' (by omega), ?_⟩
      have hP3 := hP2.add hu hPl2
      have hTk3 : (upd H2 tv (.lst (refsT ps ++ [V.ref u]))) tk = some (.lst (T.map V.int)) := by
        rw [upd_ne ntk]
        exact hTk2
      have sm3 := same_mut (o := .lst (refsT ps ++ [V.ref u])) sm2 ntv
      revert hP3 hTk3 sm3
      generalize upd H2 tv (.lst (refsT ps ++ [V.ref u])) = H3
      intro hP3 hTk3 sm3
      refine ⟨_, rfl, _, rfl, by show 1 ≤ sizeLine; decide, fun w1 nw1 => ?_⟩
      have nkw : tk ≠ w1 := ne_of_none hTk3 nw1
      refine ⟨tk, w1, _, _, rfl, rfl, by rw [upd_ne nkw]; exact hTk3, upd_same, ?_, fun w2 nw2 => ?_⟩
      · rw [List.length_map]
        exact sz63 (by show T.length + 1 ≤ 100000; omega)
      have e12 : T.map V.int ++ [V.int (rowAbove T fr)] = (T ++ [rowAbove T fr]).map V.int := by rw [List.map_append]; rfl
      have s12 := (same_upd (o := .lst [V.int (rowAbove T fr)]) nw1).trans (same_upd (o := .lst (T.map V.int ++ [V.int (rowAbove T fr)])) nw2)
      refine ⟨w2, T ++ [rowAbove T fr], rfl, SqL.of (by rw [upd_same, e12]), fun U w3 pU oU nw3 => ?_⟩
      have s123 := s12.trans (same_upd (o := .lst (U.map V.int)) nw3)
      have eU : U = srt (rowsOf (tw ((qs.map Prod.snd).drop (qs.length - (j + 1))))) := by
        rw [hd]
        show U = srt (rowsOf (tw ((qs.map Prod.snd).drop (qs.length - j)) ++ [(c, rowAbove (srt (rowsOf (tw ((qs.map Prod.snd).drop (qs.length - j))))) fr)]))
        rw [← eT]
        refine srt_of (pU.trans ?_) oU
        show (T ++ [rowAbove T fr]).Perm (List.map Prod.snd (tw ((qs.map Prod.snd).drop (qs.length - j)) ++ [(c, rowAbove T fr)]))
        rw [List.map_append]
        refine List.Perm.append_right _ ?_
        rw [eT]
        exact srt_perm _
      refine ⟨w3, some (.int (c : Int)), some (.int fr), some (.int (rowAbove T fr)), rfl, sm3.trans s123, ?_, ?_, ?_⟩
      · have e : tw ((qs.map Prod.snd).drop (qs.length - (j + 1))) = tw ((qs.map Prod.snd).drop (qs.length - j)) ++ [(c, rowAbove T fr)] := by
          rw [hd, eT]
          rfl
        rw [e]
        exact hP3.same s123
      · obtain ⟨ps3, hPl3, _⟩ := hP3
        exact (ne_of_none (s12 _ _ hPl3) nw3).symm
      · rw [upd_same, eU]
    · rintro σ H' ⟨tk, y1, y2, y3, rfl, sm, hP, ntk, hTk⟩
      rw [List.length_map, Nat.sub_self, List.drop_zero] at hP
      exact ⟨_, rfl, q H' tv sm ntv hP⟩
def spWayOf (K : PySem.W.Frag) : Sp := fun vs H Q _ => ∃ (a : Addr) (hs : List Int) (k : Nat) (num : Int), vs = [.ref a, .int (k : Int), .int num] ∧ H a = some (.lst (hs.map V.int)) ∧ Good hs ∧ k ≤ hs.length ∧ 0 ≤ num ∧ num < cn hs hs.length k ∧
  ∀ H' p, Same H H' → H p = none → PL H' p (tw (ch hs hs.length k num)) → Q (.ref p) H'
theorem ok_way_of {f f1 f2 f3 f4 f5 : Addr} {fd d1 d2 d3 d4 d5 : FuncData} {m : Nat} (B : Bl mg) (Dcheck_stairs : Df P w K mg base "check_stairs" (m + 3) ["stairs"] spCheck f1 d1) (Dis_count : Df P w K mg base "is_count" (m + 1) ["value"] spIsCount f2 d2)
    (Dways_up_to : Df P w K mg base "ways_up_to" (m + 2) ["stairs", "most"] (spUpTo K) f3 d3) (D_with_rows : Df P w K mg base "_with_rows" (m + 2) ["choices"] spWithRows f4 d4) (D_choices : Df P w K mg base "_choices" (m + 2) ["stairs", "ways", "number"] (spChoices K) f5 d5)
    (F : Fun K "way_of" "way_of" s_way_of f fd) : FnOk P w K mg base CX0 (m + 3 + 1) f fd ["stairs", "many", "number"] (spWayOf K) := by
  refine F.ok sc_way_of (fun vs H Q E h => ?_) (fun cdv A outer s H vs Q E hr h => ?_)
  · obtain ⟨a, hs, k, num, rfl, _⟩ := h
    rfl
  · obtain ⟨a, hs, k, num, rfl, hA, G, hk, n0, n1, q⟩ := h
    refine ⟨_, (pss_cons (ps_expr (pe_call Dcheck_stairs.ok (hr.mono (Nat.le_refl _)) (by rfl) Dcheck_stairs.g Dcheck_stairs.kp Dcheck_stairs.b .nil pass0 (pa_cons (pv 0) pa_nil)))
 (pss_cons (ps_if (PW.pt (pw_or (pt_not (pt_val (pe_call Dis_count.ok (hr.mono (by omega)) (by rfl) Dis_count.g Dis_count.kp Dis_count.b .nil pass0 (pa_cons (pv 1) pa_nil)))) (pw_or1 (pt_cmpR op_gt (pv 1) (pe_callB call_len_seq (by rfl) B.len PySem.boot_len (pa_cons (pv 0) pa_nil)) (nomark _)))))
  (pss_one ps_never)
  pss_nil)
 (pss_cons (ps_set (i := 3) sc_way_of.nd rfl (.inl rfl) (pe_call Dways_up_to.ok (hr.mono (by omega)) (by rfl) Dways_up_to.g Dways_up_to.kp Dways_up_to.b .nil pass0 (pa_cons (pv 0) (pa_cons (pv 1) pa_nil))))
 (pss_cons (ps_if (PW.pt (pw_or (pt_not (pt_val (pe_call Dis_count.ok (hr.mono (by omega)) (by rfl) Dis_count.g Dis_count.kp Dis_count.b .nil pass0 (pa_cons (pv 2) pa_nil)))) (pw_or1 (pt_cmpR op_ge (pv 2) (pe_ix ix_list (pv 3) (pv 1) (fun _ _ => rfl)) (nomark _)))))
  (pss_one ps_never)
  pss_nil)
 (pss_one (ps_ret (pe_call D_with_rows.ok (hr.mono (by omega)) (by rfl) D_with_rows.g D_with_rows.kp D_with_rows.b .nil pass0 (pa_cons (pe_call D_choices.ok (hr.mono (by omega)) (by rfl) D_choices.g D_choices.kp D_choices.b .nil pass0 (pa_cons (pv 0) (pa_cons (pv 3) (pa_cons (pv 2) pa_nil)))) pa_nil)))))))), ?_⟩
    have hl := G.len
    refine ⟨_, rfl, a, hs, rfl, hA, G.rise, G.pos, ?_⟩
    refine ⟨_, rfl, (k : Int), rfl, true, by rw [decide_eq_true (by omega)], iteF ?_⟩
    refine ⟨_, rfl, _, rfl, a, _, rfl, .inl (SqL.of hA), _, _, rfl, rfl, _, rfl, ?_⟩
    rw [decide_eq_false (by rw [List.length_map]; omega)]
    refine iteF ?_
    refine ⟨_, rfl, _, rfl, a, hs, k, rfl, SqL.of hA, G, by omega, fun H1 b s1 nb hb => ?_⟩
    refine ⟨_, rfl, num, rfl, true, by rw [decide_eq_true n0], iteF ?_⟩
    have ecn : cntF hs = cn hs hs.length := by
      show cntF hs = cntF (hs.take hs.length)
      rw [List.take_length]
    rw [ecn] at hb
    have hg : ((tab (cn hs hs.length) (k + 1)).map V.int)[k]? = some (.int (cn hs hs.length k)) := mapI_at (tab_get (by omega))
    refine ⟨_, rfl, _, rfl, _, rfl, b, _, _, _, rfl, rfl, SqL.of hb, atI_nat hg, _, _, rfl, rfl, _, rfl, ?_⟩
    rw [decide_eq_false (by omega)]
    refine iteF ?_
    have nab : a ≠ b := ne_of_none hA nb
    refine ⟨_, rfl, _, rfl, _, rfl, a, b, hs, k, num, rfl, s1 _ _ hA, nab, hb, G, by omega, n0, n1, fun H2 c sx nc hc => ?_⟩
    have s2 : Same H H2 := SameX.same s1 nb sx
    have ld : (ch hs hs.length k num).length ≤ 1000 := by
      obtain ⟨ds, e, el⟩ := enc_ex G.pos hs.length (Nat.le_refl _) k num n0 n1
      subst el
      rw [e.ch_eq G.pos (Nat.le_refl _)]
      omega
    exact ⟨c, _, rfl, hc, ld, fun H3 p s3 np hp => q H3 p (s2.trans s3) (s2.free np) hp⟩
end
end TS
namespace TS
open PySem PySem.Spec PyProof.Rows L2
theorem cell0 (q : Nat × Int) : atI (cellV q) 0 = some (.int (q.1 : Int)) := atI_nat (j := 0) rfl
theorem cell1 (q : Nat × Int) : atI (cellV q) 1 = some (.int q.2) := atI_nat (j := 1) rfl
section
variable {P : Program} {w : World} {K : PySem.W.Frag} {mg : Str → Option Value} {base : Heap}
def spIsCell : Sp := fun vs H Q _ => ∃ (a t : Addr) (hs : List Int) (q : Nat × Int), vs = [.ref a, .ref t] ∧ H a = some (.lst (hs.map V.int)) ∧ H t = some (.tup (cellV q)) ∧ q.1 < hs.length ∧ 0 ≤ q.2 ∧ q.2 < ht hs q.1 ∧ Q (.bl true) H
theorem ok_is_cell {f fC : Addr} {fd fdC : FuncData} {m : Nat} (B : Bl mg) (Dis_count : Df P w K mg base "is_count" (m + 1) ["value"] spIsCount fC fdC) (F : Fun K "is_cell" "is_cell" s_is_cell f fd) :
    FnOk P w K mg base CX0 (m + 1 + 1) f fd ["stairs", "cell"] spIsCell := by
  refine F.ok sc_is_cell (fun vs H Q E h => ?_) (fun cdv A outer s H vs Q E hr h => ?_)
  · obtain ⟨a, t, hs, q, rfl, _⟩ := h
    rfl
  · obtain ⟨a, t, hs, q, rfl, hA, hT, c1, c2, c3, k⟩ := h
    refine ⟨_, (pss_cons (ps_if (PW.pt (pw_or (pt_not (pt_val (pe_callB call_isi (by rfl) B.isinstance (by decide +kernel) (pa_cons (pv 1) (pa_cons (pe_bltn (v := .ty "tuple") (by rfl) B.tuple PyProof.Rows.boot_tuple rfl) pa_nil))))) (pw_or1 (pt_cmpR op_ne (pe_callB call_len_seq (by rfl) B.len PySem.boot_len (pa_cons (pv 1) pa_nil)) pe_int (nomark _)))))
  (pss_one (ps_ret pe_bl))
  pss_nil)
 (pss_cons (ps_asg (pv 1) (pg_tup rfl (pgs_cons (pg_name (i := 2) sc_is_cell.nd rfl (.inl rfl)) (pgs_cons (pg_name (i := 3) sc_is_cell.nd rfl (.inl rfl)) pgs_nil))))
 (pss_cons (ps_if (PW.pt (pw_or (pt_not (pt_val (pe_call Dis_count.ok (hr.mono (Nat.le_refl _)) (by rfl) Dis_count.g Dis_count.kp Dis_count.b .nil pass0 (pa_cons (pv 2) pa_nil)))) (pw_or1 (pt_not (pt_val (pe_call Dis_count.ok (hr.mono (Nat.le_refl _)) (by rfl) Dis_count.g Dis_count.kp Dis_count.b .nil pass0 (pa_cons (pv 3) pa_nil)))))))
  (pss_one (ps_ret pe_bl))
  pss_nil)
 (pss_one (ps_ret (pe_and (pe_cmpR op_lt (pv 2) (pe_callB call_len_seq (by rfl) B.len PySem.boot_len (pa_cons (pv 0) pa_nil)) (nomark _)) (pe_one (pe_cmpR op_lt (pv 3) (pe_ix ix_list (pv 0) (pv 2) (fun _ _ => rfl)) (nomark _))))))))), ?_⟩
    have hT' : SqT K H t (cellV q) := SqT.of hT
    refine ⟨_, rfl, _, _, _, _, true, rfl, .ty _, .base (.tup hT), kit_ty (by decide +kernel), true, rfl, iteF ?_⟩
    refine ⟨_, rfl, t, _, rfl, .inr hT', rfl, _, rfl, ?_⟩
    rw [show (!decide (V.int (((cellV q).length : Nat) : Int) = V.int 2)) = false by rfl]
    refine iteF ?_
    refine ⟨_, rfl, t, _, rfl, hT', rfl, _, _, rfl, _, _, rfl, rfl, ?_⟩
    refine ⟨_, rfl, (q.1 : Int), rfl, true, by rw [decide_eq_true (by omega)], iteF ?_⟩
    refine ⟨_, rfl, q.2, rfl, true, by rw [decide_eq_true c2], iteF ?_⟩
    refine ⟨_, rfl, _, rfl, a, _, rfl, .inl (SqL.of hA), _, _, rfl, rfl, true, (by show V.bl (decide ((q.1 : Int) < (((hs.map V.int).length : Nat) : Int))) = V.bl true; rw [decide_eq_true (by rw [List.length_map]; omega)]), iteT ?_⟩
    refine ⟨_, rfl, _, rfl, _, rfl, a, _, _, _, rfl, rfl, SqL.of hA, atI_nat (mapI_at (ht_at c1)), _, _, rfl, rfl, ?_⟩
    show Q (V.bl (decide (q.2 < ht hs q.1))) H
    rw [decide_eq_true c3]
    exact k
def spAreTowers : Sp := fun vs H Q _ => ∃ (a b : Addr) (hs : List Int) (ts : List (Nat × Int)), vs = [.ref a, .ref b] ∧ H a = some (.lst (hs.map V.int)) ∧ PL H b ts ∧ Valid hs ts ∧ ts.length ≤ 1000 ∧ ∀ H', Same H H' → Q (.bl true) H'
theorem ok_are_towers {f fC : Addr} {fd fdC : FuncData} {m : Nat} (B : Bl mg) (Dis_cell : Df P w K mg base "is_cell" (m + 1) ["stairs", "cell"] spIsCell fC fdC) (F : Fun K "are_towers" "are_towers" s_are_towers f fd) :
    FnOk P w K mg base CX0 (m + 1 + 1) f fd ["stairs", "towers"] spAreTowers := by
  refine F.ok sc_are_towers (fun vs H Q E h => ?_) (fun cdv A outer s H vs Q E hr h => ?_)
  · obtain ⟨a, b, hs, ts, rfl, _⟩ := h
    rfl
  · obtain ⟨a, b, hs, ts, rfl, hA, ⟨ps, hB, hP, rfl⟩, Vd, hl, k⟩ := h
    rw [List.length_map] at hl
    refine ⟨_, (pss_cons (ps_if (pt_not (pt_val (pe_callB call_isi (by rfl) B.isinstance (by decide +kernel) (pa_cons (pv 1) (pa_cons (pe_bltn (v := .ty "list") (by rfl) B.list PyProof.Rows.boot_list rfl) pa_nil)))))
  (pss_one (ps_ret pe_bl))
  pss_nil)
 (pss_cons (ps_set (i := 2) sc_are_towers.nd rfl (.inl rfl) pe_int)
 (pss_cons (ps_for PassesOwn.never rfl (pi_list (pv 1)) (pg_name (i := 3) sc_are_towers.nd rfl (.inl rfl))
  (pss_cons (ps_if (PW.pt (pw_or (pt_not (pt_val (pe_call Dis_cell.ok (hr.mono (Nat.le_refl _)) (by rfl) Dis_cell.g Dis_cell.kp Dis_cell.b .nil pass0 (pa_cons (pv 0) (pa_cons (pv 3) pa_nil))))) (pw_or1 (pt_cmpR op_lt (pe_ix ix_tup (pv 3) pe_int (fun _ _ => rfl)) (pv 2) (nomark _)))))
  (pss_one (ps_ret pe_bl))
  pss_nil)
 (pss_one (ps_set (i := 2) sc_are_towers.nd rfl (.inl rfl) (pe_op op_add (pe_ix ix_tup (pv 3) pe_int (fun _ _ => rfl)) pe_int)))))
 (pss_one (ps_ret (pe_cmpR op_eq (pe_callB cr_lenSet (by rfl) B.len PySem.boot_len (pa_cons (pe_sci (own := [("cell", 3)]) (g := gName 3) rfl sc_are_towers.nd (pi_list (pv 1)) (blkOk_by (N := N_are_towers) (sc := defScope s_are_towers) (by decide +kernel)) (fun _ _ _ _ _ => pg_name (i := 3) sc_are_towers.nd rfl (Or.inl rfl)) (fun _ _ _ _ _ => (pe_ix (ixTK (K := K)) (pv 3) pe_int (fun _ _ => rfl)))) pa_nil)) (pe_callB call_len_seq (by rfl) B.len PySem.boot_len (pa_cons (pv 1) pa_nil)) (nomark _))))))), ?_⟩
    refine ⟨_, rfl, _, _, _, _, true, rfl, .ty _, .base (.lst hB), kit_ty (by decide +kernel), true, rfl, iteF ?_⟩
    refine ⟨_, rfl, b, rfl, ⟨_, SqL.of hB⟩, for_list (K := K) (a := b) (xs := refsT ps) (fun i σ H' => ∃ (z : Int) (v : Option V), σ = [some (.ref a), some (.ref b), some (.int z), v] ∧ H' = H ∧ ∀ q, (ps.map Prod.snd)[i]? = some q → z ≤ (q.1 : Int))
      ⟨0, none, rfl, rfl, fun q _ => by omega⟩ (fun i σ H' _ ⟨_, _, _, e, _⟩ => by rw [e]; exact SqL.of hB) ?_ ?_⟩
    · rintro i x σ H' hi ⟨z, v, rfl, rfl, hz⟩
      obtain ⟨t, q, rfl, hq⟩ := refsT_at hi
      have hq2 := snd_at hq
      have hz' := hz q hq2
      have hc := Vd.cell q (List.mem_of_getElem? hq2)
      have hT : H' t = some (.tup (cellV q)) := hP _ (List.mem_of_getElem? hq)
      refine ⟨_, rfl, _, rfl, a, t, hs, q, rfl, hA, hT, hc.1, hc.2.1, hc.2.2, true, rfl, iteF ?_⟩
      refine ⟨_, rfl, t, _, _, _, rfl, rfl, SqT.of hT, cell0 q, _, rfl, _, _, rfl, rfl, _, rfl, ?_⟩
      rw [decide_eq_false (by omega)]
      refine iteF ?_
      refine ⟨_, rfl, t, _, _, _, rfl, rfl, SqT.of hT, cell0 q, _, _, rfl, rfl, (q.1 : Int) + 1, some (.ref t), rfl, rfl, fun q' hq' => ?_⟩
      have lt1 := (List.getElem?_eq_some_iff.mp hq2)
      have lt2 := (List.getElem?_eq_some_iff.mp hq')
      obtain ⟨l1, e1⟩ := lt1
      obtain ⟨l2, e2⟩ := lt2
      have := List.pairwise_iff_getElem.mp Vd.asc i (i + 1) l1 l2 (by omega)
      rw [e1, e2] at this
      omega
    · rintro σ H' ⟨z, v, rfl, rfl, _⟩
      refine ⟨_, rfl, b, rfl, ⟨_, SqL.of hB⟩, fun D nD => sci_list (K := K) (a := b) (xs := refsT ps) (fun i H2 => ∃ S, Same H' H2 ∧ H2 D = some (SetO w D S i) ∧ ∀ j, S j = true ↔ j ∈ (rowsOf (ps.map Prod.snd)).take i)
        ⟨_, same_upd nD, upd_same, fun j => by simp⟩ (fun i H2 _ ⟨_, e, _⟩ => SqL.of (e _ _ hB)) ?_ ?_⟩
      · rintro i x H2 hi ⟨S, sm, hD, hS⟩
        obtain ⟨t, q, rfl, hq⟩ := refsT_at hi
        have hT : H2 t = some (.tup (cellV q)) := sm _ _ (hP _ (List.mem_of_getElem? hq))
        have hil : i < ps.length := (List.getElem?_eq_some_iff.mp hq).1
        have hr : (rowsOf (ps.map Prod.snd))[i]? = some q.2 := by rw [List.getElem?_map, snd_at hq]; rfl
        have fresh : S q.2 = false := by
          cases e : S q.2 with
          | false => rfl
          | true =>
            have m := (hS q.2).mp e
            obtain ⟨j, hj⟩ := List.mem_iff_getElem?.mp m
            rw [List.getElem?_take] at hj
            split at hj
            · next c =>
              have := nd_ix Vd.rows hj hr
              omega
            · cases hj
        refine ⟨rfl, _, rfl, t, _, _, _, rfl, rfl, SqT.of hT, cell1 q, q.2, S, i, rfl, hD, by unfold scanBound; omega, ?_⟩
        refine ⟨fun j => S j || decide (j = q.2), same_mut sm nD, ?_, fun j => ?_⟩
        · rw [upd_same]
          show some (SetO w D _ (if S q.2 = true then i else i + 1)) = _
          rw [fresh]
          rfl
        · rw [List.take_add_one, hr, Option.toList_some, List.mem_append, List.mem_singleton, ← hS j]
          simp
      · rintro H2 ⟨S, sm, hD, hS⟩
        refine ⟨D, S, _, rfl, hD, _, rfl, b, _, rfl, .inl (SqL.of (sm _ _ hB)), rfl, ?_⟩
        rw [decide_eq_true rfl]
        exact k H2 sm
end
end TS
namespace TS
open PySem PySem.Spec PyProof.Rows L2
/-- towers as a dict's pairs -/
def kvsOf (ts : List (Nat × Int)) : List (Key × V) := ts.map fun q => (Sum.inl (q.1 : Int), V.int q.2)
theorem merge_snoc (ts : List (Nat × Int)) (q : Nat × Int) : mergeK [] (kvsOf (ts ++ [q])) = putK (mergeK [] (kvsOf ts)) (Sum.inl (q.1 : Int)) (V.int q.2) := by
  unfold kvsOf mergeK
  rw [List.map_append, List.foldl_append]
  rfl
theorem key_ne {a b : Nat} (h : a ≠ b) : ¬ (Sum.inl (a : Int) : Key) = Sum.inl (b : Int) := fun z => by
  have := Sum.inl.inj z
  omega
theorem dict_gets : ∀ (ts : List (Nat × Int)), (ts.Pairwise fun a b => a.1 < b.1) → (∀ c r, (c, r) ∈ ts → valV (mergeK [] (kvsOf ts)) (Sum.inl (c : Int)) = some (V.int r)) ∧ (∀ c : Nat, (∀ q ∈ ts, q.1 ≠ c) → valV (mergeK [] (kvsOf ts)) (Sum.inl (c : Int)) = none) := by
  have go : ∀ (n : Nat) (ts : List (Nat × Int)), ts.length = n → (ts.Pairwise fun a b => a.1 < b.1) → (∀ c r, (c, r) ∈ ts → valV (mergeK [] (kvsOf ts)) (Sum.inl (c : Int)) = some (V.int r)) ∧ (∀ c : Nat, (∀ q ∈ ts, q.1 ≠ c) → valV (mergeK [] (kvsOf ts)) (Sum.inl (c : Int)) = none) := by
    intro n
    induction n with
    | zero =>
      intro ts e _
      rw [List.length_eq_zero_iff.mp e]
      exact ⟨fun c r h => (by cases h), fun c _ => rfl⟩
    | succ n ih =>
      intro ts e ha
      have ne : ts ≠ [] := by intro z; rw [z] at e; cases e
      obtain ⟨us, q, rfl⟩ : ∃ us q, ts = us ++ [q] := ⟨_, _, (List.dropLast_concat_getLast ne).symm⟩
      obtain ⟨h1, _, h3⟩ := List.pairwise_append.mp ha
      rw [List.length_append, List.length_singleton] at e
      obtain ⟨i1, i2⟩ := ih us (by omega) h1
      rw [merge_snoc]
      refine ⟨fun c r h => ?_, fun c h => ?_⟩
      · rw [valV_put]
        rcases List.mem_append.mp h with h | h
        · have lt := h3 _ h q (by simp)
          rw [if_neg (key_ne (by have : c < q.1 := lt; omega))]
          exact i1 c r h
        · have e2 := List.mem_singleton.mp h
          subst e2
          rw [if_pos rfl]
      · rw [valV_put, if_neg (key_ne (fun z => h q (by simp) z.symm))]
        exact i2 c fun t ht => h t (by simp [ht])
  exact fun ts => go _ ts rfl
section
variable {P : Program} {w : World} {K : PySem.W.Frag} {mg : Str → Option Value} {base : Heap}
def spNumberOf (K : PySem.W.Frag) : Sp := fun vs H Q _ => ∃ (a b : Addr) (hs : List Int) (ts : List (Nat × Int)), vs = [.ref a, .ref b] ∧ H a = some (.lst (hs.map V.int)) ∧ PL H b ts ∧ Good hs ∧ Valid hs ts ∧ ts.length ≤ 1000 ∧
  ∀ H' num, Same H H' → Run hs hs.length ts num → Q (.int num) H'
theorem ok_number_of {f f1 f2 f3 f4 f5 : Addr} {fd d1 d2 d3 d4 d5 : FuncData} {m : Nat} (B : Bl mg) (Dcheck_stairs : Df P w K mg base "check_stairs" (m + 3) ["stairs"] spCheck f1 d1) (Dare_towers : Df P w K mg base "are_towers" (m + 3) ["stairs", "towers"] spAreTowers f2 d2)
    (Dways_without_columns : Df P w K mg base "ways_without_columns" (m + 1) ["most"] spNoCols f3 d3) (D_free_below : Df P w K mg base "_free_below" (m + 1) ["taken", "row"] (spFreeBelow K) f4 d4) (Dadd_column : Df P w K mg base "add_column" (m + 1) ["ways", "height"] spAddCol f5 d5)
    (F : Fun K "number_of" "number_of" s_number_of f fd) : FnOk P w K mg base CX0 (m + 3 + 1) f fd ["stairs", "towers"] (spNumberOf K) := by
  refine F.ok sc_number_of (fun vs H Q E h => ?_) (fun cdv A outer s H vs Q E hr h => ?_)
  · obtain ⟨a, b, hs, ts, rfl, _⟩ := h
    rfl
  · obtain ⟨a, b, hs, ts, rfl, hA, hP, G, Vd, hl, q⟩ := h
    refine ⟨_, (pss_cons (ps_expr (pe_call Dcheck_stairs.ok (hr.mono (Nat.le_refl _)) (by rfl) Dcheck_stairs.g Dcheck_stairs.kp Dcheck_stairs.b .nil pass0 (pa_cons (pv 0) pa_nil)))
 (pss_cons (ps_if (pt_not (pt_val (pe_call Dare_towers.ok (hr.mono (Nat.le_refl _)) (by rfl) Dare_towers.g Dare_towers.kp Dare_towers.b .nil pass0 (pa_cons (pv 0) (pa_cons (pv 1) pa_nil)))))
  (pss_one ps_never)
  pss_nil)
 (pss_cons (ps_set (i := 2) sc_number_of.nd rfl (.inl rfl) (pe_callTy (call_dictP rfl) (by rfl) B.dict (by decide +kernel) (pa_cons (pv 1) pa_nil)))
 (pss_cons (ps_set (i := 3) sc_number_of.nd rfl (.inl rfl) (pe_call Dways_without_columns.ok (hr.mono (by omega)) (by rfl) Dways_without_columns.g Dways_without_columns.kp Dways_without_columns.b .nil pass0 (pa_cons (pe_callB call_len_seq (by rfl) B.len PySem.boot_len (pa_cons (pv 1) pa_nil)) pa_nil)))
 (pss_cons (ps_set (i := 4) sc_number_of.nd rfl (.inl rfl) (pe_lst pa_nil))
 (pss_cons (ps_set (i := 5) sc_number_of.nd rfl (.inl rfl) pe_int)
 (pss_cons (ps_for PassesOwn.never rfl (pi_enum (by rfl) B.enumerate (pa_cons (pv 0) pa_nil)) (pg_tup rfl (pgs_cons (pg_name (i := 6) sc_number_of.nd rfl (.inl rfl)) (pgs_cons (pg_name (i := 7) sc_number_of.nd rfl (.inl rfl)) pgs_nil)))
  (Evl.pss_cut (ps_if (pt_cmp (pc_din (hu_of hr) (pv 6) (pv 2)))
  (pss_cons (ps_set (i := 8) sc_number_of.nd rfl (.inl rfl) (pe_callB call_len_seq (by rfl) B.len PySem.boot_len (pa_cons (pv 4) pa_nil)))
 (pss_cons (ps_set (i := 9) sc_number_of.nd rfl (.inl rfl) (pe_call D_free_below.ok (hr.mono (by omega)) (by rfl) D_free_below.g D_free_below.kp D_free_below.b .nil pass0 (pa_cons (pv 4) (pa_cons (pe_dget (hu_of hr) (pv 2) (pv 6) (fun _ _ => rfl)) pa_nil))))
 (pss_cons (ps_set (i := 5) sc_number_of.nd rfl (.inl rfl) (pe_op op_add (pe_op op_add (pe_ix ix_list (pv 3) (pe_op op_add (pv 8) pe_int) (fun _ _ => rfl)) (pe_op op_mulW (pv 5) (pe_op op_sub (pv 7) (pv 8)))) (pv 9)))
 (pss_one (ps_expr (pe_bm PySem.F.plainAttrs_list PySem.F.slot_list_append PySem.F.type_list_append mt_append (pv 4) (pa_cons (pe_dget (hu_of hr) (pv 2) (pv 6) (fun _ _ => rfl)) pa_nil)))))))
  pss_nil)
 (pss_one (ps_expr (pe_call Dadd_column.ok (hr.mono (by omega)) (by rfl) Dadd_column.g Dadd_column.kp Dadd_column.b .nil pass0 (pa_cons (pv 3) (pa_cons (pv 7) pa_nil)))))))
 (pss_one (ps_ret (pv 5)))))))))), ?_⟩
    have hlen := G.len
    refine ⟨_, rfl, a, hs, rfl, hA, G.rise, G.pos, ?_⟩
    refine ⟨_, rfl, _, rfl, a, b, hs, ts, rfl, hA, hP, Vd, hl, fun H1 s1 => ⟨true, rfl, iteF ?_⟩⟩
    obtain ⟨ps, hPl, hPt, hPe⟩ := hP.same s1
    have ereft : refsT ps = (ps.map Prod.fst).map V.ref := by rw [List.map_map]; rfl
    have epair : ∀ qs : Prs, Tps H1 qs → Paired (fun p (kv : Key × V) => SqT K H1 p [kV kv.1, kv.2]) (qs.map Prod.fst) (kvsOf (qs.map Prod.snd)) := by
      intro qs
      induction qs with
      | nil => intro _; exact .nil
      | cons p r ih =>
        intro h
        exact .cons (SqT.of (h p (by simp))) (ih fun x hx => h x (by simp [hx]))
    refine ⟨_, rfl, b, ps.map Prod.fst, kvsOf (ps.map Prod.snd), rfl, SqL.of (by rw [← ereft]; exact hPl), epair ps hPt, fun dc ndc => ?_⟩
    rw [hPe]
    obtain ⟨dget, dnone⟩ := dict_gets ts Vd.asc
    have s2 : Same H1 (upd H1 dc (.dK (mergeK [] (kvsOf ts)))) := same_upd ndc
    have hD2 : (upd H1 dc (.dK (mergeK [] (kvsOf ts)))) dc = some (.dK (mergeK [] (kvsOf ts))) := upd_same
    have ndH : H dc = none := s1.free ndc
    have s02 := s1.trans s2
    revert hD2 s02
    have hPl2 := s2 _ _ hPl
    revert hPl2
    clear s2
    generalize upd H1 dc (.dK (mergeK [] (kvsOf ts))) = H2
    intro hPl2 hD2 s02
    have eL : (((refsT ps).length : Nat) : Int) = (ts.length : Int) := by rw [← hPe, List.length_map, List.length_map]
    refine ⟨_, rfl, b, _, rfl, .inl (SqL.of hPl2), ts.length, by rw [eL]; rfl, hl, fun H3 wv s3 nwv hwv => ?_⟩
    refine ⟨Nat.zero_le _, fun tk ntk => ?_⟩
    have s4 : Same H3 (upd H3 tk (.lst [])) := same_upd ntk
    have nwvH : H wv = none := s02.free nwv
    have ntkH : H tk = none := (s02.trans s3).free ntk
    have htk : (upd H3 tk (.lst [])) tk = some (.lst []) := upd_same
    have nwt : wv ≠ tk := ne_of_none hwv ntk
    have ndt : dc ≠ tk := ne_of_none (s3 _ _ hD2) ntk
    have ndw : dc ≠ wv := ne_of_none hD2 nwv
    have s04 := s02.trans (s3.trans s4)
    refine ⟨_, rfl, a, _, rfl, SqL.of (s04 _ _ hA), for_enum (K := K) (a := a) (xs := hs.map V.int) (fun i σ H' => ∃ (num : Int) (x6 x7 x8 x9 : Option V), σ = [some (.ref a), some (.ref b), some (.ref dc), some (.ref wv), some (.ref tk), some (.int num), x6, x7, x8, x9] ∧ Same H H' ∧ H' dc = some (.dK (mergeK [] (kvsOf ts))) ∧
        H' wv = some (.lst ((tab (cn hs i) (ts.length + 1)).map V.int)) ∧ H' tk = some (.lst ((rowsOf (pre ts i)).map V.int)) ∧ Run hs i (pre ts i) num)
      ⟨0, none, none, none, none, rfl, s04, s4 _ _ (s3 _ _ hD2), ?_, ?_, ?_⟩ (fun i σ H' _ ⟨_, _, _, _, _, _, e, _⟩ => SqL.of (e _ _ hA)) ?_ ?_⟩
    · rw [s4 _ _ hwv]
      show _ = some (HO.lst ((tab (cntF (hs.take 0)) (ts.length + 1)).map V.int))
      rw [List.take_zero, cntF_nil]
    · rw [htk, pre_zero]
      rfl
    · rw [pre_zero]
      exact .zero
    · rintro i y T σ H' hi ⟨num, x6, x7, x8, x9, rfl, sm, hD, hW, hK, run⟩ nT
      obtain ⟨h, rfl, hh⟩ := mapI_get hi
      have hin : i < hs.length := (List.getElem?_eq_some_iff.mp hh).1
      have eh : h = ht hs i := by
        have := ht_at hin
        rw [hh] at this
        exact Option.some.inj this
      have bb := G.b h (List.mem_of_getElem? hh)
      have b208 : (2 : Int) ^ 208 = ((2 ^ 208 : Nat) : Int) := rfl
      have b209 : (2 : Nat) ^ 209 = 2 ^ 208 * 2 := rfl
      have b210 : (2 : Nat) ^ 210 = 2 ^ 208 * 4 := rfl
      have b1000 : 1000 ≤ (2 : Nat) ^ 208 := by decide
      have sT : Same H' (upd H' T (.tup [V.int (i : Int), V.int h])) := same_upd nT
      refine ⟨T, _, rfl, SqT.of upd_same, rfl, _, _, rfl, _, _, rfl, rfl, ?_⟩
      have hD' := sT _ _ hD
      have hW' := sT _ _ hW
      have hK' := sT _ _ hK
      have sm' := sm.trans sT
      revert hD' hW' hK' sm'
      clear sT
      generalize upd H' T (.tup [V.int (i : Int), V.int h]) = H5
      intro hD' hW' hK' sm'
      have lpre := pre_len ts i
      refine ⟨fun σ H6 => ∃ (num' : Int) (x8 x9 : Option V), σ = [some (.ref a), some (.ref b), some (.ref dc), some (.ref wv), some (.ref tk), some (.int num'), some (.int (i : Int)), some (.int h), x8, x9] ∧ Same H H6 ∧ H6 dc = some (.dK (mergeK [] (kvsOf ts))) ∧
        H6 wv = some (.lst ((tab (cn hs i) (ts.length + 1)).map V.int)) ∧ H6 tk = some (.lst ((rowsOf (pre ts (i + 1))).map V.int)) ∧ Run hs (i + 1) (pre ts (i + 1)) num', ?_, ?_⟩
      · by_cases c : ∃ r, (i, r) ∈ ts
        · obtain ⟨r, hr'⟩ := c
          have hv := dget i r hr'
          have vc := Vd.cell _ hr'
          have ap := rows_apart Vd.rows hr'
          have ep := pre_some Vd.asc hr'
          obtain ⟨ds, enc, etw, eln⟩ := run.enc G.rise (Nat.le_of_lt hin)
          have rg := enc.rng G.pos (Nat.le_of_lt hin)
          have eT : ((((rowsOf (pre ts i)).map V.int).length : Nat) : Int) = ((pre ts i).length : Int) := by rw [List.length_map, List.length_map]
          have lt1 : (pre ts i).length + 1 ≤ ts.length := by
            have := pre_len ts (i + 1)
            rw [ep, List.length_append, List.length_singleton] at this
            exact this
          refine ⟨_, rfl, _, rfl, dc, _, rfl, DGet.k (k := Sum.inl (i : Int)) hD', _, rfl, ?_⟩
          rw [hv]
          refine iteT ?_
          refine ⟨_, rfl, tk, _, rfl, .inl (SqL.of hK'), ?_⟩
          rw [eT]
          refine ⟨_, rfl, _, rfl, _, rfl, dc, V.int r, rfl, by rw [← hv]; exact DGet.k (k := Sum.inl (i : Int)) hD', tk, rowsOf (pre ts i), r, rfl, il_of hK', by rw [List.length_map]; omega, fun H6 s6 => ?_⟩
          have hg : ((tab (cn hs i) (ts.length + 1)).map V.int)[(pre ts i).length + 1]? = some (.int (cn hs i ((pre ts i).length + 1))) := mapI_at (tab_get (by omega))
          refine ⟨_, rfl, _, rfl, _, _, rfl, rfl, wv, _, _, _, rfl, rfl, SqL.of (s6 _ _ hW'), at_of (by omega) hg, _, rfl, _, rfl, _, rfl, _, _, rfl, rfl, _, _, rfl, rfl, ?_, _, _, rfl, rfl, _, rfl, _, _, rfl, rfl, ?_⟩
          · refine wide_mul (a := 208 * 100 + 1) (b := 210) ?_ ?_ (by decide) (by decide) (by decide)
            · have z := cn_abs G i ds.length
              omega
            · omega
          · refine ⟨_, rfl, .inl ⟨rfl, _, SqL.of (s6 _ _ hK')⟩, _, rfl, _, rfl, dc, V.int r, rfl, by rw [← hv]; exact DGet.k (k := Sum.inl (i : Int)) (s6 _ _ hD'), tk, _, _, rfl, rfl, s6 _ _ hK', ?_, ?_⟩
            · rw [List.length_map, List.length_map]
              exact sz63' (by omega)
            · have rn := Run.put (r := r) run ap vc.2.1 vc.2.2
              refine ⟨_, some (.int ((pre ts i).length : Int)), some (.int (r - less (rowsOf (pre ts i)) r)), rfl, same_mut (sm'.trans s6) ntkH, ?_, ?_, ?_, ?_⟩
              · rw [upd_ne ndt]
                exact s6 _ _ hD'
              · rw [upd_ne nwt]
                exact s6 _ _ hW'
              · rw [upd_same, ep]
                show _ = some (HO.lst ((List.map Prod.snd (pre ts i ++ [(i, r)])).map V.int))
                rw [List.map_append, List.map_append]
                rfl
              · rw [ep, eh]
                exact rn
        · have hn : ∀ t ∈ ts, t.1 ≠ i := fun t ht' e => c ⟨t.2, by rw [← e]; exact ht'⟩
          have hv := dnone i hn
          refine ⟨_, rfl, _, rfl, dc, _, rfl, DGet.k (k := Sum.inl (i : Int)) hD', _, rfl, ?_⟩
          rw [hv]
          refine iteF ?_
          refine ⟨num, _, _, rfl, sm', hD', hW', ?_, ?_⟩
          · rw [pre_none hn]
            exact hK'
          · rw [pre_none hn]
            exact .skip run
      · rintro σ H6 ⟨num', y8, y9, rfl, sm6, hD6, hW6, hK6, run6⟩
        refine ⟨_, rfl, _, rfl, wv, h, ts.length, 208 * 100 + 1, cntF (hs.take i), rfl, hW6, hl, bb.1, by omega, by decide, by decide, cnt_take G i, ?_⟩
        refine ⟨num', _, _, _, _, rfl, same_mut sm6 nwvH, ?_, ?_, ?_, run6⟩
        · rw [upd_ne ndw]
          exact hD6
        · rw [upd_same, ← cntF_take hh]
        · rw [upd_ne nwt.symm]
          exact hK6
    · rintro σ H' ⟨num, x6, x7, x8, x9, rfl, sm, hD, hW, hK, run⟩
      rw [List.length_map] at run
      rw [pre_all (fun q hq => (Vd.cell q hq).1)] at run
      exact ⟨_, rfl, q H' num sm run⟩
end
end TS
namespace TS
open PySem PySem.Spec PyProof.Rows L2
theorem cut_map (ns : List Int) (lo hi : Option Int) : ∃ ms : List Int, cutV (ns.map V.int) lo hi = ms.map V.int ∧ ms.length ≤ ns.length := by
  refine ⟨(ns.drop (HT.sIx ns.length 0 lo)).take (HT.sIx ns.length ns.length hi - HT.sIx ns.length 0 lo), ?_, ?_⟩
  · unfold cutV
    rw [List.length_map, List.map_take, List.map_drop]
  · rw [List.length_take, List.length_drop]
    omega
theorem strict_same : ∀ {a b : List Int}, a.Pairwise (· < ·) → b.Pairwise (· < ·) → (∀ k, k ∈ a ↔ k ∈ b) → a = b
  | [], [], _, _, _ => rfl
  | [], y :: b, _, _, h => by have := (h y).mpr (by simp); simp at this
  | x :: a, [], _, _, h => by have := (h x).mp (by simp); simp at this
  | x :: a, y :: b, ha, hb, h => by
    obtain ⟨a1, a2⟩ := List.pairwise_cons.mp ha
    obtain ⟨b1, b2⟩ := List.pairwise_cons.mp hb
    have e : x = y := by
      rcases List.mem_cons.mp ((h x).mp (by simp)) with e | m
      · exact e
      · rcases List.mem_cons.mp ((h y).mpr (by simp)) with e | m'
        · exact e.symm
        · have := a1 y m'
          have := b1 x m
          omega
    subst e
    rw [strict_same a2 b2 fun k => ?_]
    constructor
    · intro m
      rcases List.mem_cons.mp ((h k).mp (by simp [m])) with e | m'
      · have := a1 k m
        omega
      · exact m'
    · intro m
      rcases List.mem_cons.mp ((h k).mpr (by simp [m])) with e | m'
      · have := b1 k m
        omega
      · exact m'
abbrev colsOf (ts : List (Nat × Int)) : List Int := ts.map fun q => (q.1 : Int)
theorem cols_strict {ts : List (Nat × Int)} (h : ts.Pairwise fun a b => a.1 < b.1) : (colsOf ts).Pairwise (· < ·) := by
  refine List.pairwise_map.mpr (h.imp fun {a b} hab => ?_)
  omega
section
variable {P : Program} {w : World} {K : PySem.W.Frag} {mg : Str → Option Value} {base : Heap}
def spFar (K : PySem.W.Frag) : Sp := fun vs H Q _ => ∃ (a : Addr) (ns : List Int) (by' : Nat) (most : Int), vs = [.ref a, .int (by' : Int), .int most] ∧ IL K H a ns ∧ ns.length ≤ 1000 ∧ by' ≤ 1000 ∧ 0 < most ∧ ∀ H' v, Same H H' → 0 ≤ v → v < most → Q (.int v) H'
theorem ok_l_far {f fD : Addr} {fd fdD : FuncData} {m : Nat} (B : Bl mg) (Dl_draw : Df P w K mg base "_law_draw" (m + 1) ["_law_cell", "_law_k", "_law_many"] spDraw fD fdD) (F : Fun K "_law_far" "_law_far" s_l_far f fd) :
    FnOk P w K mg base CX0 (m + 1 + 1) f fd ["_law_script", "_law_by", "_law_most"] (spFar K) := by
  refine F.ok sc_l_far (fun vs H Q E h => ?_) (fun cdv A outer s H vs Q E hr h => ?_)
  · obtain ⟨a, ns, by', most, rfl, _⟩ := h
    rfl
  · obtain ⟨a, ns, by', most, rfl, hS, hl, hby, hmo, q⟩ := h
    refine ⟨_, (pss_cons (ps_set (i := 3) sc_l_far.nd rfl (.inl rfl) pe_int)
 (pss_cons (ps_for PassesOwn.never rfl (pi_range1 rfl B.range (pa_cons (pe_callB call_len_seq (by rfl) B.len PySem.boot_len (pa_cons (pv 0) pa_nil)) pa_nil)) (pg_name (i := 4) sc_l_far.nd rfl (.inl rfl))
  (pss_one (ps_set (i := 3) sc_l_far.nd rfl (.inl rfl) (pe_op op_add (pe_op op_add (pe_op op_mul (pv 3) pe_int) (pe_op op_fdiv (pe_ix ix_list (pv 0) (pv 4) (fun _ _ => rfl)) pe_int)) (pe_call Dl_draw.ok (hr.mono (Nat.le_refl _)) (by rfl) Dl_draw.g Dl_draw.kp Dl_draw.b .nil pass0 (pa_cons (pe_ix ix_list (pv 0) (pv 4) (fun _ _ => rfl)) (pa_cons (pe_op op_add (pe_op op_mod (pv 4) pe_int) (pv 1)) (pa_cons pe_int pa_nil))))))))
 (pss_one (ps_ret (pe_op op_mod (pv 3) (pv 2)))))), ?_⟩
    have en : ((((ns.map V.int).length : Nat) : Int)).toNat = ns.length := by rw [List.length_map, Int.toNat_natCast]
    refine ⟨_, rfl, a, _, rfl, .inl hS, _, rfl, by omega, by rw [List.length_map]; omega, for_range (lo := 0) (n := ((((ns.map V.int).length : Nat) : Int)).toNat) (fun i σ H' => ∃ (z : Int) (v : Option V), σ = [some (.ref a), some (.int (by' : Int)), some (.int most), some (.int z), v] ∧ Same H H') ⟨0, none, rfl, Same.refl _⟩ ?_ ?_⟩
    · rintro i σ H' hi ⟨z, v, rfl, sm⟩
      have hi' : i < ns.length := by omega
      have ez : (0 : Int) + (i : Int) = (i : Int) := by omega
      have ek : ((i : Int)) % 3 + (by' : Int) = ((i % 3 + by' : Nat) : Int) := by omega
      have hS' := sm.seq hS
      rw [ez]
      refine ⟨_, rfl, _, _, rfl, rfl, .inr ⟨by decide, by decide⟩, _, rfl, _, rfl, a, _, _, _, rfl, rfl, hS', atI_nat (mapI_at (getD_at hi')), _, _, rfl, rfl, ⟨by decide, by decide⟩, _, _, rfl, rfl, _, rfl, _, rfl, a, _, _, _, rfl, rfl, hS', atI_nat (mapI_at (getD_at hi')), _, rfl, _, _, rfl, rfl, (by show (0 : Int) < 3; decide), _, rfl, _, _, rfl, rfl, ns.getD i 0, 1000003, i % 3 + by', ?_, by decide, by omega, fun H2 s2 => ?_⟩
      · rw [← ek]
        rfl
      · exact ⟨_, _, rfl, rfl, _, _, rfl, sm.trans s2⟩
    · rintro σ H' ⟨z, v, rfl, sm⟩
      refine ⟨_, rfl, _, rfl, _, _, rfl, rfl, hmo, ?_⟩
      exact q H' (z % most) sm (Int.emod_nonneg _ (by omega)) (Int.emod_lt_of_pos _ hmo)
def spSet (K : PySem.W.Frag) : Sp := fun vs H Q _ => ∃ (s a : Addr) (ns hs : List Int) (by' : Nat), vs = [.ref s, .ref a, .int (by' : Int)] ∧ IL K H s ns ∧ ns.length ≤ 1000 ∧ IL K H a hs ∧ hs.length ≤ ns.length ∧ by' ≤ 900 ∧
  ∀ H' p ts, Same H H' → H p = none → PL H' p ts → Valid hs ts → Q (.ref p) H'
theorem ok_l_set {f fD fR : Addr} {fd fdD fdR : FuncData} {m : Nat} (B : Bl mg) (Dl_draw : Df P w K mg base "_law_draw" (m + 1) ["_law_cell", "_law_k", "_law_many"] spDraw fD fdD) (Dl_far : Df P w K mg base "_law_far" (m + 2) ["_law_script", "_law_by", "_law_most"] (spFar K) fR fdR)
    (F : Fun K "_law_set" "_law_set" s_l_set f fd) : FnOk P w K mg base CX0 (m + 2 + 1) f fd ["_law_script", "_law_stairs_here", "_law_by"] (spSet K) := by
  refine F.ok sc_l_set (fun vs H Q E h => ?_) (fun cdv A outer s H vs Q E hr h => ?_)
  · obtain ⟨s, a, ns, hs, by', rfl, _⟩ := h
    rfl
  · obtain ⟨s, a, ns, hs, by', rfl, hN, hl, hS, hle, hby, q⟩ := h
    refine ⟨_, (pss_cons (ps_par (i := 3) (j := 4) rfl sc_l_set.nd rfl rfl (by decide) rfl rfl (pa_cons (pe_lst pa_nil) (pa_cons (pe_lst pa_nil) pa_nil)) (by rfl))
 (pss_cons (ps_for PassesOwn.never rfl (pi_enum (by rfl) B.enumerate (pa_cons (pv 1) pa_nil)) (pg_tup rfl (pgs_cons (pg_name (i := 5) sc_l_set.nd rfl (.inl rfl)) (pgs_cons (pg_name (i := 6) sc_l_set.nd rfl (.inl rfl)) pgs_nil)))
  (pss_one (ps_if (PW.pt (pw_and (pt_cmpR op_gt (pv 6) pe_int (nomark _)) (pw_and1 (pt_cmpR op_gt (pe_call Dl_draw.ok (hr.mono (by omega)) (by rfl) Dl_draw.g Dl_draw.kp Dl_draw.b .nil pass0 (pa_cons (pe_ix ix_list (pv 0) (pv 5) (fun _ _ => rfl)) (pa_cons (pe_op op_add (pv 2) pe_int) (pa_cons pe_int pa_nil)))) pe_int (nomark _)))))
  (pss_cons (ps_set (i := 7) sc_l_set.nd rfl (.inl rfl) (pe_call Dl_far.ok (hr.mono (Nat.le_refl _)) (by rfl) Dl_far.g Dl_far.kp Dl_far.b .nil pass0 (pa_cons (pe_slice sl_list (pv 0) (po_some (pv 5)) (po_some (pe_op op_add (pv 5) pe_int))) (pa_cons (pv 2) (pa_cons (pv 6) pa_nil)))))
 (pss_one (ps_if (pt_cmpR op_notIn_seq (pv 7) (pv 4) (by rfl))
  (pss_cons (ps_expr (pe_bm PySem.F.plainAttrs_list PySem.F.slot_list_append PySem.F.type_list_append mt_append (pv 4) (pa_cons (pv 7) pa_nil)))
 (pss_one (ps_expr (pe_bm PySem.F.plainAttrs_list PySem.F.slot_list_append PySem.F.type_list_append mt_append (pv 3) (pa_cons (pe_tup (pa_cons (pv 5) (pa_cons (pv 7) pa_nil))) pa_nil)))))
  pss_nil)))
  pss_nil)))
 (pss_one (ps_ret (pv 3))))), ?_⟩
    refine ⟨Nat.zero_le _, fun fa nfa => ⟨Nat.zero_le _, fun ra nra => ⟨_, _, rfl, ?_⟩⟩⟩
    have s0 := (same_upd (o := .lst []) nfa).trans (same_upd (o := .lst []) nra)
    have hra : (upd (upd H fa (.lst [])) ra (.lst [])) ra = some (.lst []) := upd_same
    have hfa := same_upd (o := .lst []) nra fa _ upd_same
    have nfr : fa ≠ ra := ne_of_none upd_same nra
    have nraH : H ra = none := (same_upd nfa).free nra
    refine ⟨_, rfl, a, _, rfl, s0.seq hS, for_enum (K := K) (a := a) (xs := hs.map V.int) (fun i σ H' => ∃ (ts : List (Nat × Int)) (x y z : Option V), σ = [some (.ref s), some (.ref a), some (.int (by' : Int)), some (.ref fa), some (.ref ra), x, y, z] ∧ Same H H' ∧ PL H' fa ts ∧ H' ra = some (.lst ((rowsOf ts).map V.int)) ∧
        (ts.Pairwise fun a b => a.1 < b.1) ∧ (∀ q ∈ ts, q.1 < i ∧ 0 ≤ q.2 ∧ q.2 < ht hs q.1) ∧ (rowsOf ts).Nodup ∧ ts.length ≤ i)
      ⟨[], none, none, none, rfl, s0, PL.empty hfa, hra, List.Pairwise.nil, fun q hq => (by cases hq), List.nodup_nil, Nat.le_refl _⟩ (fun i σ H' _ ⟨_, _, _, _, _, e, _⟩ => e.seq hS) ?_ ?_⟩
    · rintro i y T σ H' hi ⟨ts, x, y, z, rfl, sm, hP, hR, asc, cells, nd, tl⟩ nT
      obtain ⟨h, rfl, hh⟩ := mapI_get hi
      have hin : i < hs.length := (List.getElem?_eq_some_iff.mp hh).1
      have eh : h = ht hs i := by
        have := ht_at hin
        rw [hh] at this
        exact Option.some.inj this
      have sT : Same H' (upd H' T (.tup [V.int (i : Int), V.int h])) := same_upd nT
      refine ⟨T, _, rfl, SqT.of upd_same, rfl, _, _, rfl, _, _, rfl, rfl, ?_⟩
      have hP' := hP.same sT
      have hR' := sT _ _ hR
      have sm' := sm.trans sT
      revert hP' hR' sm'
      clear sT
      generalize upd H' T (.tup [V.int (i : Int), V.int h]) = H2
      intro hP2 hR2 sm2
      have cells' : ∀ q ∈ ts, q.1 < i + 1 ∧ 0 ≤ q.2 ∧ q.2 < ht hs q.1 := fun q hq => ⟨by have := (cells q hq).1; omega, (cells q hq).2⟩
      refine ⟨_, rfl, _, _, rfl, rfl, _, rfl, ite2 (fun c => ?_) (fun c => ?_)⟩
      · have h0 : 0 < h := of_decide_eq_true c
        have ek : (by' : Int) + 1 = ((by' + 1 : Nat) : Int) := by omega
        refine ⟨_, rfl, _, rfl, s, _, _, _, rfl, rfl, sm2.seq hN, atI_nat (mapI_at (getD_at (show i < ns.length by omega))), _, rfl, _, _, rfl, rfl, ns.getD i 0, 3, by' + 1, by rw [← ek]; rfl, by decide, by omega, fun H3 s3 => ?_⟩
        have hP3 := hP2.same s3
        have hR3 := s3 _ _ hR2
        have sm3 := sm2.trans s3
        refine ⟨_, _, rfl, rfl, _, rfl, ite2 (fun c2 => ?_) (fun c2 => ?_)⟩
        · obtain ⟨ms, ems, lms⟩ := cut_map ns (some (i : Int)) (some ((i : Int) + 3))
          refine ⟨_, rfl, _, rfl, _, rfl, _, rfl, _, _, rfl, rfl, _, rfl, s, _, rfl, sm3.seq hN, fun cu ncu => ?_⟩
          have ems' : cutV (ns.map V.int) (some (i : Int)) (some ((fun i j => i + j) (i : Int) 3)) = ms.map V.int := ems
          have scu : Same H3 (upd H3 cu (.lst (cutV (ns.map V.int) (some (i : Int)) (some ((fun i j => i + j) (i : Int) 3))))) := same_upd ncu
          have hcu : (upd H3 cu (.lst (cutV (ns.map V.int) (some (i : Int)) (some ((fun i j => i + j) (i : Int) 3))))) cu = some (.lst (ms.map V.int)) := by rw [upd_same, ems']
          refine ⟨_, rfl, _, rfl, cu, ms, by', h, rfl, il_of hcu, by omega, by omega, h0, fun H4 row s4 r0 r1 => ?_⟩
          have s34 := scu.trans s4
          have hP4 := hP3.same s34
          have hR4 := s34 _ _ hR3
          have sm4 := sm3.trans s34
          refine ⟨_, rfl, _, rfl, ra, _, rfl, .inl (SqL.of hR4), rfl, flat_ints _, !(rowsOf ts).contains row, ?_, ite2 (fun c3 => ?_) (fun c3 => ?_)⟩
          · show V.bl (if true = true then !inV (V.int row) ((rowsOf ts).map V.int) else _) = V.bl _
            rw [if_pos rfl, inV_ints]
          · have nin : row ∉ rowsOf ts := by
              intro m
              have : (rowsOf ts).contains row = true := List.contains_iff_mem.mpr m
              rw [this] at c3
              cases c3
            refine ⟨_, rfl, .inl ⟨rfl, _, SqL.of hR4⟩, _, rfl, ra, _, _, rfl, rfl, hR4, by rw [List.length_map, List.length_map]; exact sz63' (by omega), ?_⟩
            obtain ⟨ps, hPl, hPt, hPe⟩ := id hP4
            have hPl5 : (upd H4 ra (.lst ((rowsOf ts).map V.int ++ [V.int row]))) fa = some (.lst (refsT ps)) := by
              rw [upd_ne nfr]
              exact hPl
            have hP5 : PL (upd H4 ra (.lst ((rowsOf ts).map V.int ++ [V.int row]))) fa ts := ⟨ps, hPl5, hPt.lst hR4, hPe⟩
            have hR5 : (upd H4 ra (.lst ((rowsOf ts).map V.int ++ [V.int row]))) ra = some (.lst ((rowsOf ts).map V.int ++ [V.int row])) := upd_same
            have sm5 := same_mut (o := .lst ((rowsOf ts).map V.int ++ [V.int row])) sm4 nraH
            have lps : ps.length ≤ 1000 := by
              have : ps.length = ts.length := by rw [← hPe, List.length_map]
              omega
            refine ⟨_, rfl, .inl ⟨rfl, _, SqL.of hPl5⟩, _, rfl, _, rfl, by show 2 ≤ sizeLine; decide, fun u nu => ?_⟩
            have su := same_upd (o := .tup [V.int (i : Int), V.int row]) nu
            refine ⟨fa, _, _, rfl, rfl, su _ _ hPl5, by rw [List.length_map]; exact sz63' (by omega), ?_⟩
            refine ⟨ts ++ [(i, row)], some (.int (i : Int)), some (.int h), some (.int row), rfl, same_mut (sm5.trans su) nfa, (hP5.same su).add (q := (i, row)) upd_same (su _ _ hPl5), ?_, ?_, ?_, ?_, by rw [List.length_append, List.length_singleton]; omega⟩
            · rw [upd_ne nfr.symm, su _ _ hR5]
              show _ = some (HO.lst ((List.map Prod.snd (ts ++ [(i, row)])).map V.int))
              rw [List.map_append, List.map_append]
              rfl
            · refine List.pairwise_append.mpr ⟨asc, List.pairwise_singleton _ _, fun a ha b hb => ?_⟩
              rw [List.mem_singleton.mp hb]
              exact (cells a ha).1
            · intro q hq
              rcases List.mem_append.mp hq with hq | hq
              · exact cells' q hq
              · rw [List.mem_singleton.mp hq]
                refine ⟨Nat.lt_succ_self _, r0, ?_⟩
                show row < ht hs i
                rw [← eh]
                exact r1
            · show (List.map Prod.snd (ts ++ [(i, row)])).Nodup
              rw [List.map_append]
              refine List.nodup_append.mpr ⟨nd, by simp, fun a ha b hb => ?_⟩
              rw [List.mem_singleton.mp hb]
              intro z
              have z' : a = row := z
              exact nin (z' ▸ ha)
          · exact ⟨ts, _, _, _, rfl, sm4, hP4, hR4, asc, cells', nd, by omega⟩
        · exact ⟨ts, _, _, _, rfl, sm3, hP3, hR3, asc, cells', nd, by omega⟩
      · exact ⟨ts, _, _, _, rfl, sm2, hP2, hR2, asc, cells', nd, by omega⟩
    · rintro σ H' ⟨ts, x, y, z, rfl, sm, hP, hR, asc, cells, nd, tl⟩
      rw [List.length_map] at cells
      exact ⟨_, rfl, q H' fa ts sm nfa hP ⟨asc, cells, nd⟩⟩
end
end TS
namespace TS
open PySem PySem.Spec PyProof.Rows L2
theorem rep_true (n : Nat) : (List.replicate n true).all id = true := by simp
section
variable {P : Program} {w : World} {K : PySem.W.Frag} {mg : Str → Option Value} {base : Heap}
def spTowers : Sp := fun vs H Q _ => ∃ (a b : Addr) (hs : List Int) (ts : List (Nat × Int)), vs = [.ref a, .ref b] ∧ H a = some (.lst (hs.map V.int)) ∧ PL H b ts ∧ Valid hs ts ∧ ts.length < 64 ∧ ∀ H', Same H H' → Q (.bl true) H'
theorem ok_l_towers {f fW : Addr} {fd fdW : FuncData} {m : Nat} (B : Bl mg) (Dl_whole : Df P w K mg base "_law_whole" (m + 1) ["_law_number"] spWhole fW fdW) (F : Fun K "_law_towers" "_law_towers" s_l_towers f fd) :
    FnOk P w K mg base CX0 (m + 1 + 1) f fd ["_law_stairs_here", "_law_found"] spTowers := by
  refine F.ok sc_l_towers (fun vs H Q E h => ?_) (fun cdv A outer s H vs Q E hr h => ?_)
  · obtain ⟨a, b, hs, ts, rfl, _⟩ := h
    rfl
  · obtain ⟨a, b, hs, ts, rfl, hA, ⟨ps, hB, hP, rfl⟩, Vd, hl, k⟩ := h
    rw [List.length_map] at hl
    refine ⟨_, (pss_cons (ps_if (PW.pt (pw_or (pt_not (pt_val (pe_callB call_isi (by rfl) B.isinstance (by decide +kernel) (pa_cons (pv 1) (pa_cons (pe_bltn (v := .ty "list") (by rfl) B.list PyProof.Rows.boot_list rfl) pa_nil))))) (pw_or1 (pt_not (pt_val (pe_callB (cr_all rfl) (by rfl) B.all (by decide +kernel) (pa_cons (pe_lc (own := [("_law_cell", 6)]) (g := gName 6) (tt := tYes) rfl sc_l_towers.nd (pi_list (pv 1)) (blkOk_by (N := N_l_towers) (sc := defScope s_l_towers) (by decide +kernel)) (fun _ _ _ _ _ => pg_name (i := 6) sc_l_towers.nd rfl (Or.inl rfl)) (fun _ _ _ _ _ => pts_nil) (fun _ _ _ _ _ => (pe_callB (isiK (K := K)) (by rfl) B.isinstance (by decide +kernel) (pa_cons (pv 6) (pa_cons (pe_bltn (v := .ty "tuple") (by rfl) B.tuple PyProof.Rows.boot_tuple rfl) pa_nil))))) pa_nil)))))))
  (pss_one (ps_ret pe_bl))
  pss_nil)
 (pss_cons (ps_if (pt_not (pt_val (pe_callB (cr_all rfl) (by rfl) B.all (by decide +kernel) (pa_cons (pe_lc (own := [("_law_cell", 6)]) (g := gName 6) (tt := tYes) rfl sc_l_towers.nd (pi_list (pv 1)) (blkOk_by (N := N_l_towers) (sc := defScope s_l_towers) (by decide +kernel)) (fun _ _ _ _ _ => pg_name (i := 6) sc_l_towers.nd rfl (Or.inl rfl)) (fun _ _ _ _ _ => pts_nil) (fun _ _ _ _ _ => (pe_and (pe_cmpR op_eq (pe_callB (lenK (K := K)) (by rfl) B.len PySem.boot_len (pa_cons (pv 6) pa_nil)) pe_int (nomark _)) (pe_and (pe_call Dl_whole.ok (hr.mono (Nat.le_refl _)) (by rfl) Dl_whole.g Dl_whole.kp Dl_whole.b .nil pass0 (pa_cons (pe_ix (ixTK (K := K)) (pv 6) pe_int (fun _ _ => rfl)) pa_nil)) (pe_one (pe_call Dl_whole.ok (hr.mono (Nat.le_refl _)) (by rfl) Dl_whole.g Dl_whole.kp Dl_whole.b .nil pass0 (pa_cons (pe_ix (ixTK (K := K)) (pv 6) pe_int (fun _ _ => rfl)) pa_nil))))))) pa_nil))))
  (pss_one (ps_ret pe_bl))
  pss_nil)
 (pss_cons (ps_setLc (i := 2) (own := [("_law_cell", 6)]) (g := gName 6) (tt := tYes) rfl sc_l_towers.nd rfl rfl (sw_true rfl rfl rfl (by decide +kernel)) (pi_list (pv 1)) (blkOk_by (N := N_l_towers) (sc := defScope s_l_towers) (by decide +kernel)) (fun _ _ _ _ _ => pg_name (i := 6) sc_l_towers.nd rfl (Or.inl rfl)) (fun _ _ _ _ _ => pts_nil) (fun _ _ _ _ _ => (pe_ix (ixTK (K := K)) (pv 6) pe_int (fun _ _ => rfl))))
 (pss_cons (ps_setLc (i := 3) (own := [("_law_cell", 6)]) (g := gName 6) (tt := tYes) rfl sc_l_towers.nd rfl rfl (sw_true rfl rfl rfl (by decide +kernel)) (pi_list (pv 1)) (blkOk_by (N := N_l_towers) (sc := defScope s_l_towers) (by decide +kernel)) (fun _ _ _ _ _ => pg_name (i := 6) sc_l_towers.nd rfl (Or.inl rfl)) (fun _ _ _ _ _ => pts_nil) (fun _ _ _ _ _ => (pe_ix (ixTK (K := K)) (pv 6) pe_int (fun _ _ => rfl))))
 (pss_cons (ps_if (PW.pt (pw_or (pt_cmpR (op_neD hr.units) (pv 2) (pe_callB (cr_sortedSet rfl) (by rfl) B.sorted (by decide +kernel) (pa_cons (pe_callTy (cr_setOfI rfl) (by rfl) B.set (by decide +kernel) (pa_cons (pv 2) pa_nil)) pa_nil)) (nomark _)) (pw_or1 (pt_cmpR op_lt (RZ.pe_lenSetI (by rfl) B.len (by rfl) B.set (pv 3)) (pe_callB call_len_seq (by rfl) B.len PySem.boot_len (pa_cons (pv 3) pa_nil)) (nomark _)))))
  (pss_one (ps_ret pe_bl))
  pss_nil)
 (pss_cons (ps_for PassesOwn.never rfl (pi_list (pv 1)) (pg_tup rfl (pgs_cons (pg_name (i := 4) sc_l_towers.nd rfl (.inl rfl)) (pgs_cons (pg_name (i := 5) sc_l_towers.nd rfl (.inl rfl)) pgs_nil)))
  (pss_one (ps_if (PW.pt (pw_or (pt_not (pt_chain op_le op_lt pe_int (pv 4) (pe_callB call_len_seq (by rfl) B.len PySem.boot_len (pa_cons (pv 0) pa_nil)))) (pw_or1 (pt_not (pt_chain op_le op_lt pe_int (pv 5) (pe_ix ix_list (pv 0) (pv 4) (fun _ _ => rfl)))))))
  (pss_one (ps_ret pe_bl))
  pss_nil)))
 (pss_one (ps_ret pe_bl)))))))), ?_⟩
    have elen : (refsT ps).length = ps.length := List.length_map _
    -- all(isinstance(cell, tuple))
    refine ⟨_, rfl, _, _, _, _, true, rfl, .ty _, .base (.lst hB), kit_ty (by decide +kernel), true, rfl, iteF ?_⟩
    refine ⟨_, rfl, b, rfl, ⟨_, SqL.of hB⟩, fun D1 nD1 => lc_list (K := K) (a := b) (xs := refsT ps) (fun j H' => Same H H' ∧ H' D1 = some (.lst ((List.replicate j true).map V.bl))) ⟨same_upd nD1, upd_same⟩ (fun j H' _ e => SqL.of (e.1 _ _ hB)) ?_ ?_⟩
    · rintro j x H' hj ⟨sm, hD⟩
      obtain ⟨t, q, rfl, hq⟩ := refsT_at hj
      have hT : H' t = some (.tup (cellV q)) := sm _ _ (hP _ (List.mem_of_getElem? hq))
      have hjl : j < ps.length := (List.getElem?_eq_some_iff.mp hq).1
      refine ⟨rfl, _, rfl, _, _, _, _, true, rfl, .ty _, .base (.tup hT), kit_ty (by decide +kernel), _, hD, ?_, same_mut sm nD1, ?_⟩
      · rw [List.length_map, List.length_replicate]
        exact sz63' (by omega)
      · rw [upd_same, List.replicate_succ', List.map_append]
        rfl
    rintro H1 ⟨s1, hD1⟩
    refine ⟨D1, _, rfl, SqL.of hD1, true, by rw [rep_true], iteF ?_⟩
    have hB1 := s1 _ _ hB
    -- all(len(cell) == 2 and ..)
    refine ⟨_, rfl, b, rfl, ⟨_, SqL.of hB1⟩, fun D2 nD2 => lc_list (K := K) (a := b) (xs := refsT ps) (fun j H' => Same H1 H' ∧ H' D2 = some (.lst ((List.replicate j true).map V.bl))) ⟨same_upd nD2, upd_same⟩ (fun j H' _ e => SqL.of (e.1 _ _ hB1)) ?_ ?_⟩
    · rintro j x H' hj ⟨sm, hD⟩
      obtain ⟨t, q, rfl, hq⟩ := refsT_at hj
      have hT : H' t = some (.tup (cellV q)) := sm _ _ (s1 _ _ (hP _ (List.mem_of_getElem? hq)))
      have hjl : j < ps.length := (List.getElem?_eq_some_iff.mp hq).1
      refine ⟨rfl, _, rfl, t, _, rfl, .inr (SqT.of hT), rfl, true, rfl, iteT ?_⟩
      refine ⟨_, rfl, t, _, _, _, rfl, rfl, SqT.of hT, cell0 q, _, rfl, true, rfl, iteT ?_⟩
      refine ⟨_, rfl, t, _, _, _, rfl, rfl, SqT.of hT, cell1 q, _, rfl, _, hD, ?_, same_mut sm nD2, ?_⟩
      · rw [List.length_map, List.length_replicate]
        exact sz63' (by omega)
      · rw [upd_same, List.replicate_succ', List.map_append]
        rfl
    rintro H2 ⟨s2, hD2⟩
    refine ⟨D2, _, rfl, SqL.of hD2, true, by rw [rep_true], iteF ?_⟩
    have s12 := s1.trans s2
    have hB2 := s12 _ _ hB
    -- columns
    refine ⟨_, rfl, b, rfl, ⟨_, SqL.of hB2⟩, fun D3 nD3 => lc_list (K := K) (a := b) (xs := refsT ps) (fun j H' => Same H2 H' ∧ H' D3 = some (.lst (((colsOf (ps.map Prod.snd)).take j).map V.int))) ⟨same_upd nD3, upd_same⟩ (fun j H' _ e => SqL.of (e.1 _ _ hB2)) ?_ ?_⟩
    · rintro j x H' hj ⟨sm, hD⟩
      obtain ⟨t, q, rfl, hq⟩ := refsT_at hj
      have hT : H' t = some (.tup (cellV q)) := sm _ _ (s12 _ _ (hP _ (List.mem_of_getElem? hq)))
      refine ⟨rfl, _, rfl, t, _, _, _, rfl, rfl, SqT.of hT, cell0 q, _, hD, ?_, same_mut sm nD3, ?_⟩
      · rw [List.length_map, List.length_take, List.length_map, List.length_map]
        exact sz63' (by omega)
      · rw [upd_same, List.take_add_one, List.getElem?_map, snd_at hq, List.map_append]
        rfl
    rintro H3 ⟨s3, hD3⟩
    rw [elen, List.take_of_length_le (by rw [List.length_map, List.length_map]; exact Nat.le_refl _)] at hD3
    have s13 := s12.trans s3
    have hB3 := s13 _ _ hB
    -- rows
    refine ⟨_, rfl, b, rfl, ⟨_, SqL.of hB3⟩, fun D4 nD4 => lc_list (K := K) (a := b) (xs := refsT ps) (fun j H' => Same H3 H' ∧ H' D4 = some (.lst (((rowsOf (ps.map Prod.snd)).take j).map V.int))) ⟨same_upd nD4, upd_same⟩ (fun j H' _ e => SqL.of (e.1 _ _ hB3)) ?_ ?_⟩
    · rintro j x H' hj ⟨sm, hD⟩
      obtain ⟨t, q, rfl, hq⟩ := refsT_at hj
      have hT : H' t = some (.tup (cellV q)) := sm _ _ (s13 _ _ (hP _ (List.mem_of_getElem? hq)))
      refine ⟨rfl, _, rfl, t, _, _, _, rfl, rfl, SqT.of hT, cell1 q, _, hD, ?_, same_mut sm nD4, ?_⟩
      · rw [List.length_map, List.length_take, List.length_map, List.length_map]
        exact sz63' (by omega)
      · rw [upd_same, List.take_add_one, List.getElem?_map, snd_at hq, List.map_append]
        rfl
    rintro H4 ⟨s4, hD4⟩
    rw [elen, List.take_of_length_le (by rw [List.length_map, List.length_map]; exact Nat.le_refl _)] at hD4
    have s14 := s13.trans s4
    have hD34 := s4 _ _ hD3
    have lc : (colsOf (ps.map Prod.snd)).length = ps.length := by rw [List.length_map, List.length_map]
    have lr : (rowsOf (ps.map Prod.snd)).length = ps.length := by rw [List.length_map, List.length_map]
    have st := cols_strict Vd.asc
    -- columns != sorted(set(columns)) or len(set(rows)) < len(rows)
    refine ⟨_, rfl, _, rfl, D3, colsOf (ps.map Prod.snd), rfl, SqL.of hD34, by omega, fun p5 c5 lc5 np5 => ?_⟩
    refine ⟨p5, _, c5, rfl, upd_same, by omega, fun ns p6 pw mem ln np6 => ?_⟩
    have ens : ns = colsOf (ps.map Prod.snd) := strict_same pw st fun k => by rw [mem k]; simp
    have s56 := (same_upd (o := SetO w p5 (fun j => decide (j ∈ colsOf (ps.map Prod.snd))) c5) np5).trans (same_upd (o := .lst (ns.map V.int)) np6)
    refine ⟨_, _, dp_il (il_of (s56 _ _ hD34)), dp_il (il_of upd_same), shaped_ints _, shaped_ints _, _, rfl, ?_⟩
    rw [eqv_ints, ens, decide_eq_true rfl]
    refine iteF ?_
    rw [ens] at s56
    have hD46 := s56 _ _ hD4
    refine ⟨_, rfl, D4, rowsOf (ps.map Prod.snd), rfl, SqL.of hD46, Vd.rows, by omega, _, rfl, D4, _, rfl, .inl (SqL.of hD46), _, _, rfl, rfl, _, rfl, ?_⟩
    rw [show ((rowsOf (ps.map Prod.snd)).map V.int).length = (rowsOf (ps.map Prod.snd)).length from List.length_map _, decide_eq_false (by omega)]
    refine iteF ?_
    have s16 := s14.trans s56
    -- the cells
    refine ⟨_, rfl, b, rfl, ⟨_, SqL.of (s16 _ _ hB)⟩, for_list (K := K) (a := b) (xs := refsT ps) (fun i σ H' => ∃ (x y z : Option V), σ = [some (.ref a), some (.ref b), some (.ref D3), some (.ref D4), x, y, z] ∧ Same H H') ⟨none, none, none, rfl, s16⟩ (fun i σ H' _ ⟨_, _, _, _, e⟩ => SqL.of (e _ _ hB)) ?_ ?_⟩
    · rintro i x σ H' hi ⟨x1, x2, x3, rfl, sm⟩
      obtain ⟨t, q, rfl, hq⟩ := refsT_at hi
      have hT : H' t = some (.tup (cellV q)) := sm _ _ (hP _ (List.mem_of_getElem? hq))
      have vc := Vd.cell q (List.mem_of_getElem? (snd_at hq))
      have hA' := sm _ _ hA
      refine ⟨t, _, rfl, SqT.of hT, rfl, _, _, rfl, _, _, rfl, rfl, ?_⟩
      refine ⟨_, rfl, _, _, rfl, rfl, true, (by show V.bl (decide ((0 : Int) ≤ (q.1 : Int))) = V.bl true; rw [decide_eq_true (by omega)]), iteT ?_⟩
      refine ⟨_, rfl, a, _, rfl, .inl (SqL.of hA'), _, _, rfl, rfl, true, (by show V.bl (decide ((q.1 : Int) < (((hs.map V.int).length : Nat) : Int))) = V.bl true; rw [decide_eq_true (by rw [List.length_map]; omega)]), iteF ?_⟩
      refine ⟨_, rfl, _, _, rfl, rfl, true, (by show V.bl (decide ((0 : Int) ≤ q.2)) = V.bl true; rw [decide_eq_true vc.2.1]), iteT ?_⟩
      refine ⟨_, rfl, _, rfl, a, _, _, _, rfl, rfl, SqL.of hA', atI_nat (mapI_at (ht_at vc.1)), _, _, rfl, rfl, true, (by show V.bl (decide (q.2 < ht hs q.1)) = V.bl true; rw [decide_eq_true vc.2.2]), iteF ?_⟩
      exact ⟨_, _, _, rfl, sm⟩
    · rintro σ H' ⟨x1, x2, x3, rfl, sm⟩
      exact k H' sm
end
end TS
namespace TS
open PySem PySem.Spec PyProof.Rows L2
theorem Df.mono {P : Program} {w : World} {K : PySem.W.Frag} {mg : Str → Option Value} {base : Heap} {x : Str} {j k : Nat} {ps : List Str} {sp : Sp} {f : Addr} {fd : FuncData} (D : Df P w K mg base x j ps sp f fd) (h : j ≤ k) : Df P w K mg base x k ps sp f fd :=
  ⟨D.ok.mono h, D.g, D.kp, D.b⟩
theorem asc_len : ∀ (ts : List (Nat × Int)) (lo n : Nat), lo ≤ n → (ts.Pairwise fun a b => a.1 < b.1) → (∀ q ∈ ts, lo ≤ q.1 ∧ q.1 < n) → ts.length + lo ≤ n
  | [], lo, n, h, _, _ => by rw [List.length_nil]; omega
  | t :: ts, lo, n, h, ha, hb => by
    obtain ⟨h1, h2⟩ := List.pairwise_cons.mp ha
    have b := hb t (by simp)
    have := asc_len ts (t.1 + 1) n (by omega) h2 fun q hq => ⟨h1 q hq, (hb q (by simp [hq])).2⟩
    rw [List.length_cons]
    omega
theorem Valid.len {hs : List Int} {ts : List (Nat × Int)} (h : Valid hs ts) : ts.length ≤ hs.length := by
  have := asc_len ts 0 hs.length (Nat.zero_le _) h.asc fun q hq => ⟨Nat.zero_le _, (h.cell q hq).1⟩
  omega
/-- lists of pairs compared -/
def dT (ts : List (Nat × Int)) : PyData := .list (ts.map fun q => .tuple [.int (q.1 : Int), .int q.2])
theorem dp_pl {K : PySem.W.Frag} {H : Hp} {a : Addr} {ts : List (Nat × Int)} (h : PL H a ts) : Dp K H (.ref a) (dT ts) := by
  obtain ⟨ps, hA, hT, rfl⟩ := h
  have all : ∀ qs : Prs, Tps H qs → DpAll K H (refsT qs) ((qs.map Prod.snd).map fun q => PyData.tuple [.int (q.1 : Int), .int q.2]) := by
    intro qs
    induction qs with
    | nil => intro _; exact .nil
    | cons p r ih =>
      intro h
      exact .cons (.tup (SqT.of (h p (by simp))) (.cons (.int _) (.cons (.int _) .nil))) (ih fun x hx => h x (by simp [hx]))
  exact .lst (SqL.of hA) (all ps hT)
theorem shaped_pl (ts : List (Nat × Int)) : SeqAt.shaped (dT ts) = true := by
  have c : ∀ ts : List (Nat × Int), PyData.canLayAll0 (ts.map fun q => PyData.tuple [.int (q.1 : Int), .int q.2]) = true := by
    intro ts
    induction ts with
    | nil => rfl
    | cons t ts ih =>
      show (PyData.canLay0 (.tuple [.int (t.1 : Int), .int t.2]) && PyData.canLayAll0 (ts.map fun q => PyData.tuple [.int (q.1 : Int), .int q.2])) = true
      rw [ih]
      rfl
  have d : ∀ ts : List (Nat × Int), PyData.depthAll (ts.map fun q => PyData.tuple [.int (q.1 : Int), .int q.2]) ≤ 1 := by
    intro ts
    induction ts with
    | nil => decide
    | cons t ts ih =>
      show max (PyData.depth (.tuple [.int (t.1 : Int), .int t.2])) (PyData.depthAll (ts.map fun q => PyData.tuple [.int (q.1 : Int), .int q.2])) ≤ 1
      have : PyData.depth (.tuple [.int (t.1 : Int), .int t.2]) = 1 := rfl
      omega
  show (PyData.canLayAll0 (ts.map fun q => PyData.tuple [.int (q.1 : Int), .int q.2]) && decide (PyData.depthAll (ts.map fun q => PyData.tuple [.int (q.1 : Int), .int q.2]) + 1 ≤ 64)) = true
  rw [c, decide_eq_true (by have := d ts; omega)]
  rfl
theorem eqv_pl (ts : List (Nat × Int)) : PyData.eqv (dT ts) (dT ts) = true := by
  have c : ∀ ts : List (Nat × Int), PyData.eqvAll (ts.map fun q => PyData.tuple [.int (q.1 : Int), .int q.2]) (ts.map fun q => PyData.tuple [.int (q.1 : Int), .int q.2]) = true := by
    intro ts
    induction ts with
    | nil => simp [PyData.eqvAll]
    | cons t ts ih => simp [PyData.eqvAll, PyData.eqv, ih]
  unfold dT
  rw [PyData.eqv]
  exact c ts
theorem dT_nil : dT [] = dI [] := rfl
theorem PL.len {H : Hp} {a : Addr} {ts : List (Nat × Int)} (h : PL H a ts) : ∃ xs : List V, H a = some (.lst xs) ∧ xs.length = ts.length := by
  obtain ⟨ps, hA, _, rfl⟩ := h
  exact ⟨_, hA, by rw [List.length_map, List.length_map]⟩
theorem PL.copy {H : Hp} {a b : Addr} {ts : List (Nat × Int)} {xs : List V} (h : PL H a ts) (ha : H a = some (.lst xs)) (nb : H b = none) : PL (upd H b (.lst xs)) b ts := by
  obtain ⟨ps, hA, hT, rfl⟩ := h
  rw [ha] at hA
  have e : xs = refsT ps := by injection hA with e; injection e
  exact ⟨ps, by rw [upd_same, e], hT.same (same_upd nb), rfl⟩
section
variable {P : Program} {w : World} {K : PySem.W.Frag} {mg : Str → Option Value} {base : Heap}
def spLaw (K : PySem.W.Frag) : Sp := fun vs H Q _ => ∃ (a : Addr) (ns : List Int), vs = [.ref a] ∧ SqL K H a (ns.map V.int) ∧ ns.length ≤ 63 ∧ ∀ H', Q (.bl true) H'
theorem ok_law {f f1 f2 f3 f4 f5 f6 f7 f8 f9 f10 : Addr} {fd d1 d2 d3 d4 d5 d6 d7 d8 d9 d10 : FuncData} (B : Bl mg)
    (Dl_cell_at : Df P w K mg base "_law_cell_at" 1 ["_law_script", "_law_k"] (spCellAt K) f1 d1)
    (Dl_draw : Df P w K mg base "_law_draw" 1 ["_law_cell", "_law_k", "_law_many"] spDraw f2 d2)
    (Dl_stairs : Df P w K mg base "_law_stairs" 2 ["_law_script"] (spStairs K) f3 d3)
    (Dl_counts : Df P w K mg base "_law_counts" 1 ["_law_stairs_here"] (spLCounts K) f4 d4)
    (Dl_whole : Df P w K mg base "_law_whole" 1 ["_law_number"] spWhole f5 d5)
    (Dl_far : Df P w K mg base "_law_far" 2 ["_law_script", "_law_by", "_law_most"] (spFar K) f6 d6)
    (Dl_set : Df P w K mg base "_law_set" 3 ["_law_script", "_law_stairs_here", "_law_by"] (spSet K) f7 d7)
    (Dl_towers : Df P w K mg base "_law_towers" 2 ["_law_stairs_here", "_law_found"] spTowers f8 d8)
    (Dway_of : Df P w K mg base "way_of" 4 ["stairs", "many", "number"] (spWayOf K) f9 d9)
    (Dnumber_of : Df P w K mg base "number_of" 4 ["stairs", "towers"] (spNumberOf K) f10 d10)
    (F : Fun K "law" "law" s_law f fd) : FnOk P w K mg base CX0 5 f fd ["_law_script"] (spLaw K) := by
  refine F.ok sc_law (fun vs H Q E h => ?_) (fun cdv A outer s H vs Q E hr h => ?_)
  · obtain ⟨a, ns, rfl, _⟩ := h
    rfl
  · obtain ⟨a, ns, rfl, hS, hlen, q⟩ := h
    refine ⟨_, (pss_cons (ps_set (i := 1) sc_law.nd rfl (.inl rfl) (pe_call Dl_stairs.ok (hr.mono (by decide)) (by rfl) Dl_stairs.g Dl_stairs.kp Dl_stairs.b .nil pass0 (pa_cons (pv 0) pa_nil)))
 (pss_cons (ps_par (i := 2) (j := 3) rfl sc_law.nd rfl rfl (by decide) rfl rfl (pa_cons (pe_call Dl_counts.ok (hr.mono (by decide)) (by rfl) Dl_counts.g Dl_counts.kp Dl_counts.b .nil pass0 (pa_cons (pv 1) pa_nil)) (pa_cons (pe_callTy call_list_of (by rfl) B.list (by decide +kernel) (pa_cons (pv 1) pa_nil)) pa_nil)) (by rfl))
 (pss_cons (ps_set (i := 4) sc_law.nd rfl (.inl rfl) (pe_op op_sub (pe_callB call_len_seq (by rfl) B.len PySem.boot_len (pa_cons (pe_lc (own := [("_law_many", 5)]) (g := gName 5) rfl sc_law.nd (pi_list (pv 2)) (blkOk_by (N := N_law) (sc := defScope s_law) (by decide +kernel)) (fun _ _ _ _ _ => pg_name (i := 5) sc_law.nd rfl (Or.inl rfl)) (fun _ _ _ _ _ => pts_one (pt_cmpR op_gt (pv 5) pe_int (nomark _))) (fun _ _ _ _ _ => (pv 5))) pa_nil)) pe_int))
 (pss_cons (ps_for PassesOwn.never rfl (pi_tup (pe_tup (pa_cons (pv 4) (pa_cons (pe_call Dl_draw.ok (hr.mono (by decide)) (by rfl) Dl_draw.g Dl_draw.kp Dl_draw.b .nil pass0 (pa_cons (pe_call Dl_cell_at.ok (hr.mono (by decide)) (by rfl) Dl_cell_at.g Dl_cell_at.kp Dl_cell_at.b .nil pass0 (pa_cons (pv 0) (pa_cons pe_int pa_nil))) (pa_cons pe_int (pa_cons (pe_op op_add (pv 4) pe_int) pa_nil)))) (pa_cons pe_int pa_nil))))) (pg_name (i := 5) sc_law.nd rfl (.inl rfl))
  (pss_one (ps_for PassesOwn.never rfl (pi_tup (pe_tup (pa_cons (pe_op op_sub (pe_ix ix_list (pv 2) (pv 5) (fun _ _ => rfl)) pe_int) (pa_cons (pe_call Dl_far.ok (hr.mono (by decide)) (by rfl) Dl_far.g Dl_far.kp Dl_far.b .nil pass0 (pa_cons (pv 0) (pa_cons pe_int (pa_cons (pe_ix ix_list (pv 2) (pv 5) (fun _ _ => rfl)) pa_nil)))) pa_nil)))) (pg_name (i := 6) sc_law.nd rfl (.inl rfl))
  (pss_cons (ps_set (i := 7) sc_law.nd rfl (.inl rfl) (pe_call Dway_of.ok (hr.mono (by decide)) (by rfl) Dway_of.g Dway_of.kp Dway_of.b .nil pass0 (pa_cons (pv 3) (pa_cons (pv 5) (pa_cons (pv 6) pa_nil)))))
 (pss_cons (ps_if (PW.pt (pw_or (pt_not (pt_val (pe_call Dl_towers.ok (hr.mono (by decide)) (by rfl) Dl_towers.g Dl_towers.kp Dl_towers.b .nil pass0 (pa_cons (pv 1) (pa_cons (pv 7) pa_nil))))) (pw_or (pt_cmpR op_ne (pe_callB call_len_seq (by rfl) B.len PySem.boot_len (pa_cons (pv 7) pa_nil)) (pv 5) (nomark _)) (pw_or1 (pt_cmpR (op_neD hr.units) (pv 3) (pv 1) (nomark _))))))
  (pss_one (ps_ret pe_bl))
  pss_nil)
 (pss_cons (ps_par (i := 8) (j := 9) rfl sc_law.nd rfl rfl (by decide) rfl rfl (pa_cons (pe_callTy call_list_of (by rfl) B.list (by decide +kernel) (pa_cons (pv 7) pa_nil)) (pa_cons (pe_call Dnumber_of.ok (hr.mono (by decide)) (by rfl) Dnumber_of.g Dnumber_of.kp Dnumber_of.b .nil pass0 (pa_cons (pv 3) (pa_cons (pv 7) pa_nil))) pa_nil)) (by rfl))
 (pss_cons (ps_if (PW.pt (pw_or (pt_not (pt_val (pe_call Dl_whole.ok (hr.mono (by decide)) (by rfl) Dl_whole.g Dl_whole.kp Dl_whole.b .nil pass0 (pa_cons (pv 9) pa_nil)))) (pw_or (pt_cmpR op_ne (pv 9) (pv 6) (nomark _)) (pw_or1 (pt_cmpR (op_neD hr.units) (pv 7) (pv 8) (nomark _))))))
  (pss_one (ps_ret pe_bl))
  pss_nil)
 (pss_cons (ps_expr (pe_bm PySem.F.plainAttrs_list PySem.F.slot_list_append PySem.F.type_list_append mt_append (pv 7) (pa_cons (pe_tup (pa_cons pe_int (pa_cons pe_int pa_nil))) pa_nil)))
 (pss_one (ps_if (pt_cmpR (op_neD hr.units) (pe_call Dway_of.ok (hr.mono (by decide)) (by rfl) Dway_of.g Dway_of.kp Dway_of.b .nil pass0 (pa_cons (pv 3) (pa_cons (pv 5) (pa_cons (pv 6) pa_nil)))) (pv 8) (nomark _))
  (pss_one (ps_ret pe_bl))
  pss_nil))))))))))
 (pss_cons (ps_for PassesOwn.never rfl (pi_tup (pe_tup (pa_cons pe_int (pa_cons pe_int pa_nil)))) (pg_name (i := 10) sc_law.nd rfl (.inl rfl))
  (pss_cons (ps_set (i := 11) sc_law.nd rfl (.inl rfl) (pe_call Dl_set.ok (hr.mono (by decide)) (by rfl) Dl_set.g Dl_set.kp Dl_set.b .nil pass0 (pa_cons (pv 0) (pa_cons (pv 1) (pa_cons (pv 10) pa_nil)))))
 (pss_cons (ps_set (i := 12) sc_law.nd rfl (.inl rfl) (pe_callTy call_list_of (by rfl) B.list (by decide +kernel) (pa_cons (pv 11) pa_nil)))
 (pss_cons (ps_set (i := 6) sc_law.nd rfl (.inl rfl) (pe_call Dnumber_of.ok (hr.mono (by decide)) (by rfl) Dnumber_of.g Dnumber_of.kp Dnumber_of.b .nil pass0 (pa_cons (pv 3) (pa_cons (pv 12) pa_nil))))
 (pss_cons (ps_if (PW.pt (pw_or (pt_not (pt_val (pe_call Dl_whole.ok (hr.mono (by decide)) (by rfl) Dl_whole.g Dl_whole.kp Dl_whole.b .nil pass0 (pa_cons (pv 6) pa_nil)))) (pw_or (pt_not (pt_chain op_le op_lt pe_int (pv 6) (pe_ix ix_list (pv 2) (pe_callB call_len_seq (by rfl) B.len PySem.boot_len (pa_cons (pv 11) pa_nil)) (fun _ _ => rfl)))) (pw_or1 (pt_cmpR (op_neD hr.units) (pv 12) (pv 11) (nomark _))))))
  (pss_one (ps_ret pe_bl))
  pss_nil)
 (pss_one (ps_if (pt_cmpR (op_neD hr.units) (pe_call Dway_of.ok (hr.mono (by decide)) (by rfl) Dway_of.g Dway_of.kp Dway_of.b .nil pass0 (pa_cons (pv 3) (pa_cons (pe_callB call_len_seq (by rfl) B.len PySem.boot_len (pa_cons (pv 11) pa_nil)) (pa_cons (pv 6) pa_nil)))) (pv 11) (nomark _))
  (pss_one (ps_ret pe_bl))
  pss_nil)))))))
 (pss_one (ps_ret (pe_and (pe_cmpR (op_eqD hr.units) (pe_call Dway_of.ok (hr.mono (by decide)) (by rfl) Dway_of.g Dway_of.kp Dway_of.b .nil pass0 (pa_cons (pe_lst pa_nil) (pa_cons pe_int (pa_cons pe_int pa_nil)))) (pe_lst pa_nil) (nomark _)) (pe_one (pe_cmpR op_eq (pe_call Dnumber_of.ok (hr.mono (by decide)) (by rfl) Dnumber_of.g Dnumber_of.kp Dnumber_of.b .nil pass0 (pa_cons (pe_lst pa_nil) (pa_cons (pe_lst pa_nil) pa_nil))) pe_int (nomark _))))))))))), ?_⟩
    -- stairs, whole, handed
    refine ⟨_, rfl, a, ns, rfl, hS, fun hs H1 p gs s1 np hp => ?_⟩
    have G := Good.of gs
    have hn : hs.length ≤ 63 := by have := gs.len; omega
    have hnn : hs.length ≤ ns.length := by have := gs.len; omega
    refine ⟨_, rfl, p, hs, rfl, il_of hp, G, fun H2 pw s2 npw hpw => ?_⟩
    have hp2 := s2 _ _ hp
    refine ⟨_, rfl, p, _, rfl, .inl (SqL.of hp2), fun ph nph => ⟨_, _, rfl, ?_⟩⟩
    have s3 := s1.trans (s2.trans (same_upd (o := .lst (hs.map V.int)) nph))
    have hph : (upd H2 ph (.lst (hs.map V.int))) ph = some (.lst (hs.map V.int)) := upd_same
    have hp3 := same_upd (o := .lst (hs.map V.int)) nph _ _ hp2
    have hpw3 := same_upd (o := .lst (hs.map V.int)) nph _ _ hpw
    revert s3 hph hp3 hpw3
    generalize upd H2 ph (.lst (hs.map V.int)) = H3
    intro s3 hph hp3 hpw3
    have ecn : cntF hs = cn hs hs.length := by
      show cntF hs = cntF (hs.take hs.length)
      rw [List.take_length]
    -- top
    obtain ⟨t, t1, t2, t3, t4⟩ := top_of G.pos
    refine ⟨_, rfl, pw, rfl, ⟨_, SqL.of hpw3⟩, fun D nD => lc_list (K := K) (a := pw) (xs := (tab (cntF hs) (hs.length + 1)).map V.int) (fun i H' => Same H3 H' ∧ H' D = some (.lst ((((tab (cntF hs) (hs.length + 1)).take i).filter fun x => decide (0 < x)).map V.int)))
      ⟨same_upd nD, upd_same⟩ (fun i H' _ e => SqL.of (e.1 _ _ hpw3)) ?_ ?_⟩
    · rintro i x H' hi ⟨sm, hD⟩
      obtain ⟨c, rfl, hc⟩ := mapI_get hi
      have hil : i < hs.length + 1 := by
        have := (List.getElem?_eq_some_iff.mp hc).1
        rw [tab_len] at this
        exact this
      refine ⟨rfl, _, rfl, _, _, rfl, rfl, _, rfl, ite2 (fun g => ?_) (fun g => ?_)⟩
      · have g' : decide (0 < c) = true := g
        refine ⟨_, rfl, _, hD, ?_, same_mut sm nD, ?_⟩
        · rw [List.length_map]
          have := List.length_filter_le (fun x => decide (0 < x)) ((tab (cntF hs) (hs.length + 1)).take i)
          rw [List.length_take] at this
          exact sz63' (by omega)
        · rw [upd_same, List.take_add_one, hc, List.filter_append, Option.toList_some, List.filter_cons, if_pos g', List.map_append]
          rfl
      · have g' : ¬ decide (0 < c) = true := g
        refine ⟨sm, ?_⟩
        rw [hD, List.take_add_one, hc, List.filter_append, Option.toList_some, List.filter_cons, if_neg g']
        simp
    rintro H4 ⟨s4, hD⟩
    rw [List.length_map, List.take_length] at hD
    refine ⟨D, _, rfl, .inl (SqL.of hD), _, _, rfl, rfl, ?_⟩
    have et : ((((((tab (cntF hs) (hs.length + 1)).filter fun x => decide (0 < x)).map V.int).length : Nat) : Int)) - 1 = (t : Int) := by
      rw [List.length_map, t2]
      omega
    show tSeq _ _ _ [some (V.ref a), some (V.ref p), some (V.ref pw), some (V.ref ph), some (V.int ((((((tab (cntF hs) (hs.length + 1)).filter fun x => decide (0 < x)).map V.int).length : Nat) : Int) - 1)), none, none, none, none, none, none, none, none] H4
    rw [et]
    have hS4 := (s3.trans s4).seq hS
    -- for many in (top, drawn, 0)
    refine ⟨_, rfl, _, rfl, a, ns, 3, rfl, hS4, _, rfl, _, _, rfl, rfl, ns.getD 3 0, (t : Int) + 1, 4, rfl, by omega, by decide, fun H5 s5 => ?_⟩
    have d0 := draw_nonneg (c := ns.getD 3 0) (k := 4) (m := (t : Int) + 1) (by omega)
    have d1 := draw_lt (c := ns.getD 3 0) (k := 4) (m := (t : Int) + 1) (by omega)
    revert d0 d1
    generalize draw (ns.getD 3 0) 4 ((t : Int) + 1) = dr
    intro d0 d1
    refine ⟨by show 3 ≤ sizeLine; decide, fun tp ntp => ?_⟩
    obtain ⟨ks, eks⟩ : ∃ ks, ks = [(t : Int), dr, 0] := ⟨_, rfl⟩
    have kok : ∀ x ∈ ks, ∃ k : Nat, x = (k : Int) ∧ k ≤ t := by
      intro x hx
      rw [eks] at hx
      simp only [List.mem_cons, List.not_mem_nil, or_false] at hx
      rcases hx with rfl | rfl | rfl
      · exact ⟨t, rfl, Nat.le_refl _⟩
      · exact ⟨x.toNat, by omega, by omega⟩
      · exact ⟨0, rfl, Nat.zero_le _⟩
    have hT : (upd H5 tp (.tup ([(t : Int), dr, 0].map V.int))) tp = some (.tup (ks.map V.int)) := by rw [eks]; exact upd_same
    have s6 : Same H3 (upd H5 tp (.tup ([(t : Int), dr, 0].map V.int))) := s4.trans (s5.trans (same_upd ntp))
    refine ⟨tp, rfl, ⟨_, SqT.of hT⟩, for_tup (K := K) (a := tp) (xs := ks.map V.int) (fun i σ H' => ∃ (x5 x6 x7 x8 x9 : Option V), σ = [some (.ref a), some (.ref p), some (.ref pw), some (.ref ph), some (.int (t : Int)), x5, x6, x7, x8, x9, none, none, none] ∧ Same H3 H' ∧ H' tp = some (.tup (ks.map V.int)))
      ⟨none, none, none, none, none, rfl, s6, hT⟩ (fun i σ H' _ ⟨_, _, _, _, _, _, _, e⟩ => SqT.of e) ?_ ?_⟩
    · rintro i x σ H7 hi ⟨x5, x6, x7, x8, x9, rfl, s7, hT7⟩
      obtain ⟨kx, rfl, hk⟩ := mapI_get hi
      obtain ⟨k, rfl, hkt⟩ := kok kx (List.mem_of_getElem? hk)
      have hkn : k ≤ hs.length := by omega
      have kp := t3 k hkt
      have hg : ((tab (cntF hs) (hs.length + 1)).map V.int)[k]? = some (.int (cn hs hs.length k)) := by
        rw [ecn]
        exact mapI_at (tab_get (by omega))
      refine ⟨_, rfl, _, rfl, pw, _, _, _, rfl, rfl, SqL.of (s7 _ _ hpw3), atI_nat hg, _, _, rfl, rfl, ?_⟩
      refine ⟨_, rfl, _, rfl, _, rfl, pw, _, _, _, rfl, rfl, SqL.of (s7 _ _ hpw3), atI_nat hg, a, ns, 2, cn hs hs.length k, rfl, (s3.trans s7).seq hS, by omega, by decide, kp, fun H8 v s8 v0 v1 => ?_⟩
      refine ⟨by show 2 ≤ sizeLine; decide, fun tq ntq => ?_⟩
      obtain ⟨nums, enums⟩ : ∃ nums, nums = [cn hs hs.length k - 1, v] := ⟨_, rfl⟩
      have nok : ∀ x ∈ nums, 0 ≤ x ∧ x < cn hs hs.length k := by
        intro x hx
        rw [enums] at hx
        simp only [List.mem_cons, List.not_mem_nil, or_false] at hx
        rcases hx with rfl | rfl
        · omega
        · exact ⟨v0, v1⟩
      have hQ : (upd H8 tq (.tup ([cn hs hs.length k - 1, v].map V.int))) tq = some (.tup (nums.map V.int)) := by rw [enums]; exact upd_same
      have sq : Same H7 (upd H8 tq (.tup ([cn hs hs.length k - 1, v].map V.int))) := s8.trans (same_upd ntq)
      refine ⟨tq, rfl, ⟨_, SqT.of hQ⟩, for_tup (K := K) (a := tq) (xs := nums.map V.int) (fun i σ H' => ∃ (x6 x7 x8 x9 : Option V), σ = [some (.ref a), some (.ref p), some (.ref pw), some (.ref ph), some (.int (t : Int)), some (.int (k : Int)), x6, x7, x8, x9, none, none, none] ∧ Same H7 H' ∧ H' tq = some (.tup (nums.map V.int)))
        ⟨x6, x7, x8, x9, rfl, sq, hQ⟩ (fun i σ H' _ ⟨_, _, _, _, _, _, e⟩ => SqT.of e) ?_ ?_⟩
      · rintro j x σ H9 hj ⟨y6, y7, y8, y9, rfl, s9, hQ9⟩
        obtain ⟨num, rfl, hnum⟩ := mapI_get hj
        obtain ⟨n0, n1⟩ := nok num (List.mem_of_getElem? hnum)
        obtain ⟨vd, ln, run⟩ := way_number G.rise G.pos n0 n1
        have s39 := s7.trans s9
        refine ⟨_, rfl, _, rfl, _, rfl, ph, hs, k, num, rfl, s39 _ _ hph, G, hkn, n0, n1, fun H10 fo s10 nfo hfo => ?_⟩
        obtain ⟨T, eT⟩ : ∃ T, T = tw (ch hs hs.length k num) := ⟨_, rfl⟩
        rw [← eT] at vd ln run hfo
        have s310 := s39.trans s10
        refine ⟨_, rfl, _, rfl, p, fo, hs, T, rfl, s310 _ _ hp3, hfo, vd, by omega, fun H11 s11 => ⟨true, rfl, iteF ?_⟩⟩
        have hfo11 := hfo.same s11
        obtain ⟨xs, hxs, lxs⟩ := hfo11.len
        have s311 := s310.trans s11
        refine ⟨_, rfl, fo, _, rfl, .inl (SqL.of hxs), _, rfl, rfl, _, rfl, ?_⟩
        rw [show decide (V.int ((xs.length : Nat) : Int) = V.int (k : Int)) = true by rw [lxs, ln]; exact decide_eq_true rfl]
        refine iteF ?_
        refine ⟨_, rfl, _, rfl, _, _, dp_il (il_of (s311 _ _ hph)), dp_il (il_of (s311 _ _ hp3)), shaped_ints _, shaped_ints _, _, rfl, ?_⟩
        rw [eqv_ints, decide_eq_true rfl]
        refine iteF ?_
        -- kept, told
        refine ⟨_, rfl, fo, _, rfl, .inl (SqL.of hxs), fun ke nke => ?_⟩
        have ske : Same H11 (upd H11 ke (.lst xs)) := same_upd nke
        have hke := hfo11.copy hxs nke
        have hfo12 := hfo11.same ske
        refine ⟨_, rfl, _, rfl, ph, fo, hs, T, rfl, ske _ _ (s311 _ _ hph), hfo12, G, vd, by omega, fun H13 num' s13 run' => ⟨_, _, rfl, ?_⟩⟩
        have en := run'.uniq run
        subst en
        have s1113 := ske.trans s13
        have hke13 := hke.same s13
        have hfo13 := hfo12.same s13
        refine ⟨_, rfl, _, rfl, true, rfl, iteF ?_⟩
        refine ⟨_, rfl, _, rfl, rfl, _, rfl, ?_⟩
        rw [decide_eq_true rfl]
        refine iteF ?_
        refine ⟨_, rfl, _, rfl, _, _, dp_pl hfo13, dp_pl hke13, shaped_pl _, shaped_pl _, _, rfl, ?_⟩
        rw [eqv_pl]
        refine iteF ?_
        -- found.append((0, 0))
        have hxs13 := s1113 _ _ hxs
        refine ⟨_, rfl, .inl ⟨rfl, _, SqL.of hxs13⟩, by show 2 ≤ sizeLine; decide, fun z nz => ?_⟩
        have sz := same_upd (o := .tup [V.int 0, V.int 0]) nz
        refine ⟨fo, _, _, rfl, rfl, sz _ _ hxs13, sz63' (by omega), ?_⟩
        have nkf : ke ≠ fo := (ne_of_none hxs nke).symm
        have nfo9 : H9 fo = none := nfo
        have s9z : Same H9 (upd (upd H13 z (.tup [V.int 0, V.int 0])) fo (.lst (xs ++ [V.ref z]))) := same_mut (s10.trans (s11.trans (s1113.trans sz))) nfo
        have hkeZ : PL (upd (upd H13 z (.tup [V.int 0, V.int 0])) fo (.lst (xs ++ [V.ref z]))) ke T := by
          obtain ⟨ps, e1, e2, e3⟩ := hke13.same sz
          exact ⟨ps, by rw [upd_ne nkf]; exact e1, e2.lst (sz _ _ hxs13), e3⟩
        revert s9z hkeZ
        generalize upd (upd H13 z (.tup [V.int 0, V.int 0])) fo (.lst (xs ++ [V.ref z])) = H14
        intro s9z hkeZ
        have s314 := s39.trans s9z
        refine ⟨_, rfl, _, rfl, _, rfl, ph, hs, k, num', rfl, s314 _ _ hph, G, hkn, n0, n1, fun H15 f2 s15 nf2 hf2 => ?_⟩
        rw [← eT] at hf2
        refine ⟨_, rfl, _, _, dp_pl hf2, dp_pl (hkeZ.same s15), shaped_pl _, shaped_pl _, _, rfl, ?_⟩
        rw [eqv_pl]
        refine iteF ?_
        have s915 := s9z.trans s15
        exact ⟨_, _, _, _, rfl, s9.trans s915, s915 _ _ hQ9⟩
      · rintro σ H9 ⟨y6, y7, y8, y9, rfl, s9, hQ9⟩
        exact ⟨_, _, _, _, _, rfl, s7.trans s9, s9 _ _ hT7⟩
    · rintro σ H7 ⟨x5, x6, x7, x8, x9, rfl, s7, _⟩
      -- for by in (1, 3)
      refine ⟨by show 2 ≤ sizeLine; decide, fun tb ntb => ?_⟩
      obtain ⟨bs, ebs⟩ : ∃ bs, bs = [(1 : Int), 3] := ⟨_, rfl⟩
      have bok : ∀ x ∈ bs, ∃ b : Nat, x = (b : Int) ∧ b ≤ 3 := by
        intro x hx
        rw [ebs] at hx
        simp only [List.mem_cons, List.not_mem_nil, or_false] at hx
        rcases hx with rfl | rfl
        · exact ⟨1, rfl, by decide⟩
        · exact ⟨3, rfl, by decide⟩
      have hB : (upd H7 tb (.tup ([(1 : Int), 3].map V.int))) tb = some (.tup (bs.map V.int)) := by rw [ebs]; exact upd_same
      have s8 : Same H3 (upd H7 tb (.tup ([(1 : Int), 3].map V.int))) := s7.trans (same_upd ntb)
      refine ⟨tb, rfl, ⟨_, SqT.of hB⟩, for_tup (K := K) (a := tb) (xs := bs.map V.int) (fun i σ H' => ∃ (y6 y10 y11 y12 : Option V), σ = [some (.ref a), some (.ref p), some (.ref pw), some (.ref ph), some (.int (t : Int)), x5, y6, x7, x8, x9, y10, y11, y12] ∧ Same H3 H' ∧ H' tb = some (.tup (bs.map V.int)))
        ⟨x6, none, none, none, rfl, s8, hB⟩ (fun i σ H' _ ⟨_, _, _, _, _, _, e⟩ => SqT.of e) ?_ ?_⟩
      · rintro i x σ H9 hi ⟨y6, y10, y11, y12, rfl, s9, hB9⟩
        obtain ⟨bx, rfl, hb⟩ := mapI_get hi
        obtain ⟨b, rfl, hb3⟩ := bok bx (List.mem_of_getElem? hb)
        refine ⟨_, rfl, _, rfl, _, rfl, a, p, ns, hs, b, rfl, (s3.trans s9).seq hS, by omega, il_of (s9 _ _ hp3), hnn, by omega, fun H10 th T s10 nth hth vd => ?_⟩
        have lT := vd.len
        have s310 := s9.trans s10
        obtain ⟨xs, hxs, lxs⟩ := hth.len
        refine ⟨_, rfl, th, _, rfl, .inl (SqL.of hxs), fun as nas => ?_⟩
        have sas : Same H10 (upd H10 as (.lst xs)) := same_upd nas
        have has := hth.copy hxs nas
        have hth11 := hth.same sas
        have hxs11 := sas _ _ hxs
        have s311 := s310.trans sas
        revert has hth11 hxs11 s311 sas
        generalize upd H10 as (.lst xs) = H11
        intro sas has hth11 hxs11 s311
        refine ⟨_, rfl, _, rfl, ph, as, hs, T, rfl, s311 _ _ hph, has, G, vd, by omega, fun H12 num s12 run => ?_⟩
        obtain ⟨n0, n1, eT⟩ := number_way G.rise G.pos run
        have s312 := s311.trans s12
        refine ⟨_, rfl, _, rfl, true, rfl, iteF ?_⟩
        have hg : ((tab (cntF hs) (hs.length + 1)).map V.int)[xs.length]? = some (.int (cn hs hs.length T.length)) := by
          rw [ecn, lxs]
          exact mapI_at (tab_get (by omega))
        refine ⟨_, rfl, _, _, rfl, rfl, true, (by show V.bl (decide ((0 : Int) ≤ num)) = V.bl true; rw [decide_eq_true n0]), iteT ?_⟩
        refine ⟨_, rfl, _, rfl, th, _, rfl, .inl (SqL.of (s12 _ _ hxs11)), pw, _, _, _, rfl, rfl, SqL.of (s312 _ _ hpw3), atI_nat hg, _, _, rfl, rfl, true, (by show V.bl (decide (num < cn hs hs.length T.length)) = V.bl true; rw [decide_eq_true n1]), iteF ?_⟩
        refine ⟨_, rfl, _, rfl, _, _, dp_pl (has.same s12), dp_pl (hth11.same s12), shaped_pl _, shaped_pl _, _, rfl, ?_⟩
        rw [eqv_pl]
        refine iteF ?_
        refine ⟨_, rfl, _, rfl, th, _, rfl, .inl (SqL.of (s12 _ _ hxs11)), _, rfl, ph, hs, T.length, num, by rw [lxs]; rfl, s312 _ _ hph, G, lT, n0, n1, fun H13 f2 s13 nf2 hf2 => ?_⟩
        rw [eT] at hf2
        refine ⟨_, rfl, _, _, dp_pl hf2, dp_pl (hth11.same (s12.trans s13)), shaped_pl _, shaped_pl _, _, rfl, ?_⟩
        rw [eqv_pl]
        refine iteF ?_
        exact ⟨_, _, _, _, rfl, s312.trans s13, (s10.trans (sas.trans (s12.trans s13))) _ _ hB9⟩
      · rintro σ H9 ⟨y6, y10, y11, y12, rfl, s9, _⟩
        -- the end
        have R0 : Run [] ([] : List Int).length [] 0 := .zero
        refine ⟨Nat.zero_le _, fun l nl => ?_⟩
        have hl0 : (upd H9 l (.lst [])) l = some (.lst (([] : List Int).map V.int)) := upd_same
        refine ⟨l, [], 0, 0, rfl, hl0, ⟨fun i j x y _ hx _ => (by simp at hx), fun x hx => (by simp at hx), fun x hx => (by simp at hx), by decide⟩, Nat.le_refl _, Int.le_refl _, by decide, fun H10 f1 s10 nf1 hf1 => ?_⟩
        refine ⟨Nat.zero_le _, fun l2 nl2 => ?_⟩
        have hl2 : (upd H10 l2 (.lst [])) l2 = some (.lst (([] : List Int).map V.int)) := upd_same
        have ef : tw (ch [] ([] : List Int).length 0 0) = [] := rfl
        rw [ef] at hf1
        refine ⟨_, _, dp_pl (hf1.same (same_upd nl2)), dp_il (il_of hl2), shaped_pl _, shaped_ints _, ?_⟩
        rw [dT_nil, eqv_ints, decide_eq_true rfl]
        refine ⟨_, rfl, iteT ?_⟩
        refine ⟨Nat.zero_le _, fun l3 nl3 => ⟨Nat.zero_le _, fun l4 nl4 => ?_⟩⟩
        have hl3 := same_upd (o := .lst []) nl4 l3 _ (upd_same (o := .lst (([] : List Int).map V.int)))
        refine ⟨l3, l4, [], [], rfl, hl3, PL.empty upd_same, ⟨fun i j x y _ hx _ => (by simp at hx), fun x hx => (by simp at hx), fun x hx => (by simp at hx), by decide⟩, ⟨List.Pairwise.nil, fun q hq => (by cases hq), List.nodup_nil⟩, by decide, fun H11 num s11 run => ?_⟩
        have en := run.uniq R0
        subst en
        exact ⟨rfl, q _⟩
end
end TS
namespace TS
open PySem PySem.Spec PyProof.Rows L2
theorem all_mk {l : PySem.W.OpenLaw} {w : World} {K : PySem.W.Frag} {h : Heap} {mg : Str → Option Value} {fa f1 f2 f3 f4 f5 f6 f7 f8 f9 f10 f11 f12 f13 f14 f15 f16 f17 f18 f19 f20 f21 f22 f23 f24 : Addr} (X : K.In h) (G : h.Ns mainGlobals mg) (hfa : mg "law" = some (.ref fa))
    {od1 an1 od2 an2 od3 an3 od4 an4 od5 an5 od6 an6 od7 an7 od8 an8 od9 an9 od10 an10 od11 an11 od12 an12 od13 an13 od14 an14 od15 an15 od16 an16 od17 an17 od18 an18 od19 an19 od20 an20 od21 an21 od22 an22 od23 an23 od24 an24 : Option Addr} {sl1 sl2 sl3 sl4 sl5 sl6 sl7 sl8 sl9 sl10 sl11 sl12 sl13 sl14 sl15 sl16 sl17 sl18 sl19 sl20 sl21 sl22 sl23 sl24 : Array (Option Value)} {oc1 kV1 dc1 pm1 cd1 ct1 oc2 kV2 dc2 pm2 cd2 ct2 oc3 kV3 dc3 pm3 cd3 ct3 oc4 kV4 dc4 pm4 cd4 ct4 oc5 kV5 dc5 pm5 cd5 ct5 oc6 kV6 dc6 pm6 cd6 ct6 oc7 kV7 dc7 pm7 cd7 ct7 oc8 kV8 dc8 pm8 cd8 ct8 oc9 kV9 dc9 pm9 cd9 ct9 oc10 kV10 dc10 pm10 cd10 ct10 oc11 kV11 dc11 pm11 cd11 ct11 oc12 kV12 dc12 pm12 cd12 ct12 oc13 kV13 dc13 pm13 cd13 ct13 oc14 kV14 dc14 pm14 cd14 ct14 oc15 kV15 dc15 pm15 cd15 ct15 oc16 kV16 dc16 pm16 cd16 ct16 oc17 kV17 dc17 pm17 cd17 ct17 oc18 kV18 dc18 pm18 cd18 ct18 oc19 kV19 dc19 pm19 cd19 ct19 oc20 kV20 dc20 pm20 cd20 ct20 oc21 kV21 dc21 pm21 cd21 ct21 oc22 kV22 dc22 pm22 cd22 ct22 oc23 kV23 dc23 pm23 cd23 ct23 oc24 kV24 dc24 pm24 cd24 ct24 : Value}
    (a1 : PySem.W.nsIn K mainGlobals "is_count" = some (some (.ref f1))) (l1 : K.lookup f1 = some ⟨oc1, od1, .func (PySem.W.fnOf "is_count" "is_count" (defArgs s_is_count) (defBody s_is_count) (defScope s_is_count) .none kV1 dc1 pm1 an1 cd1 ct1), sl1⟩) (c1 : PySem.W.codeIn K cd1 "is_count" = true) (k1 : PySem.W.keepIn K (.ref f1) = true)
    (a2 : PySem.W.nsIn K mainGlobals "is_stairs" = some (some (.ref f2))) (l2 : K.lookup f2 = some ⟨oc2, od2, .func (PySem.W.fnOf "is_stairs" "is_stairs" (defArgs s_is_stairs) (defBody s_is_stairs) (defScope s_is_stairs) .none kV2 dc2 pm2 an2 cd2 ct2), sl2⟩) (c2 : PySem.W.codeIn K cd2 "is_stairs" = true) (k2 : PySem.W.keepIn K (.ref f2) = true)
    (a3 : PySem.W.nsIn K mainGlobals "check_stairs" = some (some (.ref f3))) (l3 : K.lookup f3 = some ⟨oc3, od3, .func (PySem.W.fnOf "check_stairs" "check_stairs" (defArgs s_check_stairs) (defBody s_check_stairs) (defScope s_check_stairs) .none kV3 dc3 pm3 an3 cd3 ct3), sl3⟩) (c3 : PySem.W.codeIn K cd3 "check_stairs" = true) (k3 : PySem.W.keepIn K (.ref f3) = true)
    (a4 : PySem.W.nsIn K mainGlobals "is_cell" = some (some (.ref f4))) (l4 : K.lookup f4 = some ⟨oc4, od4, .func (PySem.W.fnOf "is_cell" "is_cell" (defArgs s_is_cell) (defBody s_is_cell) (defScope s_is_cell) .none kV4 dc4 pm4 an4 cd4 ct4), sl4⟩) (c4 : PySem.W.codeIn K cd4 "is_cell" = true) (k4 : PySem.W.keepIn K (.ref f4) = true)
    (a5 : PySem.W.nsIn K mainGlobals "are_towers" = some (some (.ref f5))) (l5 : K.lookup f5 = some ⟨oc5, od5, .func (PySem.W.fnOf "are_towers" "are_towers" (defArgs s_are_towers) (defBody s_are_towers) (defScope s_are_towers) .none kV5 dc5 pm5 an5 cd5 ct5), sl5⟩) (c5 : PySem.W.codeIn K cd5 "are_towers" = true) (k5 : PySem.W.keepIn K (.ref f5) = true)
    (a6 : PySem.W.nsIn K mainGlobals "ways_without_columns" = some (some (.ref f6))) (l6 : K.lookup f6 = some ⟨oc6, od6, .func (PySem.W.fnOf "ways_without_columns" "ways_without_columns" (defArgs s_ways_without_columns) (defBody s_ways_without_columns) (defScope s_ways_without_columns) .none kV6 dc6 pm6 an6 cd6 ct6), sl6⟩) (c6 : PySem.W.codeIn K cd6 "ways_without_columns" = true) (k6 : PySem.W.keepIn K (.ref f6) = true)
    (a7 : PySem.W.nsIn K mainGlobals "add_column" = some (some (.ref f7))) (l7 : K.lookup f7 = some ⟨oc7, od7, .func (PySem.W.fnOf "add_column" "add_column" (defArgs s_add_column) (defBody s_add_column) (defScope s_add_column) .none kV7 dc7 pm7 an7 cd7 ct7), sl7⟩) (c7 : PySem.W.codeIn K cd7 "add_column" = true) (k7 : PySem.W.keepIn K (.ref f7) = true)
    (a8 : PySem.W.nsIn K mainGlobals "take_column" = some (some (.ref f8))) (l8 : K.lookup f8 = some ⟨oc8, od8, .func (PySem.W.fnOf "take_column" "take_column" (defArgs s_take_column) (defBody s_take_column) (defScope s_take_column) .none kV8 dc8 pm8 an8 cd8 ct8), sl8⟩) (c8 : PySem.W.codeIn K cd8 "take_column" = true) (k8 : PySem.W.keepIn K (.ref f8) = true)
    (a9 : PySem.W.nsIn K mainGlobals "ways_up_to" = some (some (.ref f9))) (l9 : K.lookup f9 = some ⟨oc9, od9, .func (PySem.W.fnOf "ways_up_to" "ways_up_to" (defArgs s_ways_up_to) (defBody s_ways_up_to) (defScope s_ways_up_to) .none kV9 dc9 pm9 an9 cd9 ct9), sl9⟩) (c9 : PySem.W.codeIn K cd9 "ways_up_to" = true) (k9 : PySem.W.keepIn K (.ref f9) = true)
    (a10 : PySem.W.nsIn K mainGlobals "_row_above" = some (some (.ref f10))) (l10 : K.lookup f10 = some ⟨oc10, od10, .func (PySem.W.fnOf "_row_above" "_row_above" (defArgs s__row_above) (defBody s__row_above) (defScope s__row_above) .none kV10 dc10 pm10 an10 cd10 ct10), sl10⟩) (c10 : PySem.W.codeIn K cd10 "_row_above" = true) (k10 : PySem.W.keepIn K (.ref f10) = true)
    (a11 : PySem.W.nsIn K mainGlobals "_free_below" = some (some (.ref f11))) (l11 : K.lookup f11 = some ⟨oc11, od11, .func (PySem.W.fnOf "_free_below" "_free_below" (defArgs s__free_below) (defBody s__free_below) (defScope s__free_below) .none kV11 dc11 pm11 an11 cd11 ct11), sl11⟩) (c11 : PySem.W.codeIn K cd11 "_free_below" = true) (k11 : PySem.W.keepIn K (.ref f11) = true)
    (a12 : PySem.W.nsIn K mainGlobals "_choices" = some (some (.ref f12))) (l12 : K.lookup f12 = some ⟨oc12, od12, .func (PySem.W.fnOf "_choices" "_choices" (defArgs s__choices) (defBody s__choices) (defScope s__choices) .none kV12 dc12 pm12 an12 cd12 ct12), sl12⟩) (c12 : PySem.W.codeIn K cd12 "_choices" = true) (k12 : PySem.W.keepIn K (.ref f12) = true)
    (a13 : PySem.W.nsIn K mainGlobals "_with_rows" = some (some (.ref f13))) (l13 : K.lookup f13 = some ⟨oc13, od13, .func (PySem.W.fnOf "_with_rows" "_with_rows" (defArgs s__with_rows) (defBody s__with_rows) (defScope s__with_rows) .none kV13 dc13 pm13 an13 cd13 ct13), sl13⟩) (c13 : PySem.W.codeIn K cd13 "_with_rows" = true) (k13 : PySem.W.keepIn K (.ref f13) = true)
    (a14 : PySem.W.nsIn K mainGlobals "way_of" = some (some (.ref f14))) (l14 : K.lookup f14 = some ⟨oc14, od14, .func (PySem.W.fnOf "way_of" "way_of" (defArgs s_way_of) (defBody s_way_of) (defScope s_way_of) .none kV14 dc14 pm14 an14 cd14 ct14), sl14⟩) (c14 : PySem.W.codeIn K cd14 "way_of" = true) (k14 : PySem.W.keepIn K (.ref f14) = true)
    (a15 : PySem.W.nsIn K mainGlobals "number_of" = some (some (.ref f15))) (l15 : K.lookup f15 = some ⟨oc15, od15, .func (PySem.W.fnOf "number_of" "number_of" (defArgs s_number_of) (defBody s_number_of) (defScope s_number_of) .none kV15 dc15 pm15 an15 cd15 ct15), sl15⟩) (c15 : PySem.W.codeIn K cd15 "number_of" = true) (k15 : PySem.W.keepIn K (.ref f15) = true)
    (a16 : PySem.W.nsIn K mainGlobals "_law_cell_at" = some (some (.ref f16))) (l16 : K.lookup f16 = some ⟨oc16, od16, .func (PySem.W.fnOf "_law_cell_at" "_law_cell_at" (defArgs s_l_cell_at) (defBody s_l_cell_at) (defScope s_l_cell_at) .none kV16 dc16 pm16 an16 cd16 ct16), sl16⟩) (c16 : PySem.W.codeIn K cd16 "_law_cell_at" = true) (k16 : PySem.W.keepIn K (.ref f16) = true)
    (a17 : PySem.W.nsIn K mainGlobals "_law_draw" = some (some (.ref f17))) (l17 : K.lookup f17 = some ⟨oc17, od17, .func (PySem.W.fnOf "_law_draw" "_law_draw" (defArgs s_l_draw) (defBody s_l_draw) (defScope s_l_draw) .none kV17 dc17 pm17 an17 cd17 ct17), sl17⟩) (c17 : PySem.W.codeIn K cd17 "_law_draw" = true) (k17 : PySem.W.keepIn K (.ref f17) = true)
    (a18 : PySem.W.nsIn K mainGlobals "_law_stairs" = some (some (.ref f18))) (l18 : K.lookup f18 = some ⟨oc18, od18, .func (PySem.W.fnOf "_law_stairs" "_law_stairs" (defArgs s_l_stairs) (defBody s_l_stairs) (defScope s_l_stairs) .none kV18 dc18 pm18 an18 cd18 ct18), sl18⟩) (c18 : PySem.W.codeIn K cd18 "_law_stairs" = true) (k18 : PySem.W.keepIn K (.ref f18) = true)
    (a19 : PySem.W.nsIn K mainGlobals "_law_counts" = some (some (.ref f19))) (l19 : K.lookup f19 = some ⟨oc19, od19, .func (PySem.W.fnOf "_law_counts" "_law_counts" (defArgs s_l_counts) (defBody s_l_counts) (defScope s_l_counts) .none kV19 dc19 pm19 an19 cd19 ct19), sl19⟩) (c19 : PySem.W.codeIn K cd19 "_law_counts" = true) (k19 : PySem.W.keepIn K (.ref f19) = true)
    (a20 : PySem.W.nsIn K mainGlobals "_law_whole" = some (some (.ref f20))) (l20 : K.lookup f20 = some ⟨oc20, od20, .func (PySem.W.fnOf "_law_whole" "_law_whole" (defArgs s_l_whole) (defBody s_l_whole) (defScope s_l_whole) .none kV20 dc20 pm20 an20 cd20 ct20), sl20⟩) (c20 : PySem.W.codeIn K cd20 "_law_whole" = true) (k20 : PySem.W.keepIn K (.ref f20) = true)
    (a21 : PySem.W.nsIn K mainGlobals "_law_far" = some (some (.ref f21))) (l21 : K.lookup f21 = some ⟨oc21, od21, .func (PySem.W.fnOf "_law_far" "_law_far" (defArgs s_l_far) (defBody s_l_far) (defScope s_l_far) .none kV21 dc21 pm21 an21 cd21 ct21), sl21⟩) (c21 : PySem.W.codeIn K cd21 "_law_far" = true) (k21 : PySem.W.keepIn K (.ref f21) = true)
    (a22 : PySem.W.nsIn K mainGlobals "_law_set" = some (some (.ref f22))) (l22 : K.lookup f22 = some ⟨oc22, od22, .func (PySem.W.fnOf "_law_set" "_law_set" (defArgs s_l_set) (defBody s_l_set) (defScope s_l_set) .none kV22 dc22 pm22 an22 cd22 ct22), sl22⟩) (c22 : PySem.W.codeIn K cd22 "_law_set" = true) (k22 : PySem.W.keepIn K (.ref f22) = true)
    (a23 : PySem.W.nsIn K mainGlobals "_law_towers" = some (some (.ref f23))) (l23 : K.lookup f23 = some ⟨oc23, od23, .func (PySem.W.fnOf "_law_towers" "_law_towers" (defArgs s_l_towers) (defBody s_l_towers) (defScope s_l_towers) .none kV23 dc23 pm23 an23 cd23 ct23), sl23⟩) (c23 : PySem.W.codeIn K cd23 "_law_towers" = true) (k23 : PySem.W.keepIn K (.ref f23) = true)
    (a24 : PySem.W.nsIn K mainGlobals "law" = some (some (.ref f24))) (l24 : K.lookup f24 = some ⟨oc24, od24, .func (PySem.W.fnOf "law" "law" (defArgs s_law) (defBody s_law) (defScope s_law) .none kV24 dc24 pm24 an24 cd24 ct24), sl24⟩) (c24 : PySem.W.codeIn K cd24 "law" = true) (k24 : PySem.W.keepIn K (.ref f24) = true)
    (z_len : PySem.W.nsIn K mainGlobals "len" = some none) (z_isinstance : PySem.W.nsIn K mainGlobals "isinstance" = some none) (z_sorted : PySem.W.nsIn K mainGlobals "sorted" = some none) (z_range : PySem.W.nsIn K mainGlobals "range" = some none) (z_enumerate : PySem.W.nsIn K mainGlobals "enumerate" = some none) (z_reversed : PySem.W.nsIn K mainGlobals "reversed" = some none) (z_min : PySem.W.nsIn K mainGlobals "min" = some none) (z_all : PySem.W.nsIn K mainGlobals "all" = some none) (z_list : PySem.W.nsIn K mainGlobals "list" = some none) (z_int : PySem.W.nsIn K mainGlobals "int" = some none) (z_bool : PySem.W.nsIn K mainGlobals "bool" = some none) (z_tuple : PySem.W.nsIn K mainGlobals "tuple" = some none) (z_dict : PySem.W.nsIn K mainGlobals "dict" = some none) (z_set : PySem.W.nsIn K mainGlobals "set" = some none) (z_divmod : PySem.W.nsIn K mainGlobals "divmod" = some none)
    : ∃ fd : FuncData, (∀ (s : Shared) (v : Value), BindsTo s fd ⟨[v], []⟩ [("_law_script", v)]) ∧ ∀ base : Heap, K.In base → base.Ns mainGlobals mg → FnOk l.prog w K mg base CX0 5 fa fd ["_law_script"] (spLaw K) := by
  have e := hfa.symm.trans (PySem.W.mg_of X G a24)
  cases e
  have B : Bl mg := ⟨PySem.W.mg_none_of X G z_len, PySem.W.mg_none_of X G z_isinstance, PySem.W.mg_none_of X G z_sorted, PySem.W.mg_none_of X G z_range, PySem.W.mg_none_of X G z_enumerate, PySem.W.mg_none_of X G z_reversed, PySem.W.mg_none_of X G z_min, PySem.W.mg_none_of X G z_all, PySem.W.mg_none_of X G z_list, PySem.W.mg_none_of X G z_int, PySem.W.mg_none_of X G z_bool, PySem.W.mg_none_of X G z_tuple, PySem.W.mg_none_of X G z_dict, PySem.W.mg_none_of X G z_set, PySem.W.mg_none_of X G z_divmod⟩
  have F_is_count := fun_mk (st := s_is_count) l1 c1 k1
  have b_is_count := F_is_count.binds (ps := ["value"]) fun _ _ _ _ _ _ us hl => match us, hl with | [_], _ => rfl
  have g_is_count := PySem.W.mg_of X G a1
  have k_is_count := k1
  have F_is_stairs := fun_mk (st := s_is_stairs) l2 c2 k2
  have b_is_stairs := F_is_stairs.binds (ps := ["stairs"]) fun _ _ _ _ _ _ us hl => match us, hl with | [_], _ => rfl
  have g_is_stairs := PySem.W.mg_of X G a2
  have k_is_stairs := k2
  have F_check_stairs := fun_mk (st := s_check_stairs) l3 c3 k3
  have b_check_stairs := F_check_stairs.binds (ps := ["stairs"]) fun _ _ _ _ _ _ us hl => match us, hl with | [_], _ => rfl
  have g_check_stairs := PySem.W.mg_of X G a3
  have k_check_stairs := k3
  have F_is_cell := fun_mk (st := s_is_cell) l4 c4 k4
  have b_is_cell := F_is_cell.binds (ps := ["stairs", "cell"]) fun _ _ _ _ _ _ us hl => match us, hl with | [_, _], _ => rfl
  have g_is_cell := PySem.W.mg_of X G a4
  have k_is_cell := k4
  have F_are_towers := fun_mk (st := s_are_towers) l5 c5 k5
  have b_are_towers := F_are_towers.binds (ps := ["stairs", "towers"]) fun _ _ _ _ _ _ us hl => match us, hl with | [_, _], _ => rfl
  have g_are_towers := PySem.W.mg_of X G a5
  have k_are_towers := k5
  have F_ways_without_columns := fun_mk (st := s_ways_without_columns) l6 c6 k6
  have b_ways_without_columns := F_ways_without_columns.binds (ps := ["most"]) fun _ _ _ _ _ _ us hl => match us, hl with | [_], _ => rfl
  have g_ways_without_columns := PySem.W.mg_of X G a6
  have k_ways_without_columns := k6
  have F_add_column := fun_mk (st := s_add_column) l7 c7 k7
  have b_add_column := F_add_column.binds (ps := ["ways", "height"]) fun _ _ _ _ _ _ us hl => match us, hl with | [_, _], _ => rfl
  have g_add_column := PySem.W.mg_of X G a7
  have k_add_column := k7
  have F_take_column := fun_mk (st := s_take_column) l8 c8 k8
  have b_take_column := F_take_column.binds (ps := ["ways", "height"]) fun _ _ _ _ _ _ us hl => match us, hl with | [_, _], _ => rfl
  have g_take_column := PySem.W.mg_of X G a8
  have k_take_column := k8
  have F_ways_up_to := fun_mk (st := s_ways_up_to) l9 c9 k9
  have b_ways_up_to := F_ways_up_to.binds (ps := ["stairs", "most"]) fun _ _ _ _ _ _ us hl => match us, hl with | [_, _], _ => rfl
  have g_ways_up_to := PySem.W.mg_of X G a9
  have k_ways_up_to := k9
  have F__row_above := fun_mk (st := s__row_above) l10 c10 k10
  have b__row_above := F__row_above.binds (ps := ["taken", "free"]) fun _ _ _ _ _ _ us hl => match us, hl with | [_, _], _ => rfl
  have g__row_above := PySem.W.mg_of X G a10
  have k__row_above := k10
  have F__free_below := fun_mk (st := s__free_below) l11 c11 k11
  have b__free_below := F__free_below.binds (ps := ["taken", "row"]) fun _ _ _ _ _ _ us hl => match us, hl with | [_, _], _ => rfl
  have g__free_below := PySem.W.mg_of X G a11
  have k__free_below := k11
  have F__choices := fun_mk (st := s__choices) l12 c12 k12
  have b__choices := F__choices.binds (ps := ["stairs", "ways", "number"]) fun _ _ _ _ _ _ us hl => match us, hl with | [_, _, _], _ => rfl
  have g__choices := PySem.W.mg_of X G a12
  have k__choices := k12
  have F__with_rows := fun_mk (st := s__with_rows) l13 c13 k13
  have b__with_rows := F__with_rows.binds (ps := ["choices"]) fun _ _ _ _ _ _ us hl => match us, hl with | [_], _ => rfl
  have g__with_rows := PySem.W.mg_of X G a13
  have k__with_rows := k13
  have F_way_of := fun_mk (st := s_way_of) l14 c14 k14
  have b_way_of := F_way_of.binds (ps := ["stairs", "many", "number"]) fun _ _ _ _ _ _ us hl => match us, hl with | [_, _, _], _ => rfl
  have g_way_of := PySem.W.mg_of X G a14
  have k_way_of := k14
  have F_number_of := fun_mk (st := s_number_of) l15 c15 k15
  have b_number_of := F_number_of.binds (ps := ["stairs", "towers"]) fun _ _ _ _ _ _ us hl => match us, hl with | [_, _], _ => rfl
  have g_number_of := PySem.W.mg_of X G a15
  have k_number_of := k15
  have F_l_cell_at := fun_mk (st := s_l_cell_at) l16 c16 k16
  have b_l_cell_at := F_l_cell_at.binds (ps := ["_law_script", "_law_k"]) fun _ _ _ _ _ _ us hl => match us, hl with | [_, _], _ => rfl
  have g_l_cell_at := PySem.W.mg_of X G a16
  have k_l_cell_at := k16
  have F_l_draw := fun_mk (st := s_l_draw) l17 c17 k17
  have b_l_draw := F_l_draw.binds (ps := ["_law_cell", "_law_k", "_law_many"]) fun _ _ _ _ _ _ us hl => match us, hl with | [_, _, _], _ => rfl
  have g_l_draw := PySem.W.mg_of X G a17
  have k_l_draw := k17
  have F_l_stairs := fun_mk (st := s_l_stairs) l18 c18 k18
  have b_l_stairs := F_l_stairs.binds (ps := ["_law_script"]) fun _ _ _ _ _ _ us hl => match us, hl with | [_], _ => rfl
  have g_l_stairs := PySem.W.mg_of X G a18
  have k_l_stairs := k18
  have F_l_counts := fun_mk (st := s_l_counts) l19 c19 k19
  have b_l_counts := F_l_counts.binds (ps := ["_law_stairs_here"]) fun _ _ _ _ _ _ us hl => match us, hl with | [_], _ => rfl
  have g_l_counts := PySem.W.mg_of X G a19
  have k_l_counts := k19
  have F_l_whole := fun_mk (st := s_l_whole) l20 c20 k20
  have b_l_whole := F_l_whole.binds (ps := ["_law_number"]) fun _ _ _ _ _ _ us hl => match us, hl with | [_], _ => rfl
  have g_l_whole := PySem.W.mg_of X G a20
  have k_l_whole := k20
  have F_l_far := fun_mk (st := s_l_far) l21 c21 k21
  have b_l_far := F_l_far.binds (ps := ["_law_script", "_law_by", "_law_most"]) fun _ _ _ _ _ _ us hl => match us, hl with | [_, _, _], _ => rfl
  have g_l_far := PySem.W.mg_of X G a21
  have k_l_far := k21
  have F_l_set := fun_mk (st := s_l_set) l22 c22 k22
  have b_l_set := F_l_set.binds (ps := ["_law_script", "_law_stairs_here", "_law_by"]) fun _ _ _ _ _ _ us hl => match us, hl with | [_, _, _], _ => rfl
  have g_l_set := PySem.W.mg_of X G a22
  have k_l_set := k22
  have F_l_towers := fun_mk (st := s_l_towers) l23 c23 k23
  have b_l_towers := F_l_towers.binds (ps := ["_law_stairs_here", "_law_found"]) fun _ _ _ _ _ _ us hl => match us, hl with | [_, _], _ => rfl
  have g_l_towers := PySem.W.mg_of X G a23
  have k_l_towers := k23
  have F_law := fun_mk (st := s_law) l24 c24 k24
  refine ⟨PySem.W.fnOf "law" "law" (defArgs s_law) (defBody s_law) (defScope s_law) .none kV24 dc24 pm24 an24 cd24 ct24, fun s v => .of_eq rfl, fun base _ _ => ?_⟩
  have D_is_count : Df l.prog w K mg base "is_count" 1 ["value"] spIsCount _ _ := ⟨ok_is_count (m := 0) B F_is_count, g_is_count, k_is_count, b_is_count⟩
  have D_is_stairs : Df l.prog w K mg base "is_stairs" 2 ["stairs"] spIsStairs _ _ := ⟨ok_is_stairs (m := 0) B D_is_count F_is_stairs, g_is_stairs, k_is_stairs, b_is_stairs⟩
  have D_check_stairs : Df l.prog w K mg base "check_stairs" 3 ["stairs"] spCheck _ _ := ⟨ok_check_stairs (m := 1) B D_is_stairs F_check_stairs, g_check_stairs, k_check_stairs, b_check_stairs⟩
  have D_is_cell : Df l.prog w K mg base "is_cell" 2 ["stairs", "cell"] spIsCell _ _ := ⟨ok_is_cell (m := 0) B D_is_count F_is_cell, g_is_cell, k_is_cell, b_is_cell⟩
  have D_are_towers : Df l.prog w K mg base "are_towers" 3 ["stairs", "towers"] spAreTowers _ _ := ⟨ok_are_towers (m := 1) B D_is_cell F_are_towers, g_are_towers, k_are_towers, b_are_towers⟩
  have D_ways_without_columns : Df l.prog w K mg base "ways_without_columns" 1 ["most"] spNoCols _ _ := ⟨ok_ways_without_columns (n := 0) B F_ways_without_columns, g_ways_without_columns, k_ways_without_columns, b_ways_without_columns⟩
  have D_add_column : Df l.prog w K mg base "add_column" 1 ["ways", "height"] spAddCol _ _ := ⟨ok_add_column (m := 0) B F_add_column, g_add_column, k_add_column, b_add_column⟩
  have D_take_column : Df l.prog w K mg base "take_column" 1 ["ways", "height"] spTakeCol _ _ := ⟨ok_take_column (m := 0) B F_take_column, g_take_column, k_take_column, b_take_column⟩
  have D_ways_up_to : Df l.prog w K mg base "ways_up_to" 2 ["stairs", "most"] (spUpTo K) _ _ := ⟨ok_ways_up_to (m := 0) B D_ways_without_columns D_add_column F_ways_up_to, g_ways_up_to, k_ways_up_to, b_ways_up_to⟩
  have D__row_above : Df l.prog w K mg base "_row_above" 1 ["taken", "free"] (spRowAbove K) _ _ := ⟨ok__row_above (m := 0) B F__row_above, g__row_above, k__row_above, b__row_above⟩
  have D__free_below : Df l.prog w K mg base "_free_below" 1 ["taken", "row"] (spFreeBelow K) _ _ := ⟨ok__free_below (m := 0) B F__free_below, g__free_below, k__free_below, b__free_below⟩
  have D__choices : Df l.prog w K mg base "_choices" 2 ["stairs", "ways", "number"] (spChoices K) _ _ := ⟨ok__choices (m := 0) B D_take_column F__choices, g__choices, k__choices, b__choices⟩
  have D__with_rows : Df l.prog w K mg base "_with_rows" 2 ["choices"] spWithRows _ _ := ⟨ok__with_rows (m := 0) B D__row_above F__with_rows, g__with_rows, k__with_rows, b__with_rows⟩
  have D_way_of : Df l.prog w K mg base "way_of" 4 ["stairs", "many", "number"] (spWayOf K) _ _ := ⟨ok_way_of (m := 0) B D_check_stairs D_is_count D_ways_up_to D__with_rows D__choices F_way_of, g_way_of, k_way_of, b_way_of⟩
  have D_number_of : Df l.prog w K mg base "number_of" 4 ["stairs", "towers"] (spNumberOf K) _ _ := ⟨ok_number_of (m := 0) B D_check_stairs D_are_towers D_ways_without_columns D__free_below D_add_column F_number_of, g_number_of, k_number_of, b_number_of⟩
  have D_l_cell_at : Df l.prog w K mg base "_law_cell_at" 1 ["_law_script", "_law_k"] (spCellAt K) _ _ := ⟨ok_l_cell_at (n := 0) B F_l_cell_at, g_l_cell_at, k_l_cell_at, b_l_cell_at⟩
  have D_l_draw : Df l.prog w K mg base "_law_draw" 1 ["_law_cell", "_law_k", "_law_many"] spDraw _ _ := ⟨ok_l_draw (n := 0) B F_l_draw, g_l_draw, k_l_draw, b_l_draw⟩
  have D_l_stairs : Df l.prog w K mg base "_law_stairs" 2 ["_law_script"] (spStairs K) _ _ := ⟨ok_l_stairs (m := 0) B D_l_cell_at D_l_draw F_l_stairs, g_l_stairs, k_l_stairs, b_l_stairs⟩
  have D_l_counts : Df l.prog w K mg base "_law_counts" 1 ["_law_stairs_here"] (spLCounts K) _ _ := ⟨ok_l_counts (m := 0) B F_l_counts, g_l_counts, k_l_counts, b_l_counts⟩
  have D_l_whole : Df l.prog w K mg base "_law_whole" 1 ["_law_number"] spWhole _ _ := ⟨ok_l_whole (m := 0) B F_l_whole, g_l_whole, k_l_whole, b_l_whole⟩
  have D_l_far : Df l.prog w K mg base "_law_far" 2 ["_law_script", "_law_by", "_law_most"] (spFar K) _ _ := ⟨ok_l_far (m := 0) B D_l_draw F_l_far, g_l_far, k_l_far, b_l_far⟩
  have D_l_set : Df l.prog w K mg base "_law_set" 3 ["_law_script", "_law_stairs_here", "_law_by"] (spSet K) _ _ := ⟨ok_l_set (m := 0) B D_l_draw D_l_far F_l_set, g_l_set, k_l_set, b_l_set⟩
  have D_l_towers : Df l.prog w K mg base "_law_towers" 2 ["_law_stairs_here", "_law_found"] spTowers _ _ := ⟨ok_l_towers (m := 0) B D_l_whole F_l_towers, g_l_towers, k_l_towers, b_l_towers⟩
  exact ok_law B D_l_cell_at D_l_draw D_l_stairs D_l_counts D_l_whole D_l_far D_l_set D_l_towers D_way_of D_number_of F_law
end TS
open PySem PySem.W PyProof.Rows
set_option maxRecDepth 100000 in
set_option maxHeartbeats 0 in
theorem PySem.Challenge.cw_towerstair_k03_whole_numbers_holds : PySem.Challenge.rw_towerstair_k03_whole_numbers.Holds := by
  w_on; o_law; k_head; (case hw => w_witness2)
  k_fill
  refine L2.walk_of (l := PySem.Challenge.rw_towerstair_k03_whole_numbers) (n := 63) (k := 5) (x := "_law_script") (CX := fun _ => L2.CX0) (sp := fun w => TS.spLaw _) rfl (by decide) rfl ⟨rfl, by decide, by decide⟩ (fun w h Y => PySem.W.kIn_of Y) ?F (fun _ _ a ns hl _ hS => ⟨a, ns, rfl, hS, hl, fun _ => rfl⟩) (fun _ _ _ _ _ h => h)
  case F =>
    intro w mg fa h KX G hmg
    refine' TS.all_mk KX G hmg ?a1 ?l1 ?c1 ?k1 ?a2 ?l2 ?c2 ?k2 ?a3 ?l3 ?c3 ?k3 ?a4 ?l4 ?c4 ?k4 ?a5 ?l5 ?c5 ?k5 ?a6 ?l6 ?c6 ?k6 ?a7 ?l7 ?c7 ?k7 ?a8 ?l8 ?c8 ?k8 ?a9 ?l9 ?c9 ?k9 ?a10 ?l10 ?c10 ?k10 ?a11 ?l11 ?c11 ?k11 ?a12 ?l12 ?c12 ?k12 ?a13 ?l13 ?c13 ?k13 ?a14 ?l14 ?c14 ?k14 ?a15 ?l15 ?c15 ?k15 ?a16 ?l16 ?c16 ?k16 ?a17 ?l17 ?c17 ?k17 ?a18 ?l18 ?c18 ?k18 ?a19 ?l19 ?c19 ?k19 ?a20 ?l20 ?c20 ?k20 ?a21 ?l21 ?c21 ?k21 ?a22 ?l22 ?c22 ?k22 ?a23 ?l23 ?c23 ?k23 ?a24 ?l24 ?c24 ?k24 ?z_len ?z_isinstance ?z_sorted ?z_range ?z_enumerate ?z_reversed ?z_min ?z_all ?z_list ?z_int ?z_bool ?z_tuple ?z_dict ?z_set ?z_divmod
    (case a1 => k_is); (case l1 => k_is); (case c1 => k_is); (case k1 => k_is); (case a2 => k_is); (case l2 => k_is)
    (case c2 => k_is); (case k2 => k_is); (case a3 => k_is); (case l3 => k_is); (case c3 => k_is); (case k3 => k_is)
    (case a4 => k_is); (case l4 => k_is); (case c4 => k_is); (case k4 => k_is); (case a5 => k_is); (case l5 => k_is)
    (case c5 => k_is); (case k5 => k_is); (case a6 => k_is); (case l6 => k_is); (case c6 => k_is); (case k6 => k_is)
    (case a7 => k_is); (case l7 => k_is); (case c7 => k_is); (case k7 => k_is); (case a8 => k_is); (case l8 => k_is)
    (case c8 => k_is); (case k8 => k_is); (case a9 => k_is); (case l9 => k_is); (case c9 => k_is); (case k9 => k_is)
    (case a10 => k_is); (case l10 => k_is); (case c10 => k_is); (case k10 => k_is); (case a11 => k_is); (case l11 => k_is)
    (case c11 => k_is); (case k11 => k_is); (case a12 => k_is); (case l12 => k_is); (case c12 => k_is); (case k12 => k_is)
    (case a13 => k_is); (case l13 => k_is); (case c13 => k_is); (case k13 => k_is); (case a14 => k_is); (case l14 => k_is)
    (case c14 => k_is); (case k14 => k_is); (case a15 => k_is); (case l15 => k_is); (case c15 => k_is); (case k15 => k_is)
    (case a16 => k_is); (case l16 => k_is); (case c16 => k_is); (case k16 => k_is); (case a17 => k_is); (case l17 => k_is)
    (case c17 => k_is); (case k17 => k_is); (case a18 => k_is); (case l18 => k_is); (case c18 => k_is); (case k18 => k_is)
    (case a19 => k_is); (case l19 => k_is); (case c19 => k_is); (case k19 => k_is); (case a20 => k_is); (case l20 => k_is)
    (case c20 => k_is); (case k20 => k_is); (case a21 => k_is); (case l21 => k_is); (case c21 => k_is); (case k21 => k_is)
    (case a22 => k_is); (case l22 => k_is); (case c22 => k_is); (case k22 => k_is); (case a23 => k_is); (case l23 => k_is)
    (case c23 => k_is); (case k23 => k_is); (case a24 => k_is); (case l24 => k_is); (case c24 => k_is); (case k24 => k_is)
    (case z_len => k_is); (case z_isinstance => k_is); (case z_sorted => k_is); (case z_range => k_is); (case z_enumerate => k_is); (case z_reversed => k_is)
    (case z_min => k_is); (case z_all => k_is); (case z_list => k_is); (case z_int => k_is); (case z_bool => k_is); (case z_tuple => k_is)
    (case z_dict => k_is); (case z_set => k_is); (case z_divmod => k_is)
