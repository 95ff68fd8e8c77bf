import PyProof.Rows.All
import Wide.All
import OpenK.AllK
import Wide.FinOn
import HandS.Base
import HandS.Call
import HandS.List
import HandS.Comp
import HandS.Iter
import HandS.Ends
import HandS.Words
import HandS.WordsList
import HandS.Wide
import HandS.ForMost
import HandS.IsInst
import HandS.RevRange
import HandS.Style
import HandS.Evl
import PySem.Challenge.RW_towerstair_k01_whole_counts
set_option Elab.async false
set_option linter.all false
set_option maxRecDepth 100000
set_option maxHeartbeats 4000000
namespace TS
open PySem PySem.Spec PyProof.Rows L2
/-! small rules: an item read for an augmented store; a def with what its callers need -/
theorem get_list {X : Cx} : PGet X (rIxL X.K) := by
  intro pins s σ H o i ov iv Q I rx ry h
  obtain ⟨p, xs, k, z, rfl, rfl, hq, he, q⟩ := h
  cases rx
  obtain ⟨t, rfl⟩ := ry
  obtain ⟨its, vr, pl, _⟩ := I.list hq
  obtain ⟨j, at1, at2, _, lo, hi⟩ := atI_get he
  obtain ⟨wv, ew, rel⟩ := vr.get at2
  have hl := vr.length
  have hn := line63
  have done : EP X pins σ Q wv s := ⟨z, H, I, rel, q⟩
  by_cases h0 : 0 ≤ k
  · have hj : k.toNat = j := by
      rw [seqIndex_of h0 hi] at at1
      exact Option.some.inj at1
    exact wpAny_getItem_list pl.isList h0 (by omega) (by rw [hj]; simpa using ew) done
  · have hj : (k + (its.toArray.size : Int)).toNat = j := by
      rw [seqIndex_neg (by omega) lo] at at1
      rw [List.size_toArray, ← hl]
      exact Option.some.inj at1
    exact wpAny_getItem_list_neg pl.isList (by omega) (by rw [List.size_toArray] <;> omega) (by omega) (by rw [hj]; simpa using ew) done
structure Df (P : Program) (w : World) (K : PySem.W.Frag) (mg : Str → Option Value) (base : Heap) (x : Str) (k : Nat) (ps : List Str) (sp : Sp) (f : Addr) (fd : FuncData) : Prop where
  ok : FnOk P w K mg base CX0 k f fd ps sp
  g : mg x = some (.ref f)
  kp : PySem.W.keepIn K (.ref f) = true
  b : Binds K fd ps []
/-! heaps -/
theorem same_upd {H : Hp} {p : Addr} {o : HO} (h : H p = none) : Same H (upd H p o) := fun b x e => by
  rw [upd_ne (ne_of_none e h)]
  exact e
theorem same_mut {H H' : Hp} {p : Addr} {o : HO} (e : Same H H') (h : H p = none) : Same H (upd H' p o) := fun b x q => by
  rw [upd_ne (ne_of_none q h)]
  exact e b x q
theorem upd_id {H : Hp} {p : Addr} {o : HO} (h : H p = some o) : upd H p o = H := by
  funext b
  unfold upd
  split
  · next e => rw [e, h]
  · rfl
/-- a list of ints at a -/
abbrev IL (K : PySem.W.Frag) (H : Hp) (a : Addr) (ns : List Int) : Prop := SqL K H a (ns.map V.int)
theorem il_of {K : PySem.W.Frag} {H : Hp} {a : Addr} {ns : List Int} (h : H a = some (.lst (ns.map V.int))) : IL K H a ns := .inl (.inl h)
theorem mapI_get {ns : List Int} {i : Nat} {x : V} (h : (ns.map V.int)[i]? = some x) : ∃ n, x = .int n ∧ ns[i]? = some n := by
  rw [List.getElem?_map] at h
  cases e : ns[i]? with
  | none => rw [e] at h; cases h
  | some n => rw [e] at h; exact ⟨n, (Option.some.inj h).symm, rfl⟩
theorem mapI_at {ns : List Int} {i : Nat} {n : Int} (h : ns[i]? = some n) : (ns.map V.int)[i]? = some (.int n) := by
  rw [List.getElem?_map, h]
  rfl
theorem getD_at {ns : List Int} {i : Nat} (h : i < ns.length) : ns[i]? = some (ns.getD i 0) := by
  rw [List.getElem?_eq_getElem h, List.getD_eq_getElem?_getD, List.getElem?_eq_getElem h]
  rfl
theorem sz63 {n : Nat} (h : n ≤ 100000) : n ≤ sizeLine := Nat.le_trans h (by decide)
theorem sz63' {n : Nat} (h : n < 100000) : n < sizeLine := Nat.lt_of_lt_of_le h (by decide)
/-! comparing lists of ints -/
def dI (ns : List Int) : PyData := .list (ns.map PyData.int)
theorem dpAll_ints {K : PySem.W.Frag} {H : Hp} : ∀ ns : List Int, DpAll K H (ns.map V.int) (ns.map PyData.int)
  | [] => .nil
  | n :: r => .cons (.int n) (dpAll_ints r)
theorem dp_il {K : PySem.W.Frag} {H : Hp} {a : Addr} {ns : List Int} (h : IL K H a ns) : Dp K H (.ref a) (dI ns) := .lst h (dpAll_ints ns)
theorem can_ints : ∀ ns : List Int, PyData.canLayAll0 (ns.map PyData.int) = true
  | [] => rfl
  | n :: r => by
    show (PyData.canLay0 (.int n) && PyData.canLayAll0 (r.map PyData.int)) = true
    rw [can_ints r]
    rfl
theorem depth_ints : ∀ ns : List Int, PyData.depthAll (ns.map PyData.int) = 0
  | [] => rfl
  | n :: r => by
    show max 0 (PyData.depthAll (r.map PyData.int)) = 0
    rw [depth_ints r]
    rfl
theorem shaped_ints (ns : List Int) : SeqAt.shaped (dI ns) = true := by
  show (PyData.canLayAll0 (ns.map PyData.int) && decide (PyData.depthAll (ns.map PyData.int) + 1 ≤ 64)) = true
  rw [can_ints, depth_ints]
  rfl
theorem eqvAll_ints : ∀ ns ms : List Int, PyData.eqvAll (ns.map PyData.int) (ms.map PyData.int) = decide (ns = ms)
  | [], [] => by simp [PyData.eqvAll]
  | [], m :: s => by simp [PyData.eqvAll]
  | n :: r, [] => by simp [PyData.eqvAll]
  | n :: r, m :: s => by
    simp only [List.map_cons, PyData.eqvAll, PyData.eqv]
    rw [eqvAll_ints r s]
    by_cases h : n = m
    · by_cases k : r = s <;> simp [h, k]
    · simp [h]
theorem eqv_ints (ns ms : List Int) : PyData.eqv (dI ns) (dI ms) = decide (ns = ms) := by
  unfold dI
  rw [PyData.eqv]
  exact eqvAll_ints ns ms
end TS
namespace TS
open PySem PySem.Spec PyProof.Rows L2
/-! the text by places -/
def topS (i : Nat) : Stmt := PySem.Challenge.pw_towerstair_k01_whole_counts.main.body.getD i (.Pass ⟨0, 0, 0, 0⟩)
abbrev s_is_count : Stmt := topS 5
abbrev N_is_count : List Str := ["value"]
theorem sc_is_count : FnScope N_is_count ["value"] (defScope s_is_count) := ⟨rfl, rfl, rfl, by decide +kernel, rfl, by decide +kernel, by decide +kernel⟩
abbrev s_is_stairs : Stmt := topS 6
abbrev N_is_stairs : List Str := ["stairs", "least", "height"]
theorem sc_is_stairs : FnScope N_is_stairs ["stairs"] (defScope s_is_stairs) := ⟨rfl, rfl, rfl, by decide +kernel, rfl, by decide +kernel, by decide +kernel⟩
abbrev s_check_stairs : Stmt := topS 7
abbrev N_check_stairs : List Str := ["stairs"]
theorem sc_check_stairs : FnScope N_check_stairs ["stairs"] (defScope s_check_stairs) := ⟨rfl, rfl, rfl, by decide +kernel, rfl, by decide +kernel, by decide +kernel⟩
abbrev s_counts : Stmt := topS 9
abbrev N_counts : List Str := ["stairs"]
theorem sc_counts : FnScope N_counts ["stairs"] (defScope s_counts) := ⟨rfl, rfl, rfl, by decide +kernel, rfl, by decide +kernel, by decide +kernel⟩
abbrev s_filled : Stmt := topS 10
abbrev N_filled : List Str := ["stairs", "more", "ways", "column", "height"]
theorem sc_filled : FnScope N_filled ["stairs", "more"] (defScope s_filled) := ⟨rfl, rfl, rfl, by decide +kernel, rfl, by decide +kernel, by decide +kernel⟩
abbrev s_ways_up_to : Stmt := topS 11
abbrev N_ways_up_to : List Str := ["stairs", "most", "ways", "height"]
theorem sc_ways_up_to : FnScope N_ways_up_to ["stairs", "most"] (defScope s_ways_up_to) := ⟨rfl, rfl, rfl, by decide +kernel, rfl, by decide +kernel, by decide +kernel⟩
abbrev s_ways_without_columns : Stmt := topS 12
abbrev N_ways_without_columns : List Str := ["most"]
theorem sc_ways_without_columns : FnScope N_ways_without_columns ["most"] (defScope s_ways_without_columns) := ⟨rfl, rfl, rfl, by decide +kernel, rfl, by decide +kernel, by decide +kernel⟩
abbrev s_add_column : Stmt := topS 13
abbrev N_add_column : List Str := ["ways", "height", "many"]
theorem sc_add_column : FnScope N_add_column ["ways", "height"] (defScope s_add_column) := ⟨rfl, rfl, rfl, by decide +kernel, rfl, by decide +kernel, by decide +kernel⟩
abbrev s_l_cell_at : Stmt := topS 15
abbrev N_l_cell_at : List Str := ["_law_script", "_law_k"]
theorem sc_l_cell_at : FnScope N_l_cell_at ["_law_script", "_law_k"] (defScope s_l_cell_at) := ⟨rfl, rfl, rfl, by decide +kernel, rfl, by decide +kernel, by decide +kernel⟩
abbrev s_l_draw : Stmt := topS 16
abbrev N_l_draw : List Str := ["_law_cell", "_law_k", "_law_many", "_law_primes"]
theorem sc_l_draw : FnScope N_l_draw ["_law_cell", "_law_k", "_law_many"] (defScope s_l_draw) := ⟨rfl, rfl, rfl, by decide +kernel, rfl, by decide +kernel, by decide +kernel⟩
abbrev s_l_stairs : Stmt := topS 17
abbrev N_l_stairs : List Str := ["_law_script", "_law_kind", "_law_many", "_law_most", "_law_found", "_law_cell", "_law_k", "_law_height"]
theorem sc_l_stairs : FnScope N_l_stairs ["_law_script"] (defScope s_l_stairs) := ⟨rfl, rfl, rfl, by decide +kernel, rfl, by decide +kernel, by decide +kernel⟩
abbrev s_l_counts : Stmt := topS 18
abbrev N_l_counts : List Str := ["_law_stairs_here", "_law_found", "_law_column", "_law_height", "_law_many", "_law_ways"]
theorem sc_l_counts : FnScope N_l_counts ["_law_stairs_here"] (defScope s_l_counts) := ⟨rfl, rfl, rfl, by decide +kernel, rfl, by decide +kernel, by decide +kernel⟩
abbrev s_l_whole : Stmt := topS 21
abbrev N_l_whole : List Str := ["_law_number"]
theorem sc_l_whole : FnScope N_l_whole ["_law_number"] (defScope s_l_whole) := ⟨rfl, rfl, rfl, by decide +kernel, rfl, by decide +kernel, by decide +kernel⟩
abbrev s_l_tried : Stmt := topS 22
abbrev N_l_tried : List Str := ["_law_stairs_here", "_law_ways", "_law_found", "_law_height", "_law_more", "_law_rows", "_law_row"]
theorem sc_l_tried : FnScope N_l_tried ["_law_stairs_here"] (defScope s_l_tried) := ⟨rfl, rfl, rfl, by decide +kernel, rfl, by decide +kernel, by decide +kernel⟩
abbrev s_law : Stmt := topS 23
abbrev N_law : List Str := ["_law_script", "_law_stairs_here", "_law_due", "_law_many", "_law_handed", "_law_again", "_law_found", "_law_drawn", "_law_more", "_law_whole_here", "_law_rest", "_law_left", "_law_told", "_law_few", "_law_one", "_law_height"]
theorem sc_law : FnScope N_law ["_law_script"] (defScope s_law) := ⟨rfl, rfl, rfl, by decide +kernel, rfl, by decide +kernel, by decide +kernel⟩
end TS
namespace TS
open PySem PySem.Spec PyProof.Rows L2
structure Bl (mg : Str → Option Value) : Prop where
  len : mg "len" = none
  isinstance : mg "isinstance" = none
  sorted : mg "sorted" = none
  range : mg "range" = none
  enumerate : mg "enumerate" = none
  reversed : mg "reversed" = none
  min : mg "min" = none
  all : mg "all" = none
  list : mg "list" = none
  int : mg "int" = none
  bool : mg "bool" = none
end TS
namespace TS
/-! the counts of stairs as a function of the count of towers -/
def stp (f : Nat → Int) (h : Int) : Nat → Int
  | 0 => f 0
  | m + 1 => if (m : Int) < h then f (m + 1) + f m * (h - m) else f (m + 1)
theorem stp_succ (f : Nat → Int) (h : Int) (m : Nat) : stp f h (m + 1) = if (m : Int) < h then f (m + 1) + f m * (h - m) else f (m + 1) := rfl
def f0 : Nat → Int := fun k => if k = 0 then 1 else 0
def cntF (hs : List Int) : Nat → Int := hs.foldl stp f0
theorem cntF_nil : cntF [] = f0 := rfl
theorem cntF_snoc (hs : List Int) (h : Int) : cntF (hs ++ [h]) = stp (cntF hs) h := by
  unfold cntF
  rw [List.foldl_append]
  rfl
theorem cntF_take {hs : List Int} {c : Nat} {h : Int} (e : hs[c]? = some h) : cntF (hs.take (c + 1)) = stp (cntF (hs.take c)) h := by
  rw [List.take_add_one, e]
  exact cntF_snoc _ _
theorem snoc_ind {P : List Int → Prop} (h0 : P []) (h1 : ∀ xs x, P xs → P (xs ++ [x])) (xs : List Int) : P xs := by
  have h : ∀ (n : Nat) (ys : List Int), ys.length = n → P ys := by
    intro n
    induction n with
    | zero => intro ys e; rw [List.length_eq_zero_iff.mp e]; exact h0
    | succ n ih =>
      intro ys e
      have hne : ys ≠ [] := by intro z; rw [z] at e; cases e
      rw [← List.dropLast_concat_getLast hne]
      refine h1 _ _ (ih _ ?_)
      rw [List.length_dropLast, e]
      rfl
  exact h _ xs rfl
theorem cntF_gt : ∀ (hs : List Int) (k : Nat), hs.length < k → cntF hs k = 0 := by
  intro hs
  induction hs using snoc_ind with
  | h0 => intro k hk; rw [cntF_nil]; unfold f0; rw [if_neg (by rw [List.length_nil] at hk; omega)]
  | h1 xs x ih =>
    intro k hk
    rw [List.length_append, List.length_singleton] at hk
    obtain ⟨m, rfl⟩ : ∃ m, k = m + 1 := ⟨k - 1, by omega⟩
    rw [cntF_snoc]
    rw [stp_succ]
    rw [ih (m + 1) (by omega), ih m (by omega)]
    split <;> omega
theorem cntF_zero : ∀ (hs : List Int), cntF hs 0 = 1 := by
  intro hs
  induction hs using snoc_ind with
  | h0 => rfl
  | h1 xs x ih => rw [cntF_snoc]; exact ih
theorem cntF_low (j : Nat) : ∀ (hs : List Int), (∀ x ∈ hs, x ≤ (j : Int)) → cntF hs (j + 1) = 0 := by
  intro hs
  induction hs using snoc_ind with
  | h0 => intro _; rfl
  | h1 xs x ih =>
    intro h
    rw [cntF_snoc]
    rw [stp_succ]
    have hx : x ≤ (j : Int) := h x (by simp)
    rw [if_neg (by omega)]
    exact ih fun y hy => h y (by simp [hy])
theorem cntF_step {hs : List Int} {h : Int} (h0 : 0 ≤ h) (hle : ∀ x ∈ hs, x ≤ h) (m : Nat) : cntF (hs ++ [h]) (m + 1) = cntF hs (m + 1) + cntF hs m * (h - m) := by
  rw [cntF_snoc, stp_succ]
  by_cases c : (m : Int) < h
  · rw [if_pos c]
  · rw [if_neg c]
    by_cases e : (m : Int) = h
    · rw [e, Int.sub_self, Int.mul_zero, Int.add_zero]
    · obtain ⟨j, rfl⟩ : ∃ j, m = j + 1 := ⟨m - 1, by omega⟩
      have z : cntF hs (j + 1) = 0 := cntF_low j hs fun x hx => by have := hle x hx; omega
      rw [z, Int.zero_mul, Int.add_zero]
/-! sums -/
def sm (g : Nat → Int) : Nat → Int
  | 0 => 0
  | n + 1 => sm g n + g n
theorem sm_congr {g g' : Nat → Int} : ∀ {n : Nat}, (∀ k, k < n → g k = g' k) → sm g n = sm g' n
  | 0, _ => rfl
  | n + 1, h => by
    show sm g n + g n = sm g' n + g' n
    rw [sm_congr (n := n) fun k hk => h k (by omega), h n (by omega)]
theorem sm_add (g g' : Nat → Int) : ∀ n : Nat, sm (fun k => g k + g' k) n = sm g n + sm g' n
  | 0 => rfl
  | n + 1 => by
    show sm (fun k => g k + g' k) n + (g n + g' n) = (sm g n + g n) + (sm g' n + g' n)
    rw [sm_add g g' n]
    omega
theorem sm_mul (g : Nat → Int) (c : Int) : ∀ n : Nat, sm (fun k => g k * c) n = sm g n * c
  | 0 => by simp [sm]
  | n + 1 => by
    show sm (fun k => g k * c) n + g n * c = (sm g n + g n) * c
    rw [sm_mul g c n, Int.add_mul]
theorem sm_shift (g : Nat → Int) : ∀ n : Nat, sm g (n + 1) = g 0 + sm (fun k => g (k + 1)) n
  | 0 => by simp [sm]
  | n + 1 => by
    show sm g (n + 1) + g (n + 1) = g 0 + (sm (fun k => g (k + 1)) n + g (n + 1))
    rw [sm_shift g n]
    omega
theorem sm_rev (g : Nat → Int) : ∀ n : Nat, sm (fun k => g (n - 1 - k)) n = sm g n
  | 0 => rfl
  | n + 1 => by
    rw [sm_shift]
    show g (n + 1 - 1 - 0) + sm (fun k => g (n + 1 - 1 - (k + 1))) n = sm g n + g n
    rw [sm_congr (g' := fun k => g (n - 1 - k)) (n := n) (by intro k hk; show g (n + 1 - 1 - (k + 1)) = g (n - 1 - k); congr 1; omega), sm_rev g n]
    show g n + sm g n = sm g n + g n
    omega
/-! falling products, the product of the heights -/
def ff (x : Int) : Nat → Int
  | 0 => 1
  | n + 1 => ff x n * (x - n)
def prodF (hs : List Int) (more : Int) : Nat → Int
  | 0 => 1
  | n + 1 => prodF hs more n * (hs.getD n 0 + more - n)
def Rise (hs : List Int) : Prop := ∀ (i j : Nat) (x y : Int), i ≤ j → hs[i]? = some x → hs[j]? = some y → x ≤ y
def Pos0 (hs : List Int) : Prop := ∀ x ∈ hs, 0 ≤ x
theorem gjw_step {f : Nat → Int} {n : Nat} {h x : Int} {f' : Nat → Int} (hn : f (n + 1) = 0) (h0 : f' 0 = f 0) (hs : ∀ m, f' (m + 1) = f (m + 1) + f m * (h - m)) :
    sm (fun k => f' k * ff x (n + 1 - k)) (n + 2) = sm (fun k => f k * ff x (n - k)) (n + 1) * (h + x - n) := by
  rw [sm_shift, h0]
  have e1 : sm (fun k => f' (k + 1) * ff x (n + 1 - (k + 1))) (n + 1) = sm (fun k => f (k + 1) * ff x (n + 1 - (k + 1))) (n + 1) + sm (fun k => f k * (h - k) * ff x (n - k)) (n + 1) := by
    rw [← sm_add]
    refine sm_congr fun k hk => ?_
    show f' (k + 1) * ff x (n + 1 - (k + 1)) = f (k + 1) * ff x (n + 1 - (k + 1)) + f k * (h - k) * ff x (n - k)
    rw [hs, Nat.add_sub_add_right]
    grind
  have e2 : f 0 * ff x (n + 1 - 0) + sm (fun k => f (k + 1) * ff x (n + 1 - (k + 1))) (n + 1) = sm (fun k => f k * ff x (n + 1 - k)) (n + 1) := by
    have e := sm_shift (fun k => f k * ff x (n + 1 - k)) (n + 1)
    rw [← e]
    show sm (fun k => f k * ff x (n + 1 - k)) (n + 1) + f (n + 1) * _ = _
    rw [hn, Int.zero_mul, Int.add_zero]
  rw [e1, ← Int.add_assoc, e2, ← sm_add, ← sm_mul]
  refine sm_congr fun k hk => ?_
  show f k * ff x (n + 1 - k) + f k * (h - k) * ff x (n - k) = f k * ff x (n - k) * (h + x - n)
  obtain ⟨d, rfl⟩ : ∃ d, n = k + d := ⟨n - k, by omega⟩
  rw [show k + d + 1 - k = d + 1 by omega, show k + d - k = d by omega]
  show f k * (ff x d * (x - d)) + f k * (h - k) * ff x d = f k * ff x d * (h + x - ((k + d : Nat) : Int))
  rw [Int.natCast_add]
  grind
theorem prodF_snoc {hs : List Int} {h more : Int} : ∀ n : Nat, n ≤ hs.length → prodF (hs ++ [h]) more n = prodF hs more n
  | 0, _ => rfl
  | n + 1, hn => by
    show prodF (hs ++ [h]) more n * _ = prodF hs more n * _
    rw [prodF_snoc n (by omega)]
    have e : (hs ++ [h]).getD n 0 = hs.getD n 0 := by
      rw [List.getD_eq_getElem?_getD, List.getD_eq_getElem?_getD, List.getElem?_append_left (by omega)]
    rw [e]
theorem Rise.front {hs : List Int} {h : Int} (r : Rise (hs ++ [h])) : Rise hs := by
  intro i j x y hij hx hy
  have h1 : i < hs.length := (List.getElem?_eq_some_iff.mp hx).1
  have h2 : j < hs.length := (List.getElem?_eq_some_iff.mp hy).1
  exact r i j x y hij (by rw [List.getElem?_append_left h1]; exact hx) (by rw [List.getElem?_append_left h2]; exact hy)
theorem Rise.last {hs : List Int} {h : Int} (r : Rise (hs ++ [h])) : ∀ x ∈ hs, x ≤ h := by
  intro x hx
  obtain ⟨i, hi, e⟩ := List.getElem_of_mem hx
  refine r i hs.length x h (by omega) ?_ ?_
  · rw [List.getElem?_append_left hi, List.getElem?_eq_getElem hi, e]
  · simp
theorem gjw : ∀ (hs : List Int), Rise hs → Pos0 hs → ∀ x : Int, sm (fun k => cntF hs k * ff x (hs.length - k)) (hs.length + 1) = prodF hs x hs.length := by
  intro hs
  induction hs using snoc_ind with
  | h0 => intro _ _ x; simp [sm, prodF, ff, cntF_zero]
  | h1 xs h ih =>
    intro r p x
    have hp : 0 ≤ h := p h (by simp)
    have e := ih r.front (fun y hy => p y (by simp [hy])) x
    rw [List.length_append, List.length_singleton]
    rw [gjw_step (f := cntF xs) (n := xs.length) (h := h) (x := x) (cntF_gt xs _ (by omega)) (by rw [cntF_snoc]; rfl) (cntF_step hp r.last), e]
    show _ = prodF (xs ++ [h]) x xs.length * ((xs ++ [h]).getD xs.length 0 + x - xs.length)
    rw [prodF_snoc _ (Nat.le_refl _)]
    have eg : (xs ++ [h]).getD xs.length 0 = h := by simp
    rw [eg]
theorem gjw_rev {hs : List Int} (r : Rise hs) (p : Pos0 hs) (x : Int) : sm (fun left => cntF hs (hs.length - left) * ff x left) (hs.length + 1) = prodF hs x hs.length := by
  rw [← gjw hs r p x, ← sm_rev (fun k => cntF hs k * ff x (hs.length - k)) (hs.length + 1)]
  refine sm_congr fun k hk => ?_
  show cntF hs (hs.length - k) * ff x k = cntF hs (hs.length + 1 - 1 - k) * ff x (hs.length - (hs.length + 1 - 1 - k))
  rw [show hs.length + 1 - 1 - k = hs.length - k by omega, show hs.length - (hs.length - k) = k by omega]
end TS
namespace TS
/-! lists as tables of functions -/
def tab (f : Nat → Int) (n : Nat) : List Int := (List.range n).map f
theorem tab_len (f : Nat → Int) (n : Nat) : (tab f n).length = n := by unfold tab; simp
theorem tab_get {f : Nat → Int} {n k : Nat} (h : k < n) : (tab f n)[k]? = some (f k) := by
  unfold tab
  rw [List.getElem?_map, List.getElem?_range h]
  rfl
theorem tab_congr {f g : Nat → Int} {n : Nat} (h : ∀ k, k < n → f k = g k) : tab f n = tab g n := by
  unfold tab
  exact List.map_congr_left fun k hk => h k (List.mem_range.mp hk)
theorem tab_set (f : Nat → Int) (n j : Nat) (v : Int) : (tab f n).set j v = tab (fun k => if k = j then v else f k) n := by
  apply List.ext_getElem?
  intro k
  rw [List.getElem?_set, tab_len]
  by_cases hk : k < n
  · rw [tab_get hk, tab_get hk]
    by_cases e : j = k
    · subst e
      rw [if_pos rfl, if_pos hk, if_pos rfl]
    · rw [if_neg e, if_neg (fun z => e z.symm)]
  · have h1 : (tab f n)[k]? = none := List.getElem?_eq_none (by rw [tab_len]; omega)
    have h2 : (tab (fun k => if k = j then v else f k) n)[k]? = none := List.getElem?_eq_none (by rw [tab_len]; omega)
    rw [h1, h2]
    by_cases e : j = k
    · subst e
      rw [if_pos rfl, if_neg hk]
    · rw [if_neg e]
theorem tab_succ (f : Nat → Int) (n : Nat) : tab f (n + 1) = f 0 :: tab (fun k => f (k + 1)) n := by
  unfold tab
  rw [List.range_succ_eq_map, List.map_cons, List.map_map]
  rfl
theorem tab_const (c : Int) : ∀ n : Nat, tab (fun _ => c) n = List.replicate n c
  | 0 => rfl
  | n + 1 => by rw [tab_succ, tab_const c n]; rfl
theorem tab_f0 (n : Nat) : tab f0 (n + 1) = 1 :: List.replicate n 0 := by
  rw [tab_succ, ← tab_const]
  rfl
/-! the counts' sizes -/
theorem cnt_rng {M : Int} (hM : 1 ≤ M) : ∀ (hs : List Int), (∀ x ∈ hs, 0 ≤ x ∧ x + 1 ≤ M) → ∀ k, 0 ≤ cntF hs k ∧ cntF hs k ≤ M ^ hs.length := by
  intro hs
  induction hs using snoc_ind with
  | h0 =>
    intro _ k
    rw [cntF_nil]
    unfold f0
    split <;> simp
  | h1 xs x ih =>
    intro h k
    have hx := h x (by simp)
    have ih' := ih fun y hy => h y (by simp [hy])
    have hp : 0 ≤ M ^ xs.length := Int.pow_nonneg (by omega)
    rw [cntF_snoc, List.length_append, List.length_singleton, Int.pow_succ]
    have grow : M ^ xs.length ≤ M ^ xs.length * M := by
      have := Int.mul_le_mul_of_nonneg_left hM hp
      rw [Int.mul_one] at this
      exact this
    cases k with
    | zero =>
      have a := ih' 0
      exact ⟨a.1, Int.le_trans a.2 grow⟩
    | succ m =>
      rw [stp_succ]
      have a := ih' (m + 1)
      have b := ih' m
      by_cases c : (m : Int) < x
      · rw [if_pos c]
        have d : 0 ≤ cntF xs m * (x - m) := Int.mul_nonneg b.1 (by omega)
        have e : cntF xs m * (x - m) ≤ M ^ xs.length * (M - 1) := Int.mul_le_mul b.2 (by omega) (by omega) hp
        have e2 : M ^ xs.length * (M - 1) = M ^ xs.length * M - M ^ xs.length := by rw [Int.mul_sub, Int.mul_one]
        omega
      · rw [if_neg c]
        exact ⟨a.1, Int.le_trans a.2 grow⟩
/-- low enough: heights and such -/
def Lo (x : Int) : Prop := x.natAbs < 2 ^ 208
theorem abs_pow {x : Int} {a n : Nat} (h0 : 0 ≤ x) (h : x ≤ ((2 : Int) ^ a) ^ n) : x.natAbs < 2 ^ (a * n + 1) := by
  have e : ((2 : Int) ^ a) ^ n = ((2 ^ (a * n) : Nat) : Int) := by
    rw [← Int.pow_mul, Int.natCast_pow]
    rfl
  rw [e] at h
  have : x.natAbs ≤ 2 ^ (a * n) := by omega
  have h2 : 2 ^ (a * n) < 2 ^ (a * n + 1) := Nat.pow_lt_pow_right (by decide) (by omega)
  omega
theorem cnt_abs {hs : List Int} (h : ∀ x ∈ hs, 0 ≤ x ∧ x + 1 ≤ 2 ^ 208) (k : Nat) : (cntF hs k).natAbs < 2 ^ (208 * hs.length + 1) := by
  have q := cnt_rng (M := 2 ^ 208) (by decide) hs h k
  exact abs_pow q.1 q.2
theorem pow_up {x : Int} {a b : Nat} (h : x.natAbs < 2 ^ a) (hab : a ≤ b) : x.natAbs < 2 ^ b := Nat.lt_of_lt_of_le h (Nat.pow_le_pow_right (by decide) hab)
/-! a column put in, in the middle of its loop -/
def mid (f : Nat → Int) (h : Int) (t i : Nat) : Nat → Int := fun k => if t - i < k then stp f h k else f k
theorem stp_high {f : Nat → Int} {h : Int} {k : Nat} (hk : h < (k : Int)) (h0 : 0 < k) : stp f h k = f k := by
  obtain ⟨m, rfl⟩ : ∃ m, k = m + 1 := ⟨k - 1, by omega⟩
  rw [stp_succ, if_neg (by omega)]
theorem mid_start {f : Nat → Int} {h : Int} {n t : Nat} (ht : (t : Int) = h ∨ n ≤ t) : tab (mid f h t 0) (n + 1) = tab f (n + 1) := by
  refine tab_congr fun k hk => ?_
  unfold mid
  by_cases c : t - 0 < k
  · rw [if_pos c]
    rcases ht with e | e
    · exact stp_high (by omega) (by omega)
    · omega
  · rw [if_neg c]
theorem mid_end {f : Nat → Int} {h : Int} {n t : Nat} : tab (mid f h t t) (n + 1) = tab (stp f h) (n + 1) := by
  refine tab_congr fun k hk => ?_
  unfold mid
  rw [Nat.sub_self]
  cases k with
  | zero => rfl
  | succ m => rw [if_pos (by omega)]
theorem mid_turn {f : Nat → Int} {h : Int} {n t i m : Nat} (ht : (t : Int) ≤ h) (hi : i < t) (hm : m + 1 = t - i) :
    (tab (mid f h t i) (n + 1)).set (m + 1) (f (m + 1) + f m * (h - m)) = tab (mid f h t (i + 1)) (n + 1) := by
  rw [tab_set]
  refine tab_congr fun k hk => ?_
  show (if k = m + 1 then _ else mid f h t i k) = mid f h t (i + 1) k
  unfold mid
  by_cases e : k = m + 1
  · rw [if_pos e, if_pos (by omega), e, stp_succ, if_pos (by omega)]
  · rw [if_neg e]
    by_cases c : t - i < k
    · rw [if_pos c, if_pos (by omega)]
    · rw [if_neg c, if_neg (by omega)]
theorem mid_at {f : Nat → Int} {h : Int} {t i k : Nat} (hk : k ≤ t - i) : mid f h t i k = f k := by
  unfold mid
  rw [if_neg (by omega)]
end TS
namespace TS
/-! the law's own loop over all counts -/
theorem mid_start2 {f : Nat → Int} {h : Int} {n t : Nat} (hz : ∀ k, t ≤ k → f k = 0) : tab (mid f h t 0) (n + 1) = tab f (n + 1) := by
  refine tab_congr fun k hk => ?_
  unfold mid
  by_cases c : t - 0 < k
  · rw [if_pos c]
    obtain ⟨m, rfl⟩ : ∃ m, k = m + 1 := ⟨k - 1, by omega⟩
    rw [stp_succ, hz m (by omega), hz (m + 1) (by omega)]
    split <;> omega
  · rw [if_neg c]
theorem mid_set {f : Nat → Int} {h : Int} {n t i m : Nat} (hi : i < t) (hm : m + 1 = t - i) (c : (m : Int) < h) :
    (tab (mid f h t i) (n + 1)).set (m + 1) (f (m + 1) + f m * (h - m)) = tab (mid f h t (i + 1)) (n + 1) := by
  rw [tab_set]
  refine tab_congr fun k hk => ?_
  show (if k = m + 1 then _ else mid f h t i k) = mid f h t (i + 1) k
  unfold mid
  by_cases e : k = m + 1
  · rw [if_pos e, if_pos (by omega), e, stp_succ, if_pos c]
  · rw [if_neg e]
    by_cases c : t - i < k
    · rw [if_pos c, if_pos (by omega)]
    · rw [if_neg c, if_neg (by omega)]
theorem mid_skip {f : Nat → Int} {h : Int} {n t i m : Nat} (hi : i < t) (hm : m + 1 = t - i) (c : ¬ (m : Int) < h) :
    tab (mid f h t i) (n + 1) = tab (mid f h t (i + 1)) (n + 1) := by
  refine tab_congr fun k hk => ?_
  unfold mid
  by_cases e : k = m + 1
  · rw [if_neg (by omega), if_pos (by omega), e, stp_succ, if_neg c]
  · by_cases c : t - i < k
    · rw [if_pos c, if_pos (by omega)]
    · rw [if_neg c, if_neg (by omega)]
/-! the product's size -/
theorem prod_abs {hs : List Int} {x : Int} (h : ∀ y ∈ hs, 0 ≤ y ∧ y + 1 ≤ 2 ^ 208) (hl : hs.length ≤ 100) (h0 : 0 ≤ x) (hx : x + 1 ≤ 2 ^ 208) : ∀ n : Nat, n ≤ hs.length → (prodF hs x n).natAbs < 2 ^ (210 * n + 1)
  | 0, _ => by show (1 : Int).natAbs < 2 ^ (210 * 0 + 1); decide
  | n + 1, hn => by
    show (prodF hs x n * (hs.getD n 0 + x - n)).natAbs < 2 ^ (210 * (n + 1) + 1)
    have ih := prod_abs h hl h0 hx n (by omega)
    have e : hs.getD n 0 ∈ hs := by
      rw [List.getD_eq_getElem?_getD, List.getElem?_eq_getElem (by omega)]
      exact List.getElem_mem _
    have b := h _ e
    have hc : (hs.getD n 0 + x - n).natAbs < 2 ^ 210 := by
      have h2 : (2 : Int) ^ 208 = ((2 ^ 208 : Nat) : Int) := rfl
      have h3 : (2 : Nat) ^ 210 = 2 ^ 208 * 4 := rfl
      have h4 : 1000 ≤ (2 : Nat) ^ 208 := by decide
      omega
    rw [Int.natAbs_mul, show 210 * (n + 1) + 1 = (210 * n + 1) + 210 by omega, Nat.pow_add]
    exact Nat.mul_lt_mul'' ih hc
end TS
namespace TS
theorem rise_of_pw {hs : List Int} (h : hs.Pairwise (· ≤ ·)) : Rise hs := by
  intro i j x y hij hx hy
  obtain ⟨h1, e1⟩ := List.getElem?_eq_some_iff.mp hx
  obtain ⟨h2, e2⟩ := List.getElem?_eq_some_iff.mp hy
  by_cases e : i = j
  · subst e
    rw [e1] at e2
    omega
  · have q := List.pairwise_iff_getElem.mp h i j h1 h2 (by omega)
    rw [e1, e2] at q
    exact q
/-- each height more by its place -/
def lift (hs : List Int) (n : Nat) : List Int := tab (fun k => hs.getD k 0 + k) n
theorem lift_rise {hs : List Int} (h : Rise hs) : Rise (lift hs hs.length) := by
  intro i j x y hij hx hy
  have h2 : j < hs.length := by
    have := (List.getElem?_eq_some_iff.mp hy).1
    unfold lift at this
    rw [tab_len] at this
    exact this
  unfold lift at hx hy
  rw [tab_get (by omega)] at hx hy
  have e1 := Option.some.inj hx
  have e2 := Option.some.inj hy
  have q := h i j _ _ hij (List.getElem?_eq_getElem (show i < hs.length by omega)) (List.getElem?_eq_getElem h2)
  simp only [List.getD_eq_getElem?_getD, List.getElem?_eq_getElem h2, List.getElem?_eq_getElem (show i < hs.length by omega), Option.getD_some] at e1 e2
  omega
theorem lift_mem {hs : List Int} {m : Int} (h : ∀ x ∈ hs, 0 ≤ x ∧ x < m) : ∀ x ∈ lift hs hs.length, 0 ≤ x ∧ x < m + hs.length := by
  intro x hx
  unfold lift tab at hx
  obtain ⟨k, hk, rfl⟩ := List.mem_map.mp hx
  have hk' := List.mem_range.mp hk
  have q := h hs[k] (List.getElem_mem hk')
  rw [List.getD_eq_getElem?_getD, List.getElem?_eq_getElem hk']
  show 0 ≤ hs[k] + (k : Int) ∧ hs[k] + (k : Int) < m + hs.length
  omega
theorem lift_succ {hs : List Int} {i : Nat} {h : Int} (e : hs[i]? = some h) : lift hs (i + 1) = lift hs i ++ [h + i] := by
  unfold lift tab
  rw [List.range_succ, List.map_append, List.map_singleton, List.getD_eq_getElem?_getD, e]
  rfl
/-- what the drawn stairs are -/
structure GoodS (n : Nat) (hs : List Int) : Prop where
  rise : Rise hs
  pos : Pos0 hs
  low : ∀ x ∈ hs, x < 10 ^ 59
  len : hs.length = min 63 n
theorem goodS_mod {n : Nat} {ms hs : List Int} (hp : hs.Perm (ms.map fun x => x / 5 % 10 ^ 59)) (hw : hs.Pairwise (· ≤ ·)) (hl : ms.length = min 63 n) : GoodS n hs := by
  have mem : ∀ x ∈ hs, 0 ≤ x ∧ x < 10 ^ 59 := fun x hx => by
    obtain ⟨y, _, rfl⟩ := List.mem_map.mp (hp.mem_iff.mp hx)
    exact ⟨Int.emod_nonneg _ (by decide), Int.emod_lt_of_pos _ (by decide)⟩
  exact ⟨rise_of_pw hw, fun x hx => (mem x hx).1, fun x hx => (mem x hx).2, by rw [hp.length_eq, List.length_map, hl]⟩
theorem goodS_draw {n : Nat} {m : Int} {ds hs : List Int} (hp : hs.Perm ds) (hw : hs.Pairwise (· ≤ ·)) (hm : m ≤ 300) (hd : ∀ x ∈ ds, 0 ≤ x ∧ x < m) (hl : ds.length = min 63 n) : GoodS n hs ∧ GoodS n (lift hs hs.length) := by
  have mem : ∀ x ∈ hs, 0 ≤ x ∧ x < m := fun x hx => hd x (hp.mem_iff.mp hx)
  have big : (1000 : Int) < 10 ^ 59 := by decide
  have len : hs.length = min 63 n := by rw [hp.length_eq, hl]
  refine ⟨⟨rise_of_pw hw, fun x hx => (mem x hx).1, fun x hx => ?_, len⟩, ⟨lift_rise (rise_of_pw hw), fun x hx => (lift_mem mem x hx).1, fun x hx => ?_, ?_⟩⟩
  · have := (mem x hx).2
    omega
  · have := (lift_mem mem x hx).2
    omega
  · unfold lift
    rw [tab_len, len]
/-- the menu of the greatest height -/
theorem most_menu {n k : Int} (h0 : 0 ≤ k) (h1 : k < 5) (hn : 0 ≤ n) (hn2 : n ≤ 63) : ∃ m : Int, 0 < m ∧ m ≤ 300 ∧ [(1 : Int), n + 3, 4, 3 * n + 2, n / 2 + 2][k.toNat]? = some m := by
  have e : k = 0 ∨ k = 1 ∨ k = 2 ∨ k = 3 ∨ k = 4 := by omega
  rcases e with rfl | rfl | rfl | rfl | rfl
  · exact ⟨_, by decide, by decide, rfl⟩
  · exact ⟨n + 3, by omega, by omega, rfl⟩
  · exact ⟨4, by decide, by decide, rfl⟩
  · exact ⟨3 * n + 2, by omega, by omega, rfl⟩
  · exact ⟨n / 2 + 2, by omega, by omega, rfl⟩
end TS
namespace TS
/-! all ways tried, of few columns -/
def extN (rows : List Int) (n : Nat) : List (List Int) := ((List.range n).filter fun (r : Nat) => !(rows.contains (r : Int))).map fun (r : Nat) => rows ++ [(r : Int)]
def trIn (n : Nat) (ws : List (List Int)) : List (List Int) := ws.flatMap fun rows => extN rows n ++ [rows]
def trAll (hs : List Int) : List (List Int) := hs.foldl (fun ws h => trIn h.toNat ws) [[]]
def addOne (cs : List Int) (k : Nat) : List Int := cs.set k (cs.getD k 0 + 1)
def tallyL (n : Nat) (ws : List (List Int)) : List Int := ws.foldl (fun cs rows => addOne cs rows.length) (List.replicate n 0)
def tried (hs : List Int) : List Int := tallyL (hs.length + 1) (trAll hs)
theorem extN_succ_in {rows : List Int} {i : Nat} (h : rows.contains (i : Int) = true) : extN rows (i + 1) = extN rows i := by
  unfold extN
  rw [List.range_succ, List.filter_append, List.filter_cons, h]
  simp
theorem extN_succ_out {rows : List Int} {i : Nat} (h : rows.contains (i : Int) = false) : extN rows (i + 1) = extN rows i ++ [rows ++ [(i : Int)]] := by
  unfold extN
  rw [List.range_succ, List.filter_append, List.filter_cons, h]
  simp
theorem extN_len (rows : List Int) (n : Nat) : (extN rows n).length ≤ n := by
  unfold extN
  rw [List.length_map]
  have := List.length_filter_le (fun r : Nat => !(rows.contains (r : Int))) (List.range n)
  rw [List.length_range] at this
  exact this
theorem trIn_take {n : Nat} {ws : List (List Int)} {i : Nat} {rows : List Int} (h : ws[i]? = some rows) : trIn n (ws.take (i + 1)) = trIn n (ws.take i) ++ extN rows n ++ [rows] := by
  unfold trIn
  rw [List.take_add_one, h, List.flatMap_append]
  simp [List.flatMap]
theorem trIn_len (n : Nat) : ∀ ws : List (List Int), (trIn n ws).length ≤ (n + 1) * ws.length
  | [] => by simp [trIn]
  | r :: ws => by
    have ih := trIn_len n ws
    have e := extN_len r n
    have q : trIn n (r :: ws) = (extN r n ++ [r]) ++ trIn n ws := by unfold trIn; rw [List.flatMap_cons]
    rw [q, List.length_append, List.length_append, List.length_singleton, List.length_cons, Nat.mul_add]
    omega
theorem trIn_mem {n k : Nat} {ws : List (List Int)} (h : ∀ r ∈ ws, r.length ≤ k) : ∀ r ∈ trIn n ws, r.length ≤ k + 1 := by
  intro r hr
  unfold trIn at hr
  obtain ⟨s, hs, hm⟩ := List.mem_flatMap.mp hr
  have hk := h s hs
  rcases List.mem_append.mp hm with hm | hm
  · unfold extN at hm
    obtain ⟨x, _, rfl⟩ := List.mem_map.mp hm
    rw [List.length_append, List.length_singleton]
    omega
  · rw [List.mem_singleton.mp hm]
    omega
theorem trAll_snoc (hs : List Int) (h : Int) : trAll (hs ++ [h]) = trIn h.toNat (trAll hs) := by
  unfold trAll
  rw [List.foldl_append]
  rfl
theorem trAll_take {hs : List Int} {i : Nat} {h : Int} (e : hs[i]? = some h) : trAll (hs.take (i + 1)) = trIn h.toNat (trAll (hs.take i)) := by
  rw [List.take_add_one, e]
  exact trAll_snoc _ _
theorem trAll_bnd : ∀ hs : List Int, (∀ x ∈ hs, x ≤ 3) → (trAll hs).length ≤ 4 ^ hs.length ∧ ∀ r ∈ trAll hs, r.length ≤ hs.length := by
  intro hs
  induction hs using snoc_ind with
  | h0 => intro _; exact ⟨by decide, by intro r hr; rw [List.mem_singleton.mp hr]; decide⟩
  | h1 xs x ih =>
    intro h
    obtain ⟨i1, i2⟩ := ih fun y hy => h y (by simp [hy])
    have hx : x ≤ 3 := h x (by simp)
    rw [trAll_snoc, List.length_append, List.length_singleton]
    refine ⟨?_, trIn_mem i2⟩
    have e := trIn_len x.toNat (trAll xs)
    have e2 : (x.toNat + 1) * (trAll xs).length ≤ 4 * (trAll xs).length := Nat.mul_le_mul_right _ (by omega)
    rw [Nat.pow_succ]
    omega
theorem tally_take {n : Nat} {ws : List (List Int)} {i : Nat} {rows : List Int} (h : ws[i]? = some rows) : tallyL n (ws.take (i + 1)) = addOne (tallyL n (ws.take i)) rows.length := by
  unfold tallyL
  rw [List.take_add_one, h, List.foldl_append]
  rfl
theorem tally_len (n : Nat) (ws : List (List Int)) : (tallyL n ws).length = n := by
  unfold tallyL
  have : ∀ (ws : List (List Int)) (cs : List Int), (ws.foldl (fun cs rows => addOne cs rows.length) cs).length = cs.length := by
    intro ws
    induction ws with
    | nil => intro cs; rfl
    | cons r ws ih => intro cs; rw [List.foldl_cons, ih]; unfold addOne; rw [List.length_set]
  rw [this, List.length_replicate]
theorem fin4 {x : Int} (h : 0 ≤ x ∧ x ≤ 3) : ∃ a : Fin 4, x = ((a.val : Nat) : Int) := ⟨⟨x.toNat, by omega⟩, by show x = ((x.toNat : Nat) : Int); omega⟩
theorem tried1 : ∀ a : Fin 4, tried [((a.val : Nat) : Int)] = tab (cntF [((a.val : Nat) : Int)]) 2 := by decide +kernel
theorem tried2 : ∀ a b : Fin 4, a ≤ b → tried [((a.val : Nat) : Int), ((b.val : Nat) : Int)] = tab (cntF [((a.val : Nat) : Int), ((b.val : Nat) : Int)]) 3 := by decide +kernel
theorem tried3 : ∀ a b c : Fin 4, a ≤ b → b ≤ c → tried [((a.val : Nat) : Int), ((b.val : Nat) : Int), ((c.val : Nat) : Int)] = tab (cntF [((a.val : Nat) : Int), ((b.val : Nat) : Int), ((c.val : Nat) : Int)]) 4 := by decide +kernel
theorem tried_eq {hs : List Int} (hl : hs.length ≤ 3) (hb : ∀ x ∈ hs, 0 ≤ x ∧ x ≤ 3) (hw : hs.Pairwise (· ≤ ·)) : tried hs = tab (cntF hs) (hs.length + 1) := by
  match hs, hl, hb, hw with
  | [], _, _, _ => decide +kernel
  | [x], _, hb, _ =>
    obtain ⟨a, rfl⟩ := fin4 (hb x (by simp))
    exact tried1 a
  | [x, y], _, hb, hw =>
    obtain ⟨a, rfl⟩ := fin4 (hb x (by simp))
    obtain ⟨b, rfl⟩ := fin4 (hb y (by simp))
    refine tried2 a b ?_
    have := (List.pairwise_cons.mp hw).1 _ (List.mem_singleton.mpr rfl)
    exact Fin.le_def.mpr (by omega)
  | [x, y, z], _, hb, hw =>
    obtain ⟨a, rfl⟩ := fin4 (hb x (by simp))
    obtain ⟨b, rfl⟩ := fin4 (hb y (by simp))
    obtain ⟨c, rfl⟩ := fin4 (hb z (by simp))
    have h1 := (List.pairwise_cons.mp hw).1 ((b.val : Nat) : Int) (by simp)
    have h2 := (List.pairwise_cons.mp (List.pairwise_cons.mp hw).2).1 ((c.val : Nat) : Int) (by simp)
    exact tried3 a b c (Fin.le_def.mpr (by omega)) (Fin.le_def.mpr (by omega))
end TS
namespace TS
theorem Rise.take {hs : List Int} (r : Rise hs) (n : Nat) : Rise (hs.take n) := by
  intro i j x y hij hx hy
  have up : ∀ (k : Nat) (z : Int), (hs.take n)[k]? = some z → hs[k]? = some z := fun k z e => by
    rw [List.getElem?_take] at e
    split at e
    · exact e
    · cases e
  exact r i j x y hij (up i x hx) (up j y hy)
theorem Pos0.take {hs : List Int} (r : Pos0 hs) (n : Nat) : Pos0 (hs.take n) := fun x hx => r x (List.mem_of_mem_take hx)
theorem ff_abs {x : Int} (h0 : 0 ≤ x) (hx : x + 1 ≤ 2 ^ 208) : ∀ n : Nat, n ≤ 200 → (ff x n).natAbs < 2 ^ (210 * n + 1)
  | 0, _ => by show (1 : Int).natAbs < 2 ^ (210 * 0 + 1); decide
  | n + 1, hn => by
    show (ff x n * (x - n)).natAbs < 2 ^ (210 * (n + 1) + 1)
    have ih := ff_abs h0 hx n (by omega)
    have hc : (x - n).natAbs < 2 ^ 210 := by
      have h2 : (2 : Int) ^ 208 = ((2 ^ 208 : Nat) : Int) := rfl
      have h3 : (2 : Nat) ^ 210 = 2 ^ 208 * 4 := rfl
      have h4 : 1000 ≤ (2 : Nat) ^ 208 := by decide
      omega
    rw [Int.natAbs_mul, show 210 * (n + 1) + 1 = (210 * n + 1) + 210 by omega, Nat.pow_add]
    exact Nat.mul_lt_mul'' ih hc
/-- the numbers of rows more that the law asks -/
theorem more_ok {n d c : Int} (hn : 0 ≤ n ∧ n ≤ 63) (hd : 0 ≤ d ∧ d < 2 * n + 3) : ∀ x ∈ [(0 : Int), 1, 2, n, d, c % 10 ^ 40], 0 ≤ x ∧ x + 1 ≤ 2 ^ 208 := by
  have big : (1000 : Int) ≤ 2 ^ 208 := by decide
  have b40 : (10 : Int) ^ 40 ≤ 2 ^ 208 := by decide
  have c0 : 0 ≤ c % 10 ^ 40 := Int.emod_nonneg _ (by decide)
  have c1 : c % 10 ^ 40 < 10 ^ 40 := Int.emod_lt_of_pos _ (by decide)
  intro x hx
  simp only [List.mem_cons, List.not_mem_nil, or_false] at hx
  rcases hx with rfl | rfl | rfl | rfl | rfl | rfl
  all_goals (constructor <;> omega)
end TS
namespace TS
open PySem PySem.Spec PyProof.Rows L2
theorem ip_mulW {X : Cx} : PIp X .Mult (rI CMulW fun i j => .int (i * j)) := opI fun _ _ _ _ _ _ _ hc q => PyProof.Rows.imul_int q hc.ok
theorem rep_flat (v : V) : ∀ n : Nat, (List.replicate n [v]).flatten = List.replicate n v
  | 0 => rfl
  | n + 1 => by
    show [v] ++ (List.replicate n [v]).flatten = v :: List.replicate n v
    rw [rep_flat v n]
    rfl
end TS
namespace TS
open PySem PySem.Spec PyProof.Rows L2
/-! for i, x in enumerate(xs); the same in a comprehension; for x in reversed(xs) -/
theorem for_enum {K : PySem.W.Frag} {a : Addr} {xs : List V} {g : TG} {tb : TS} {D : Ends} {σ : L2.St} {H : Hp} (Wd : Nat → L2.St → Hp → Prop) (h0 : Wd 0 σ H) (hl : ∀ i σ H, i ≤ xs.length → Wd i σ H → SqL K H a xs)
    (hs : ∀ i x T σ H, xs[i]? = some x → Wd i σ H → H T = none → g (.ref T) σ (upd H T (.tup [.int (i : Nat), x])) fun σ9 H9 => tb { D with nx := Wd (i + 1), ct := Wd (i + 1), bk := D.nx } σ9 H9) (hd : ∀ σ H, Wd xs.length σ H → D.nx σ H) :
    ∃ Y : Nat → Nat → L2.St → Hp → Prop, (∃ m, Y 0 m σ H) ∧ ∀ i m σ H, Y i m σ H →
      ((Ite K a).stop i H ∧ D.nx σ H) ∨ ((Ite K a).go i H ∧ ∃ N : L2.St → Hp → Prop, (∀ σ' H', N σ' H' → ∃ m', m' < m ∧ Y (i + 1) m' σ' H') ∧ ∀ x H', (Ite K a).yld i H x H' → g x σ H' fun σ9 H9 => tb { D with nx := N, ct := N, bk := D.nx } σ9 H9) := by
  refine ⟨fun i m σ H => m = xs.length - i ∧ i ≤ xs.length ∧ Wd i σ H, ⟨xs.length, by simp, Nat.zero_le _, h0⟩, ?_⟩
  rintro i m σ H ⟨rfl, hi, held⟩
  have seen := hl i σ H hi held
  by_cases inside : i < xs.length
  · refine .inr ⟨⟨xs, xs[i], seen, by simp [inside]⟩, Wd (i + 1), fun σ' H' p' => ⟨xs.length - (i + 1), by omega, rfl, inside, p'⟩, fun v H' y => ?_⟩
    obtain ⟨T, x, rfl, nT, rfl, e⟩ := y
    exact hs i x T σ _ (e xs seen) held nT
  · have atEnd : i = xs.length := by omega
    subst atEnd
    exact .inl ⟨⟨xs, seen, Nat.le_refl _⟩, hd σ H held⟩
theorem lc_enum {K : PySem.W.Frag} {a : Addr} {xs : List V} {g : TG} {tt : TT} {te : TE} {vs : List Nat} {σ : L2.St} {H1 : Hp} {D : Addr} {Qd : Hp → Prop} (Wd : Nat → Hp → Prop) (h0 : Wd 0 (upd H1 D (.lst []))) (hl : ∀ i H, i ≤ xs.length → Wd i H → SqL K H a xs)
    (hs : ∀ i x T H, xs[i]? = some x → Wd i H → H T = none → g (.ref T) (wipe σ vs) (upd H T (.tup [.int (i : Nat), x])) fun σ9 H9 => wipe σ9 vs = wipe σ vs ∧ tt σ9 H9 fun b H8 =>
      if b = true then te σ9 H8 fun y H7 => ∃ made, H7 D = some (.lst made) ∧ made.length < sizeLine ∧ Wd (i + 1) (upd H7 D (.lst (made ++ [y]))) else Wd (i + 1) H8) (hd : ∀ H, Wd xs.length H → Qd H) :
    ∃ Y : Nat → Nat → Hp → Prop, (∃ m, Y 0 m (upd H1 D (.lst []))) ∧ ∀ i m H, Y i m H →
      ((Ite K a).stop i H ∧ Qd H) ∨ ((Ite K a).go i H ∧ ∃ Nw : Hp → Prop, (∀ H', Nw H' → ∃ m', m' < m ∧ Y (i + 1) m' H') ∧ ∀ x H', (Ite K a).yld i H x H' → g x (wipe σ vs) H' fun σ9 H9 => wipe σ9 vs = wipe σ vs ∧ tt σ9 H9 fun b H8 =>
        if b = true then te σ9 H8 fun y H7 => ∃ made, H7 D = some (.lst made) ∧ made.length < sizeLine ∧ Nw (upd H7 D (.lst (made ++ [y]))) else Nw H8) := by
  refine ⟨fun i m H => m = xs.length - i ∧ i ≤ xs.length ∧ Wd i H, ⟨xs.length, by simp, Nat.zero_le _, h0⟩, ?_⟩
  rintro i m H ⟨rfl, hi, held⟩
  have seen := hl i H hi held
  by_cases inside : i < xs.length
  · refine .inr ⟨⟨xs, xs[i], seen, by simp [inside]⟩, Wd (i + 1), fun H' p' => ⟨xs.length - (i + 1), by omega, rfl, inside, p'⟩, fun v H' y => ?_⟩
    obtain ⟨T, x, rfl, nT, rfl, e⟩ := y
    exact hs i x T _ (e xs seen) held nT
  · have atEnd : i = xs.length := by omega
    subst atEnd
    exact .inl ⟨⟨xs, seen, Nat.le_refl _⟩, hd H held⟩
theorem for_rev {K : PySem.W.Frag} {a : Addr} {xs : List V} {g : TG} {tb : TS} {D : Ends} {σ : L2.St} {H : Hp} (Wd : Nat → L2.St → Hp → Prop) (h0 : Wd 0 σ H) (hl : ∀ i σ H, i ≤ xs.length → Wd i σ H → SqL K H a xs)
    (hs : ∀ i x σ H, i < xs.length → xs[xs.length - 1 - i]? = some x → Wd i σ H → g x σ H fun σ9 H9 => tb { D with nx := Wd (i + 1), ct := Wd (i + 1), bk := D.nx } σ9 H9) (hd : ∀ σ H, Wd xs.length σ H → D.nx σ H) :
    ∃ Y : Nat → Nat → L2.St → Hp → Prop, (∃ m, Y 0 m σ H) ∧ ∀ i m σ H, Y i m σ H →
      ((Itv K a xs.length).stop i H ∧ D.nx σ H) ∨ ((Itv K a xs.length).go i H ∧ ∃ N : L2.St → Hp → Prop, (∀ σ' H', N σ' H' → ∃ m', m' < m ∧ Y (i + 1) m' σ' H') ∧ ∀ x H', (Itv K a xs.length).yld i H x H' → g x σ H' fun σ9 H9 => tb { D with nx := N, ct := N, bk := D.nx } σ9 H9) := by
  refine ⟨fun i m σ H => m = xs.length - i ∧ i ≤ xs.length ∧ Wd i σ H, ⟨xs.length, by simp, Nat.zero_le _, h0⟩, ?_⟩
  rintro i m σ H ⟨rfl, hi, held⟩
  have seen := hl i σ H hi held
  by_cases inside : i < xs.length
  · have back : xs.length - 1 - i < xs.length := by omega
    refine .inr ⟨⟨inside, xs, xs[xs.length - 1 - i], seen, by simp [back]⟩, Wd (i + 1), fun σ' H' p' => ⟨xs.length - (i + 1), by omega, rfl, inside, p'⟩, fun v H' y => ?_⟩
    obtain ⟨rfl, e⟩ := y
    exact hs i v σ _ inside (e xs seen) held
  · have atEnd : i = xs.length := by omega
    subst atEnd
    exact .inl ⟨Nat.le_refl _, hd σ H held⟩
/-! rules within a comprehension: the written part named -/
theorem ixLK {X : Cx} {K : PySem.W.Frag} (h : X.K = K := by rfl) : IxR X (rIxL K) := by
  subst h
  exact ix_list
theorem ixTK {X : Cx} {K : PySem.W.Frag} (h : X.K = K := by rfl) : IxR X (rIxT K) := by
  subst h
  exact ix_tup
theorem notInK {X : Cx} {K : PySem.W.Frag} (h : X.K = K := by rfl) : OpR X (compareOp .NotIn) (rIn K true) := by
  subst h
  exact op_notIn_seq
theorem isiK {X : Cx} {K : PySem.W.Frag} (h : X.K = K := by rfl) : CallR X (.builtin "isinstance") (rIsi K) := by
  subst h
  exact call_isi
def rLenK (K : PySem.W.Frag) : List V → Hp → VK → Prop := fun xs H Q => ∃ p ys, xs = [.ref p] ∧ (SqL K H p ys ∨ SqT K H p ys) ∧ Q (.int ys.length) H
theorem lenK {X : Cx} {K : PySem.W.Frag} (h : X.K = K := by rfl) : CallR X (.builtin "len") (rLenK K) := by
  subst h
  exact call_len_seq
end TS
namespace TS
open PySem PySem.Spec PyProof.Rows L2
section
variable {P : Program} {w : World} {K : PySem.W.Frag} {mg : Str → Option Value} {base : Heap}
def spCellAt (K : PySem.W.Frag) : Sp := fun vs H Q _ => ∃ (a : Addr) (ns : List Int) (k : Nat), vs = [.ref a, .int (k : Int)] ∧ IL K H a ns ∧ Q (.int (ns.getD k 0)) H
theorem ok_l_cell_at {f : Addr} {fd : FuncData} {n : Nat} (B : Bl mg) (F : Fun K "_law_cell_at" "_law_cell_at" s_l_cell_at f fd) : FnOk P w K mg base CX0 (n + 1) f fd ["_law_script", "_law_k"] (spCellAt K) := by
  refine F.ok sc_l_cell_at (fun vs H Q E h => ?_) (fun cdv A outer s H vs Q E hr h => ?_)
  · obtain ⟨a, ns, k, rfl, _⟩ := h
    rfl
  · obtain ⟨a, ns, k, rfl, hS, q⟩ := h
    refine ⟨_, (pss_cons (ps_if (pt_cmpR op_lt (pv 1) (pe_callB call_len_seq (by rfl) B.len PySem.boot_len (pa_cons (pv 0) pa_nil)) (nomark _))
  (pss_one (ps_ret (pe_ix ix_list (pv 0) (pv 1) (fun _ _ => rfl))))
  pss_nil)
 (pss_one (ps_ret pe_int))), ?_⟩
    refine ⟨_, rfl, _, rfl, a, _, rfl, .inl hS, _, _, rfl, rfl, _, rfl, ite2 (fun c => ?_) (fun c => ?_)⟩
    · have hk : k < ns.length := by
        have c' := of_decide_eq_true c
        rw [List.length_map] at c'
        omega
      exact ⟨_, rfl, _, rfl, a, _, _, _, rfl, rfl, hS, atI_nat (mapI_at (getD_at hk)), q⟩
    · have hk : ¬ k < ns.length := fun z => c (decide_eq_true (by rw [List.length_map]; omega))
      have e : ns.getD k 0 = 0 := by
        rw [List.getD_eq_getElem?_getD, List.getElem?_eq_none (by omega)]
        rfl
      rw [e] at q
      exact q
/-! drawn numbers -/
def primes : List Int := [1000003, 1000033, 1000037, 1000039, 1000081, 1000099, 1000117, 1000121, 1000133, 1000151, 1000159, 1000171, 1000183, 1000187, 1000193, 1000199]
def draw (c : Int) (k : Nat) (m : Int) : Int := (c * 48271 + (k : Int) * 69621) % primes.getD (k % 16) 1 % m
theorem draw_nonneg {c : Int} {k : Nat} {m : Int} (h : 0 < m) : 0 ≤ draw c k m := Int.emod_nonneg _ (by omega)
theorem draw_lt {c : Int} {k : Nat} {m : Int} (h : 0 < m) : draw c k m < m := Int.emod_lt_of_pos _ h
theorem primes_pos {j : Nat} (h : j < 16) : 0 < primes.getD j 1 := by
  have q : ∀ j : Fin 16, 0 < primes.getD j.val 1 := by decide +kernel
  exact q ⟨j, h⟩
def spDraw : Sp := fun vs H Q _ => ∃ (c m : Int) (k : Nat), vs = [.int c, .int (k : Int), .int m] ∧ 0 < m ∧ k < 1000000 ∧ ∀ H', Same H H' → Q (.int (draw c k m)) H'
theorem ok_l_draw {f : Addr} {fd : FuncData} {n : Nat} (B : Bl mg) (F : Fun K "_law_draw" "_law_draw" s_l_draw f fd) : FnOk P w K mg base CX0 (n + 1) f fd ["_law_cell", "_law_k", "_law_many"] spDraw := by
  refine F.ok sc_l_draw (fun vs H Q E h => ?_) (fun cdv A outer s H vs Q E hr h => ?_)
  · obtain ⟨c, m, k, rfl, _⟩ := h
    rfl
  · obtain ⟨c, m, k, rfl, hm, hk, q⟩ := h
    refine ⟨_, (pss_cons (ps_set (i := 3) sc_l_draw.nd rfl (.inl rfl) (pe_tup (pa_cons pe_int (pa_cons pe_int (pa_cons pe_int (pa_cons pe_int (pa_cons pe_int (pa_cons pe_int (pa_cons pe_int (pa_cons pe_int (pa_cons pe_int (pa_cons pe_int (pa_cons pe_int (pa_cons pe_int (pa_cons pe_int (pa_cons pe_int (pa_cons pe_int (pa_cons pe_int pa_nil))))))))))))))))))
 (pss_one (ps_ret (pe_op op_mod (pe_op op_mod (pe_op op_add (pe_op op_mul (pv 0) pe_int) (pe_op op_mul (pv 1) pe_int)) (pe_ix ix_tup (pv 3) (pe_op op_mod (pv 1) pe_int) (fun _ _ => rfl))) (pv 2))))), ?_⟩
    refine ⟨by show 16 ≤ sizeLine; decide, fun t ht => ?_⟩
    have hj : k % 16 < 16 := Nat.mod_lt _ (by decide)
    have ht2 : SqT K (upd H t (.tup (primes.map V.int))) t (primes.map V.int) := SqT.of upd_same
    have hat : atI (primes.map V.int) ((k : Int) % 16) = some (.int (primes.getD (k % 16) 1)) := by
      have e : ((k : Int) % 16) = ((k % 16 : Nat) : Int) := by omega
      rw [e]
      refine atI_nat (mapI_at ?_)
      rw [List.getD_eq_getElem?_getD, List.getElem?_eq_getElem (show k % 16 < primes.length from hj)]
      rfl
    refine ⟨_, rfl, _, _, rfl, rfl, .inr ⟨by decide, by decide⟩, _, rfl, _, _, rfl, rfl, .inr ⟨by decide, by decide⟩, _, _, rfl, rfl, _, rfl, _, rfl, _, _, rfl, rfl, (by show (0 : Int) < 16; decide), _, _, _, _, rfl, rfl, ht2, hat, _, _, rfl, rfl, primes_pos hj, _, rfl, _, _, rfl, rfl, hm, ?_⟩
    exact q _ (same_upd ht)
end
end TS
namespace TS
open PySem PySem.Spec PyProof.Rows L2
section
variable {P : Program} {w : World} {K : PySem.W.Frag} {mg : Str → Option Value} {base : Heap}
def spNoCols : Sp := fun vs H Q _ => ∃ n : Nat, vs = [.int (n : Int)] ∧ n ≤ 1000 ∧ ∀ H' p, Same H H' → H p = none → H' p = some (.lst ((tab f0 (n + 1)).map V.int)) → Q (.ref p) H'
theorem ok_ways_without_columns {f : Addr} {fd : FuncData} {n : Nat} (B : Bl mg) (F : Fun K "ways_without_columns" "ways_without_columns" s_ways_without_columns f fd) : FnOk P w K mg base CX0 (n + 1) f fd ["most"] spNoCols := by
  refine F.ok sc_ways_without_columns (fun vs H Q E h => ?_) (fun cdv A outer s H vs Q E hr h => ?_)
  · obtain ⟨n, rfl, _⟩ := h
    rfl
  · obtain ⟨n, rfl, hn, q⟩ := h
    refine ⟨_, (pss_one (ps_ret (pe_op op_cat (pe_lst (pa_cons pe_int pa_nil)) (pe_op op_rep (pe_lst (pa_cons pe_int pa_nil)) (pv 0))))), ?_⟩
    refine ⟨by show 1 ≤ sizeLine; decide, fun p1 n1 => ⟨by show 1 ≤ sizeLine; decide, fun p2 n2 => ?_⟩⟩
    have n21 : p1 ≠ p2 := ne_of_none upd_same n2
    refine ⟨_, rfl, p2, _, _, rfl, rfl, upd_same, by omega, by omega, ?_, fun p3 n3 => ?_⟩
    · show 1 * (n : Int).toNat ≤ sizeLine
      exact sz63 (by omega)
    have n32 : p2 ≠ p3 := ne_of_none upd_same n3
    have n31 : p1 ≠ p3 := ne_of_none (by rw [upd_ne n21]; exact upd_same) n3
    rw [rep_flat, Int.toNat_natCast]
    refine ⟨p1, p3, _, _, rfl, rfl, by rw [upd_ne n31, upd_ne n21]; exact upd_same, upd_same, ?_, fun p4 n4 => ?_⟩
    · show 1 + (List.replicate n (V.int 0)).length ≤ sizeLine
      rw [List.length_replicate]
      exact sz63 (by omega)
    refine q _ p4 ((same_upd n1).trans ((same_upd n2).trans ((same_upd n3).trans (same_upd n4)))) ?_ ?_
    · exact (((same_upd n1).trans ((same_upd n2).trans (same_upd n3)))).free n4
    · rw [upd_same, tab_f0, List.map_cons, List.map_replicate]
      rfl
def spAddCol : Sp := fun vs H Q _ => ∃ (a : Addr) (h : Int) (n e : Nat) (g : Nat → Int), vs = [.ref a, .int h] ∧ H a = some (.lst ((tab g (n + 1)).map V.int)) ∧ n ≤ 1000 ∧ 0 ≤ h ∧ h.natAbs < 2 ^ 209 ∧ 0 < e ∧ e ≤ 900000 ∧ (∀ k, (g k).natAbs < 2 ^ e) ∧
  Q .non (upd H a (.lst ((tab (stp g h) (n + 1)).map V.int)))
theorem ok_add_column {f : Addr} {fd : FuncData} {m : Nat} (B : Bl mg) (F : Fun K "add_column" "add_column" s_add_column f fd) : FnOk P w K mg base CX0 (m + 1) f fd ["ways", "height"] spAddCol := by
  refine F.ok sc_add_column (fun vs H Q E h => ?_) (fun cdv A outer s H vs Q E hr h => ?_)
  · obtain ⟨a, h, n, e, g, rfl, _⟩ := h
    rfl
  · obtain ⟨a, h, n, e, g, rfl, hA, hn, h0, hb, he0, he, hg, q⟩ := h
    refine ⟨_, (pss_one (ps_for PassesOwn.never rfl (pi_range3 rfl B.range (pa_cons (pe_callB (call_min2 rfl) (by rfl) B.min (by decide +kernel) (pa_cons (pe_op op_sub (pe_callB call_len_seq (by rfl) B.len PySem.boot_len (pa_cons (pv 0) pa_nil)) pe_int) (pa_cons (pv 1) pa_nil))) (pa_cons pe_int (pa_cons (pe_un un_neg pe_int) pa_nil)))) (pg_name (i := 2) sc_add_column.nd rfl (.inl rfl))
  (pss_one (ps_augS (pv 0) (pv 2) get_list (pe_op op_mulW (pe_ix ix_list (pv 0) (pe_op op_sub (pv 2) pe_int) (fun _ _ => rfl)) (pe_op op_add (pe_op op_sub (pv 1) (pv 2)) pe_int)) ip_add set_list)))), ?_⟩
    have hA' : SqL K H a ((tab g (n + 1)).map V.int) := .inl (.inl hA)
    obtain ⟨t, ht, ht2, ht3⟩ : ∃ t : Nat, (if h < (n : Int) then h else (n : Int)) = (t : Int) ∧ ((t : Int) = h ∨ n ≤ t) ∧ ((t : Int) ≤ h ∧ t ≤ n) := by
      by_cases c : h < (n : Int)
      · exact ⟨h.toNat, by rw [if_pos c]; omega, by omega, by omega, by omega⟩
      · exact ⟨n, by rw [if_neg c], by omega, by omega, by omega⟩
    have hlen : (((tab g (n + 1)).map V.int).length : Int) - 1 = (n : Int) := by
      rw [List.length_map, tab_len]
      omega
    refine ⟨_, rfl, a, _, rfl, .inl hA', _, _, rfl, rfl, _, rfl, _, _, rfl, ?_⟩
    rw [hlen, ht]
    refine ⟨_, rfl, _, _, _, _, rfl, RgC.neg (by omega) (by omega) (by omega) (by omega), for_rangeC (fun i σ H' => ∃ v, σ = [some (.ref a), some (.int h), v] ∧ H' = upd H a (.lst ((tab (mid g h t i) (n + 1)).map V.int)))
      ⟨none, rfl, by rw [mid_start ht2, upd_id hA]⟩ ?_ ?_⟩
    · rintro i σ H' hi ⟨v, rfl, rfl⟩
      have hi' : i < t := by omega
      obtain ⟨k, hk⟩ : ∃ k, k + 1 = t - i := ⟨t - i - 1, by omega⟩
      have ev : (t : Int) + (i : Int) * (-1) = ((k + 1 : Nat) : Int) := by omega
      have hS : SqL K (upd H a (.lst ((tab (mid g h t i) (n + 1)).map V.int))) a ((tab (mid g h t i) (n + 1)).map V.int) := SqL.of upd_same
      have g1 : ((tab (mid g h t i) (n + 1)).map V.int)[k + 1]? = some (.int (g (k + 1))) := by
        refine mapI_at ?_
        rw [tab_get (by omega), mid_at (by omega)]
      have g0 : ((tab (mid g h t i) (n + 1)).map V.int)[k]? = some (.int (g k)) := by
        refine mapI_at ?_
        rw [tab_get (by omega), mid_at (by omega)]
      rw [ev]
      refine ⟨_, rfl, _, rfl, a, _, _, _, rfl, rfl, hS, atI_nat g1, _, rfl, _, rfl, _, _, rfl, rfl, a, _, _, _, rfl, rfl, hS, at_of (by show ((k + 1 : Nat) : Int) - 1 = (k : Int); omega) g0, _, rfl, _, rfl, _, _, rfl, rfl, _, _, rfl, rfl, _, _, rfl, rfl, ?_, _, _, rfl, rfl, a, _, _, k + 1, rfl, rfl, upd_same, ?_, ?_⟩
      · refine wide_mul (hg k) (b := 210) ?_ he0 (by omega) (by omega)
        have : (2 : Nat) ^ 210 = 2 ^ 209 * 2 := rfl
        omega
      · unfold ixN
        rw [List.length_map, tab_len, if_pos (by omega), if_pos (by omega), Int.toNat_natCast]
      · refine ⟨_, rfl, ?_⟩
        rw [upd_upd, ← mid_turn ht3.1 hi' hk, List.map_set]
        rw [show h - ((k + 1 : Nat) : Int) + 1 = h - (k : Int) by omega]
    · rintro σ H' ⟨v, rfl, rfl⟩
      rw [show ((t : Int) - 0).toNat = t by omega, mid_end]
      exact q
end
end TS
namespace TS
open PySem PySem.Spec PyProof.Rows L2
/-- heights that are not too high, not too many -/
structure Good (hs : List Int) : Prop where
  rise : Rise hs
  pos : Pos0 hs
  low : ∀ x ∈ hs, x + 1 ≤ 2 ^ 208
  len : hs.length ≤ 100
theorem Good.b {hs : List Int} (g : Good hs) : ∀ x ∈ hs, 0 ≤ x ∧ x + 1 ≤ 2 ^ 208 := fun x hx => ⟨g.pos x hx, g.low x hx⟩
theorem cnt_take {hs : List Int} (g : Good hs) (i k : Nat) : (cntF (hs.take i) k).natAbs < 2 ^ (208 * 100 + 1) := by
  have q := cnt_abs (hs := hs.take i) (fun x hx => g.b x (List.mem_of_mem_take hx)) k
  refine pow_up q ?_
  have := g.len
  rw [List.length_take]
  omega
section
variable {P : Program} {w : World} {K : PySem.W.Frag} {mg : Str → Option Value} {base : Heap}
def spUpTo (K : PySem.W.Frag) : Sp := fun vs H Q _ => ∃ (a : Addr) (hs : List Int) (n : Nat), vs = [.ref a, .int (n : Int)] ∧ IL K H a hs ∧ Good hs ∧ n ≤ 1000 ∧
  ∀ H' p, Same H H' → H p = none → H' p = some (.lst ((tab (cntF hs) (n + 1)).map V.int)) → Q (.ref p) H'
theorem ok_ways_up_to {f fW fA : Addr} {fd fdW fdA : FuncData} {m : Nat} (B : Bl mg) (Dways_without_columns : Df P w K mg base "ways_without_columns" (m + 1) ["most"] spNoCols fW fdW) (Dadd_column : Df P w K mg base "add_column" (m + 1) ["ways", "height"] spAddCol fA fdA)
    (F : Fun K "ways_up_to" "ways_up_to" s_ways_up_to f fd) : FnOk P w K mg base CX0 (m + 1 + 1) f fd ["stairs", "most"] (spUpTo K) := by
  refine F.ok sc_ways_up_to (fun vs H Q E h => ?_) (fun cdv A outer s H vs Q E hr h => ?_)
  · obtain ⟨a, hs, n, rfl, _⟩ := h
    rfl
  · obtain ⟨a, hs, n, rfl, hS, G, hn, q⟩ := h
    refine ⟨_, (pss_cons (ps_set (i := 2) sc_ways_up_to.nd rfl (.inl rfl) (pe_call Dways_without_columns.ok (hr.mono (Nat.le_refl _)) (by rfl) Dways_without_columns.g Dways_without_columns.kp Dways_without_columns.b .nil pass0 (pa_cons (pv 1) pa_nil)))
 (pss_cons (ps_for PassesOwn.never rfl (pi_list (pv 0)) (pg_name (i := 3) sc_ways_up_to.nd rfl (.inl rfl))
  (pss_one (ps_expr (pe_call Dadd_column.ok (hr.mono (Nat.le_refl _)) (by rfl) Dadd_column.g Dadd_column.kp Dadd_column.b .nil pass0 (pa_cons (pv 2) (pa_cons (pv 3) pa_nil))))))
 (pss_one (ps_ret (pv 2))))), ?_⟩
    refine ⟨_, rfl, n, rfl, hn, fun H1 p s1 np hp => ?_⟩
    have st : ∀ o : HO, SqL K (upd H1 p o) a (hs.map V.int) := fun o => (same_mut s1 np).seq hS
    refine ⟨_, rfl, a, rfl, ⟨_, s1.seq hS⟩, for_list (K := K) (a := a) (xs := hs.map V.int) (fun i σ H' => ∃ v, σ = [some (.ref a), some (.int (n : Int)), some (.ref p), v] ∧ H' = upd H1 p (.lst ((tab (cntF (hs.take i)) (n + 1)).map V.int)))
      ⟨none, rfl, (upd_id hp).symm⟩ (fun i σ H' _ ⟨_, _, e⟩ => by rw [e]; exact st _) ?_ ?_⟩
    · rintro i x σ H' hi ⟨v, rfl, rfl⟩
      obtain ⟨h, rfl, hh⟩ := mapI_get hi
      have hm : h ∈ hs := List.mem_of_getElem? hh
      have b := G.b h hm
      refine ⟨_, rfl, _, rfl, p, h, n, 208 * 100 + 1, cntF (hs.take i), rfl, upd_same, hn, b.1, ?_, by decide, by decide, cnt_take G i, ?_⟩
      · have : (2 : Int) ^ 208 = ((2 ^ 208 : Nat) : Int) := rfl
        have h2 : (2 : Nat) ^ 209 = 2 ^ 208 * 2 := rfl
        omega
      · refine ⟨some (.int h), rfl, ?_⟩
        rw [upd_upd, cntF_take hh]
    · rintro σ H' ⟨v, rfl, rfl⟩
      rw [List.length_map, List.take_length]
      exact ⟨_, rfl, q _ p (same_mut s1 np) np upd_same⟩
end
end TS
namespace TS
open PySem PySem.Spec PyProof.Rows L2
section
variable {P : Program} {w : World} {K : PySem.W.Frag} {mg : Str → Option Value} {base : Heap}
def spWhole : Sp := fun vs H Q _ => ∃ i : Int, vs = [.int i] ∧ Q (.bl true) H
theorem ok_l_whole {f : Addr} {fd : FuncData} {m : Nat} (B : Bl mg) (F : Fun K "_law_whole" "_law_whole" s_l_whole f fd) : FnOk P w K mg base CX0 (m + 1) f fd ["_law_number"] spWhole := by
  refine F.ok sc_l_whole (fun vs H Q E h => ?_) (fun cdv A outer s H vs Q E hr h => ?_)
  · obtain ⟨i, rfl, _⟩ := h
    rfl
  · obtain ⟨i, rfl, q⟩ := h
    refine ⟨_, (pss_one (ps_ret (pe_and (pe_callB call_isi (by rfl) B.isinstance (by decide +kernel) (pa_cons (pv 0) (pa_cons (pe_bltn (v := .ty "int") (by rfl) B.int PyProof.Rows.boot_int rfl) pa_nil))) (pe_one (pe_not (pe_callB call_isi (by rfl) B.isinstance (by decide +kernel) (pa_cons (pv 0) (pa_cons (pe_bltn (v := .ty "bool") (by rfl) B.bool PyProof.Rows.boot_bool rfl) pa_nil)))))))), ?_⟩
    exact ⟨_, rfl, _, _, _, _, true, rfl, .ty _, .base (.int i), kit_ty (by decide +kernel), true, rfl, iteT ⟨_, rfl, _, _, _, _, false, rfl, .ty _, .base (.int i), kit_ty (by decide +kernel), false, rfl, q⟩⟩
def spIsCount : Sp := fun vs H Q _ => ∃ i : Int, vs = [.int i] ∧ Q (.bl (decide (0 ≤ i))) H
theorem ok_is_count {f : Addr} {fd : FuncData} {m : Nat} (B : Bl mg) (F : Fun K "is_count" "is_count" s_is_count f fd) : FnOk P w K mg base CX0 (m + 1) f fd ["value"] spIsCount := by
  refine F.ok sc_is_count (fun vs H Q E h => ?_) (fun cdv A outer s H vs Q E hr h => ?_)
  · obtain ⟨i, rfl, _⟩ := h
    rfl
  · obtain ⟨i, rfl, q⟩ := h
    refine ⟨_, (pss_one (ps_ret (pe_and (pe_callB call_isi (by rfl) B.isinstance (by decide +kernel) (pa_cons (pv 0) (pa_cons (pe_bltn (v := .ty "int") (by rfl) B.int PyProof.Rows.boot_int rfl) pa_nil))) (pe_and (pe_not (pe_callB call_isi (by rfl) B.isinstance (by decide +kernel) (pa_cons (pv 0) (pa_cons (pe_bltn (v := .ty "bool") (by rfl) B.bool PyProof.Rows.boot_bool rfl) pa_nil)))) (pe_one (pe_cmpR op_ge (pv 0) pe_int (nomark _))))))), ?_⟩
    exact ⟨_, rfl, _, _, _, _, true, rfl, .ty _, .base (.int i), kit_ty (by decide +kernel), true, rfl, iteT ⟨_, rfl, _, _, _, _, false, rfl, .ty _, .base (.int i), kit_ty (by decide +kernel), false, rfl, true, rfl, iteT ⟨_, rfl, _, _, rfl, rfl, q⟩⟩⟩
def spIsStairs : Sp := fun vs H Q _ => ∃ (a : Addr) (hs : List Int), vs = [.ref a] ∧ H a = some (.lst (hs.map V.int)) ∧ Rise hs ∧ Pos0 hs ∧ Q (.bl true) H
theorem ok_is_stairs {f fC : Addr} {fd fdC : FuncData} {m : Nat} (B : Bl mg) (Dis_count : Df P w K mg base "is_count" (m + 1) ["value"] spIsCount fC fdC) (F : Fun K "is_stairs" "is_stairs" s_is_stairs f fd) :
    FnOk P w K mg base CX0 (m + 1 + 1) f fd ["stairs"] spIsStairs := by
  refine F.ok sc_is_stairs (fun vs H Q E h => ?_) (fun cdv A outer s H vs Q E hr h => ?_)
  · obtain ⟨a, hs, rfl, _⟩ := h
    rfl
  · obtain ⟨a, hs, rfl, hA, rise, pos, q⟩ := h
    refine ⟨_, (pss_cons (ps_if (pt_not (pt_val (pe_callB call_isi (by rfl) B.isinstance (by decide +kernel) (pa_cons (pv 0) (pa_cons (pe_bltn (v := .ty "list") (by rfl) B.list PyProof.Rows.boot_list rfl) pa_nil)))))
  (pss_one (ps_ret pe_bl))
  pss_nil)
 (pss_cons (ps_set (i := 1) sc_is_stairs.nd rfl (.inl rfl) pe_int)
 (pss_cons (ps_for PassesOwn.never rfl (pi_list (pv 0)) (pg_name (i := 2) sc_is_stairs.nd rfl (.inl rfl))
  (pss_cons (ps_if (PW.pt (pw_or (pt_not (pt_val (pe_call Dis_count.ok (hr.mono (Nat.le_refl _)) (by rfl) Dis_count.g Dis_count.kp Dis_count.b .nil pass0 (pa_cons (pv 2) pa_nil)))) (pw_or1 (pt_cmpR op_lt (pv 2) (pv 1) (nomark _)))))
  (pss_one (ps_ret pe_bl))
  pss_nil)
 (pss_one (ps_set (i := 1) sc_is_stairs.nd rfl (.inl rfl) (pv 2)))))
 (pss_one (ps_ret pe_bl))))), ?_⟩
    refine ⟨_, rfl, _, _, _, _, true, rfl, .ty _, .base (.lst hA), kit_ty (by decide +kernel), true, rfl, iteF ?_⟩
    refine ⟨_, rfl, a, rfl, ⟨_, SqL.of hA⟩, for_list (K := K) (a := a) (xs := hs.map V.int) (fun i σ H' => ∃ (z : Int) (v : Option V), σ = [some (.ref a), some (.int z), v] ∧ H' = H ∧ ∀ x, hs[i]? = some x → z ≤ x)
      ⟨0, none, rfl, rfl, fun x hx => pos x (List.mem_of_getElem? hx)⟩ (fun i σ H' _ ⟨_, _, _, e, _⟩ => by rw [e]; exact SqL.of hA) ?_ ?_⟩
    · rintro i x σ H' hi ⟨z, v, rfl, rfl, hz⟩
      obtain ⟨h, rfl, hh⟩ := mapI_get hi
      have h0 : 0 ≤ h := pos h (List.mem_of_getElem? hh)
      have hz' := hz h hh
      refine ⟨_, rfl, h, rfl, _, rfl, ?_⟩
      rw [decide_eq_true h0]
      refine iteF ?_
      refine ⟨_, rfl, _, rfl, _, _, rfl, rfl, _, rfl, ?_⟩
      rw [decide_eq_false (by omega)]
      refine iteF ?_
      refine ⟨_, rfl, h, some (.int h), rfl, rfl, fun x hx => rise i (i + 1) h x (by omega) hh hx⟩
    · rintro σ H' ⟨z, v, rfl, rfl, _⟩
      exact q
def spCheck : Sp := fun vs H Q _ => ∃ (a : Addr) (hs : List Int), vs = [.ref a] ∧ H a = some (.lst (hs.map V.int)) ∧ Rise hs ∧ Pos0 hs ∧ Q .non H
theorem ok_check_stairs {f fC : Addr} {fd fdC : FuncData} {m : Nat} (B : Bl mg) (Dis_stairs : Df P w K mg base "is_stairs" (m + 1) ["stairs"] spIsStairs fC fdC) (F : Fun K "check_stairs" "check_stairs" s_check_stairs f fd) :
    FnOk P w K mg base CX0 (m + 1 + 1) f fd ["stairs"] spCheck := by
  refine F.ok sc_check_stairs (fun vs H Q E h => ?_) (fun cdv A outer s H vs Q E hr h => ?_)
  · obtain ⟨a, hs, rfl, _⟩ := h
    rfl
  · obtain ⟨a, hs, rfl, hA, rise, pos, q⟩ := h
    refine ⟨_, (pss_one (ps_if (pt_not (pt_val (pe_call Dis_stairs.ok (hr.mono (Nat.le_refl _)) (by rfl) Dis_stairs.g Dis_stairs.kp Dis_stairs.b .nil pass0 (pa_cons (pv 0) pa_nil))))
  (pss_one ps_never)
  pss_nil)), ?_⟩
    exact ⟨_, rfl, a, hs, rfl, hA, rise, pos, true, rfl, iteF q⟩
def spCnts (K : PySem.W.Frag) : Sp := fun vs H Q _ => ∃ (a : Addr) (hs : List Int), vs = [.ref a] ∧ H a = some (.lst (hs.map V.int)) ∧ Good hs ∧
  ∀ H' p, Same H H' → H p = none → H' p = some (.lst ((tab (cntF hs) (hs.length + 1)).map V.int)) → Q (.ref p) H'
theorem ok_counts {f fC fW : Addr} {fd fdC fdW : FuncData} {m : Nat} (B : Bl mg) (Dcheck_stairs : Df P w K mg base "check_stairs" (m + 1) ["stairs"] spCheck fC fdC) (Dways_up_to : Df P w K mg base "ways_up_to" (m + 1) ["stairs", "most"] (spUpTo K) fW fdW)
    (F : Fun K "counts" "counts" s_counts f fd) : FnOk P w K mg base CX0 (m + 1 + 1) f fd ["stairs"] (spCnts K) := by
  refine F.ok sc_counts (fun vs H Q E h => ?_) (fun cdv A outer s H vs Q E hr h => ?_)
  · obtain ⟨a, hs, rfl, _⟩ := h
    rfl
  · obtain ⟨a, hs, rfl, hA, G, q⟩ := h
    refine ⟨_, (pss_cons (ps_expr (pe_call Dcheck_stairs.ok (hr.mono (Nat.le_refl _)) (by rfl) Dcheck_stairs.g Dcheck_stairs.kp Dcheck_stairs.b .nil pass0 (pa_cons (pv 0) pa_nil)))
 (pss_one (ps_ret (pe_call Dways_up_to.ok (hr.mono (Nat.le_refl _)) (by rfl) Dways_up_to.g Dways_up_to.kp Dways_up_to.b .nil pass0 (pa_cons (pv 0) (pa_cons (pe_callB call_len_seq (by rfl) B.len PySem.boot_len (pa_cons (pv 0) pa_nil)) pa_nil)))))), ?_⟩
    have hl := G.len
    refine ⟨_, rfl, a, hs, rfl, hA, G.rise, G.pos, _, rfl, _, rfl, a, _, rfl, .inl (SqL.of hA), a, hs, hs.length, ?_, SqL.of hA, G, by omega, q⟩
    rw [List.length_map]
    rfl
end
end TS
namespace TS
open PySem PySem.Spec PyProof.Rows L2
section
variable {P : Program} {w : World} {K : PySem.W.Frag} {mg : Str → Option Value} {base : Heap}
def spFilled : Sp := fun vs H Q _ => ∃ (a : Addr) (hs : List Int) (x : Int), vs = [.ref a, .int x] ∧ H a = some (.lst (hs.map V.int)) ∧ Good hs ∧ 0 ≤ x ∧ x + 1 ≤ 2 ^ 208 ∧
  ∀ H', Same H H' → Q (.int (prodF hs x hs.length)) H'
theorem ok_filled {f fC fW : Addr} {fd fdC fdW : FuncData} {m : Nat} (B : Bl mg) (Dcheck_stairs : Df P w K mg base "check_stairs" (m + 3) ["stairs"] spCheck fC fdC) (Dis_count : Df P w K mg base "is_count" (m + 1) ["value"] spIsCount fW fdW)
    (F : Fun K "filled" "filled" s_filled f fd) : FnOk P w K mg base CX0 (m + 3 + 1) f fd ["stairs", "more"] spFilled := by
  refine F.ok sc_filled (fun vs H Q E h => ?_) (fun cdv A outer s H vs Q E hr h => ?_)
  · obtain ⟨a, hs, x, rfl, _⟩ := h
    rfl
  · obtain ⟨a, hs, x, rfl, hA, G, h0, hx, q⟩ := h
    refine ⟨_, (pss_cons (ps_expr (pe_call Dcheck_stairs.ok (hr.mono (Nat.le_refl _)) (by rfl) Dcheck_stairs.g Dcheck_stairs.kp Dcheck_stairs.b .nil pass0 (pa_cons (pv 0) pa_nil)))
 (pss_cons (ps_if (pt_not (pt_val (pe_call Dis_count.ok (hr.mono (by omega)) (by rfl) Dis_count.g Dis_count.kp Dis_count.b .nil pass0 (pa_cons (pv 1) pa_nil))))
  (pss_one ps_never)
  pss_nil)
 (pss_cons (ps_set (i := 2) sc_filled.nd rfl (.inl rfl) pe_int)
 (pss_cons (ps_for PassesOwn.never rfl (pi_enum (by rfl) B.enumerate (pa_cons (pv 0) pa_nil)) (pg_tup rfl (pgs_cons (pg_name (i := 3) sc_filled.nd rfl (.inl rfl)) (pgs_cons (pg_name (i := 4) sc_filled.nd rfl (.inl rfl)) pgs_nil)))
  (pss_one (ps_aug (i := 2) sc_filled.nd rfl (.inl rfl) (pe_op op_sub (pe_op op_add (pv 4) (pv 1)) (pv 3)) ip_mulW)))
 (pss_one (ps_ret (pv 2))))))), ?_⟩
    refine ⟨_, rfl, a, hs, rfl, hA, G.rise, G.pos, _, rfl, x, rfl, true, by rw [decide_eq_true h0], iteF ?_⟩
    refine ⟨_, rfl, a, _, rfl, SqL.of hA, for_enum (K := K) (a := a) (xs := hs.map V.int) (fun i σ H' => ∃ (u v : Option V), σ = [some (.ref a), some (.int x), some (.int (prodF hs x i)), u, v] ∧ Same H H')
      ⟨none, none, rfl, Same.refl _⟩ (fun i σ H' _ ⟨_, _, _, e⟩ => e.seq (SqL.of hA)) ?_ ?_⟩
    · rintro i y T σ H' hi ⟨u, v, rfl, sm⟩ nT
      obtain ⟨h, rfl, hh⟩ := mapI_get hi
      have hlt : i < hs.length := (List.getElem?_eq_some_iff.mp hh).1
      refine ⟨T, _, rfl, SqT.of upd_same, rfl, _, _, rfl, _, _, rfl, rfl, ?_⟩
      have eg : hs.getD i 0 = h := by
        rw [List.getD_eq_getElem?_getD, hh]
        rfl
      refine ⟨_, rfl, _, rfl, _, rfl, _, _, rfl, rfl, _, rfl, _, _, rfl, rfl, _, _, rfl, rfl, ?_, ?_⟩
      · have p := prod_abs G.b G.len h0 hx i (by omega)
        have b := G.b h (List.mem_of_getElem? hh)
        have hl := G.len
        refine wide_mul p (b := 210) ?_ (by omega) (by decide) (by omega)
        have h2 : (2 : Int) ^ 208 = ((2 ^ 208 : Nat) : Int) := rfl
        have h3 : (2 : Nat) ^ 210 = 2 ^ 208 * 4 := rfl
        have h4 : 1000 ≤ (2 : Nat) ^ 208 := by decide
        omega
      · refine ⟨some (.int (i : Int)), some (.int h), ?_, sm.trans (same_upd nT)⟩
        show [some (V.ref a), some (V.int x), some (V.int (prodF hs x i * (h + x - i))), some (V.int (i : Int)), some (V.int h)] = [some (V.ref a), some (V.int x), some (V.int (prodF hs x i * (hs.getD i 0 + x - i))), some (V.int (i : Int)), some (V.int h)]
        rw [eg]
    · rintro σ H' ⟨u, v, rfl, sm⟩
      rw [List.length_map]
      exact ⟨_, rfl, q H' sm⟩
def spLCounts (K : PySem.W.Frag) : Sp := fun vs H Q _ => ∃ (a : Addr) (hs : List Int), vs = [.ref a] ∧ IL K H a hs ∧ Good hs ∧
  ∀ H' p, Same H H' → H p = none → H' p = some (.lst ((tab (cntF hs) (hs.length + 1)).map V.int)) → Q (.ref p) H'
theorem ok_l_counts {f : Addr} {fd : FuncData} {m : Nat} (B : Bl mg) (F : Fun K "_law_counts" "_law_counts" s_l_counts f fd) : FnOk P w K mg base CX0 (m + 1) f fd ["_law_stairs_here"] (spLCounts K) := by
  refine F.ok sc_l_counts (fun vs H Q E h => ?_) (fun cdv A outer s H vs Q E hr h => ?_)
  · obtain ⟨a, hs, rfl, _⟩ := h
    rfl
  · obtain ⟨a, hs, rfl, hS, G, q⟩ := h
    refine ⟨_, (pss_cons (ps_set (i := 1) sc_l_counts.nd rfl (.inl rfl) (pe_op op_cat (pe_lst (pa_cons pe_int pa_nil)) (pe_op op_rep (pe_lst (pa_cons pe_int pa_nil)) (pe_callB call_len_seq (by rfl) B.len PySem.boot_len (pa_cons (pv 0) pa_nil)))))
 (pss_cons (ps_for PassesOwn.never rfl (pi_enum (by rfl) B.enumerate (pa_cons (pv 0) pa_nil)) (pg_tup rfl (pgs_cons (pg_name (i := 2) sc_l_counts.nd rfl (.inl rfl)) (pgs_cons (pg_name (i := 3) sc_l_counts.nd rfl (.inl rfl)) pgs_nil)))
  (pss_one (ps_for PassesOwn.never rfl (pi_revR (by rfl) B.reversed (prg_1 (by rfl) B.range (pe_op op_add (pv 2) pe_int))) (pg_name (i := 4) sc_l_counts.nd rfl (.inl rfl))
  (pss_one (ps_if (pt_cmpR op_gt (pv 3) (pv 4) (nomark _))
  (pss_cons (ps_set (i := 5) sc_l_counts.nd rfl (.inl rfl) (pe_op op_mulW (pe_ix ix_list (pv 1) (pv 4) (fun _ _ => rfl)) (pe_op op_sub (pv 3) (pv 4))))
 (pss_one (ps_asg (pe_op op_add (pe_ix ix_list (pv 1) (pe_op op_add (pv 4) pe_int) (fun _ _ => rfl)) (pv 5)) (pg_sub (pv 1) (pe_op op_add (pv 4) pe_int) set_list))))
  pss_nil)))))
 (pss_one (ps_ret (pv 1))))), ?_⟩
    have hl := G.len
    have elen : (((hs.map V.int).length : Nat) : Int).toNat = hs.length := by rw [List.length_map, Int.toNat_natCast]
    refine ⟨by show 1 ≤ sizeLine; decide, fun p1 n1 => ⟨by show 1 ≤ sizeLine; decide, fun p2 n2 => ?_⟩⟩
    have n21 : p1 ≠ p2 := ne_of_none upd_same n2
    have s2 := (same_upd (o := .lst [.int 1]) n1).trans (same_upd (o := .lst [.int 0]) n2)
    refine ⟨_, rfl, a, _, rfl, .inl (s2.seq hS), p2, _, _, rfl, rfl, upd_same, by omega, by rw [List.length_map]; omega, ?_, fun p3 n3 => ?_⟩
    · rw [elen]
      show 1 * hs.length ≤ sizeLine
      exact sz63 (by omega)
    have n32 : p2 ≠ p3 := ne_of_none upd_same n3
    have n31 : p1 ≠ p3 := ne_of_none (by rw [upd_ne n21]; exact upd_same) n3
    rw [rep_flat, elen]
    refine ⟨p1, p3, _, _, rfl, rfl, by rw [upd_ne n31, upd_ne n21]; exact upd_same, upd_same, ?_, fun p n4 => ?_⟩
    · show 1 + (List.replicate hs.length (V.int 0)).length ≤ sizeLine
      rw [List.length_replicate]
      exact sz63 (by omega)
    have np : H p = none := (s2.trans (same_upd n3)).free n4
    have s4 := (s2.trans (same_upd n3)).trans (same_upd (o := .lst ([V.int 1] ++ List.replicate hs.length (V.int 0))) n4)
    refine ⟨_, rfl, a, _, rfl, s4.seq hS, for_enum (K := K) (a := a) (xs := hs.map V.int) (fun i σ H' => ∃ (u v t z : Option V), σ = [some (.ref a), some (.ref p), u, v, t, z] ∧ Same H H' ∧ H' p = some (.lst ((tab (cntF (hs.take i)) (hs.length + 1)).map V.int)))
      ⟨none, none, none, none, rfl, s4, ?_⟩ (fun i σ H' _ ⟨_, _, _, _, _, e, _⟩ => e.seq hS) ?_ ?_⟩
    · rw [upd_same, List.take_zero, cntF_nil, tab_f0, List.map_cons, List.map_replicate]
      rfl
    · rintro i y T σ H' hi ⟨u, v, t, z, rfl, sm, hp⟩ nT
      obtain ⟨h, rfl, hh⟩ := mapI_get hi
      have hlt : i < hs.length := (List.getElem?_eq_some_iff.mp hh).1
      have nTp : p ≠ T := ne_of_none hp nT
      refine ⟨T, _, rfl, SqT.of upd_same, rfl, _, _, rfl, _, _, rfl, rfl, ?_⟩
      have e1 : ((0 : Int) + ((((i : Nat) : Int) + 1 - 0).toNat : Nat) - 1) = (i : Int) := by omega
      have e2 : (((i : Nat) : Int) + 1 - 0).toNat = i + 1 := by omega
      refine ⟨_, rfl, _, _, rfl, rfl, _, rfl, by omega, by omega, by omega, by omega, ?_⟩
      rw [e1, e2]
      refine for_rangeC (fun j σ H' => ∃ (t z : Option V), σ = [some (.ref a), some (.ref p), some (.int (i : Int)), some (.int h), t, z] ∧ Same H H' ∧ H' p = some (.lst ((tab (mid (cntF (hs.take i)) h (i + 1) j) (hs.length + 1)).map V.int))) ⟨t, z, rfl, sm.trans (same_upd nT), ?_⟩ ?_ ?_
      · rw [upd_ne nTp, hp, mid_start2]
        intro k hk
        exact cntF_gt _ _ (by rw [List.length_take]; omega)
      · rintro j σ H2 hj ⟨t, z, rfl, sm2, hp2⟩
        obtain ⟨k, hk⟩ : ∃ k, k + 1 = i + 1 - j := ⟨i - j, by omega⟩
        have ek : (i : Int) + (j : Int) * (-1) = (k : Int) := by omega
        rw [ek]
        refine ⟨_, rfl, _, rfl, _, _, rfl, rfl, _, rfl, ite2 (fun c => ?_) (fun c => ?_)⟩
        · have c' : (k : Int) < h := of_decide_eq_true c
          have g1 : ((tab (mid (cntF (hs.take i)) h (i + 1) j) (hs.length + 1)).map V.int)[k + 1]? = some (.int (cntF (hs.take i) (k + 1))) := by
            refine mapI_at ?_
            rw [tab_get (by omega), mid_at (by omega)]
          have g0 : ((tab (mid (cntF (hs.take i)) h (i + 1) j) (hs.length + 1)).map V.int)[k]? = some (.int (cntF (hs.take i) k)) := by
            refine mapI_at ?_
            rw [tab_get (by omega), mid_at (by omega)]
          have b := G.b h (List.mem_of_getElem? hh)
          refine ⟨_, rfl, _, rfl, p, _, _, _, rfl, rfl, SqL.of hp2, atI_nat g0, _, rfl, _, rfl, _, _, rfl, rfl, _, _, rfl, rfl, ?_, ?_⟩
          · refine wide_mul (cnt_take G i k) (b := 210) ?_ (by decide) (by decide) (by decide)
            have h2 : (2 : Int) ^ 208 = ((2 ^ 208 : Nat) : Int) := rfl
            have h3 : (2 : Nat) ^ 210 = 2 ^ 208 * 4 := rfl
            omega
          · have ek1 : (k : Int) + 1 = ((k + 1 : Nat) : Int) := by omega
            refine ⟨_, rfl, _, rfl, _, _, rfl, rfl, p, _, _, _, rfl, rfl, SqL.of hp2, at_of ek1 g1, _, rfl, _, _, rfl, rfl, _, rfl, _, rfl, _, _, rfl, rfl, p, _, _, k + 1, rfl, rfl, hp2, ?_, ?_⟩
            · unfold ixN
              rw [List.length_map, tab_len, if_pos (by omega), if_pos (by omega)]
              congr 1
            · refine ⟨_, _, rfl, same_mut sm2 np, ?_⟩
              rw [upd_same, ← mid_set (by omega) hk c', List.map_set]
        · have c' : ¬ (k : Int) < h := fun z => c (decide_eq_true z)
          refine ⟨_, _, rfl, sm2, ?_⟩
          rw [hp2, mid_skip (by omega) hk c']
      · rintro σ H2 ⟨t, z, rfl, sm2, hp2⟩
        refine ⟨_, _, _, _, rfl, sm2, ?_⟩
        rw [hp2, mid_end, cntF_take hh]
    · rintro σ H' ⟨u, v, t, z, rfl, sm, hp⟩
      rw [List.length_map, List.take_length] at hp
      exact ⟨_, rfl, q H' p sm np hp⟩
end
end TS
namespace TS
open PySem PySem.Spec PyProof.Rows L2
theorem cut_to (xs : List V) (n : Nat) : cutV xs none (some (n : Int)) = xs.take n := by
  unfold cutV
  rw [HT.sIx_none, HT.sIx_nat, Nat.sub_zero]
  show (List.drop 0 xs).take (min n xs.length) = xs.take n
  rw [List.drop_zero, List.take_eq_take_iff]
  omega
theorem Good.of {n : Nat} {hs : List Int} (g : GoodS n hs) : Good hs := by
  have b : (10 : Int) ^ 59 + 1 ≤ 2 ^ 208 := by decide
  refine ⟨g.rise, g.pos, fun x hx => ?_, ?_⟩
  · have := g.low x hx
    omega
  · have := g.len
    omega
section
variable {P : Program} {w : World} {K : PySem.W.Frag} {mg : Str → Option Value} {base : Heap}
def spStairs (K : PySem.W.Frag) : Sp := fun vs H Q _ => ∃ (a : Addr) (ns : List Int), vs = [.ref a] ∧ IL K H a ns ∧
  ∀ hs H' p, GoodS ns.length hs → Same H H' → H p = none → H' p = some (.lst (hs.map V.int)) → Q (.ref p) H'
theorem ok_l_stairs {f fC fD : Addr} {fd fdC fdD : FuncData} {m : Nat} (B : Bl mg) (Dl_cell_at : Df P w K mg base "_law_cell_at" (m + 1) ["_law_script", "_law_k"] (spCellAt K) fC fdC)
    (Dl_draw : Df P w K mg base "_law_draw" (m + 1) ["_law_cell", "_law_k", "_law_many"] spDraw fD fdD)
    (F : Fun K "_law_stairs" "_law_stairs" s_l_stairs f fd) : FnOk P w K mg base CX0 (m + 1 + 1) f fd ["_law_script"] (spStairs K) := by
  refine F.ok sc_l_stairs (fun vs H Q E h => ?_) (fun cdv A outer s H vs Q E hr h => ?_)
  · obtain ⟨a, ns, rfl, _⟩ := h
    rfl
  · obtain ⟨a, ns, rfl, hS, q⟩ := h
    refine ⟨_, (pss_cons (ps_set (i := 0) sc_l_stairs.nd rfl (.inr rfl) (pe_slice sl_list (pv 0) po_none (po_some pe_int)))
 (pss_cons (ps_par (i := 1) (j := 2) rfl sc_l_stairs.nd rfl rfl (by decide) rfl rfl (pa_cons (pe_call Dl_draw.ok (hr.mono (Nat.le_refl _)) (by rfl) Dl_draw.g Dl_draw.kp Dl_draw.b .nil pass0 (pa_cons (pe_call Dl_cell_at.ok (hr.mono (Nat.le_refl _)) (by rfl) Dl_cell_at.g Dl_cell_at.kp Dl_cell_at.b .nil pass0 (pa_cons (pv 0) (pa_cons pe_int pa_nil))) (pa_cons pe_int (pa_cons pe_int pa_nil)))) (pa_cons (pe_callB call_len_seq (by rfl) B.len PySem.boot_len (pa_cons (pv 0) pa_nil)) pa_nil)) (by rfl))
 (pss_cons (ps_if (pt_cmpR op_eq (pv 1) pe_int (nomark _))
  (pss_one (ps_ret (pe_callB cr_sorted (by rfl) B.sorted (by decide +kernel) (pa_cons (pe_lc (own := [("_law_cell", 5)]) (g := gName 5) (tt := tYes) rfl sc_l_stairs.nd (pi_list (pv 0)) (blkOk_by (N := N_l_stairs) (sc := defScope s_l_stairs) (by decide +kernel)) (fun _ _ _ _ _ => pg_name (i := 5) sc_l_stairs.nd rfl (Or.inl rfl)) (fun _ _ _ _ _ => pts_nil) (fun _ _ _ _ _ => (pe_op op_mod (pe_op op_fdiv (pv 5) pe_int) (pe_op op_pow pe_int pe_int)))) pa_nil))))
  pss_nil)
 (pss_cons (ps_set (i := 3) sc_l_stairs.nd rfl (.inr rfl) (pe_ix ix_tup (pe_tup (pa_cons pe_int (pa_cons (pe_op op_add (pv 2) pe_int) (pa_cons pe_int (pa_cons (pe_op op_add (pe_op op_mul pe_int (pv 2)) pe_int) (pa_cons (pe_op op_add (pe_op op_fdiv (pv 2) pe_int) pe_int) pa_nil)))))) (pv 1) (fun _ _ => rfl)))
 (pss_cons (ps_set (i := 4) sc_l_stairs.nd rfl (.inl rfl) (pe_callB cr_sorted (by rfl) B.sorted (by decide +kernel) (pa_cons (pe_lc (own := [("_law_k", 6)]) (g := gName 6) (tt := tYes) rfl sc_l_stairs.nd (pi_range1 rfl B.range (pa_cons (pv 2) pa_nil)) (blkOk_by (N := N_l_stairs) (sc := defScope s_l_stairs) (by decide +kernel)) (fun _ _ _ _ _ => pg_name (i := 6) sc_l_stairs.nd rfl (Or.inl rfl)) (fun _ _ _ _ _ => pts_nil) (fun _ _ _ _ _ => (pe_call Dl_draw.ok (hr.mono (Nat.le_refl _)) (by rfl) Dl_draw.g Dl_draw.kp Dl_draw.b .nil pass0 (pa_cons (pe_ix ixLK (pv 0) (pv 6) (fun _ _ => rfl)) (pa_cons (pe_op op_add (pe_op op_mod (pv 6) pe_int) pe_int) (pa_cons (pv 3) pa_nil)))))) pa_nil)))
 (pss_cons (ps_if (pt_cmpR op_eq (pv 1) pe_int (nomark _))
  (pss_one (ps_setLc (i := 4) (own := [("_law_k", 6), ("_law_height", 7)]) (g := gTup K 2 (gCons (gName 6) (gCons (gName 7) (gNil)))) (tt := tYes) rfl sc_l_stairs.nd rfl rfl (sw_true rfl rfl rfl (by decide +kernel)) (pi_enum (by rfl) B.enumerate (pa_cons (pv 4) pa_nil)) (blkOk_by (N := N_l_stairs) (sc := defScope s_l_stairs) (by decide +kernel)) (fun _ _ _ _ _ => pg_tup rfl (pgs_cons (pg_name (i := 6) sc_l_stairs.nd rfl (.inl rfl)) (pgs_cons (pg_name (i := 7) sc_l_stairs.nd rfl (.inl rfl)) pgs_nil))) (fun _ _ _ _ _ => pts_nil) (fun _ _ _ _ _ => (pe_op op_add (pv 7) (pv 6)))))
  pss_nil)
 (pss_one (ps_ret (pv 4))))))))), ?_⟩
    refine ⟨_, rfl, (63 : Int), rfl, a, _, rfl, hS, fun c nc => ?_⟩
    rw [show cutV (ns.map V.int) none (some (63 : Int)) = (ns.take 63).map V.int by rw [List.map_take]; exact cut_to _ 63]
    obtain ⟨ms, hms⟩ : ∃ ms, ms = ns.take 63 := ⟨_, rfl⟩
    rw [← hms]
    have hml : ms.length = min 63 ns.length := by rw [hms, List.length_take]
    have s1 : Same H (upd H c (.lst (ms.map V.int))) := same_upd nc
    have hc : (upd H c (.lst (ms.map V.int))) c = some (.lst (ms.map V.int)) := upd_same
    revert s1 hc
    generalize upd H c (.lst (ms.map V.int)) = H1
    intro s1 hc
    refine ⟨_, rfl, c, ms, 0, rfl, il_of hc, _, 5, 6, rfl, by decide, by decide, fun H2 s2 => ?_⟩
    have hc2 : H2 c = some (.lst (ms.map V.int)) := s2 _ _ hc
    have sm := s1.trans s2
    have d0 := draw_nonneg (c := ms.getD 0 0) (k := 6) (m := 5) (by decide)
    have d1 := draw_lt (c := ms.getD 0 0) (k := 6) (m := 5) (by decide)
    revert d0 d1
    generalize draw (ms.getD 0 0) 6 5 = kind
    intro d0 d1
    have hml2 : (((ms.map V.int).length : Nat) : Int) = (ms.length : Int) := by rw [List.length_map]
    refine ⟨_, rfl, c, _, rfl, .inl (SqL.of hc2), _, _, rfl, ?_⟩
    rw [hml2]
    refine ⟨_, rfl, rfl, _, rfl, ite2 (fun e => ?_) (fun e => ?_)⟩
    · -- the numbers themselves
      refine ⟨_, rfl, c, rfl, ⟨_, SqL.of hc2⟩, fun L nL => lc_list (K := K) (a := c) (xs := ms.map V.int) (fun i H' => Same H2 H' ∧ H' L = some (.lst (((ms.map fun x => x / 5 % 10 ^ 59).take i).map V.int)))
        ⟨same_upd nL, upd_same⟩ (fun i H' _ p => p.1.seq (SqL.of hc2)) ?_ ?_⟩
      · rintro i x H' hi ⟨s3, hL⟩
        obtain ⟨n, rfl, hn⟩ := mapI_get hi
        refine ⟨rfl, _, rfl, _, _, rfl, rfl, ⟨by decide, by decide⟩, _, _, rfl, rfl, ⟨by decide, by decide, by decide⟩, _, _, rfl, rfl, (by show (0 : Int) < 10 ^ 59; decide), _, hL, ?_, same_mut s3 nL, ?_⟩
        · rw [List.length_map, List.length_take, List.length_map]
          exact sz63' (by omega)
        · rw [upd_same, List.take_add_one, List.getElem?_map, hn, List.map_append]
          rfl
      · rintro H' ⟨s3, hL⟩
        rw [List.length_map, List.take_of_length_le (by rw [List.length_map]; omega)] at hL
        refine ⟨L, _, rfl, SqL.of hL, by rw [List.length_map]; omega, fun hs p hp hw np => ?_⟩
        exact q hs _ p (goodS_mod hp hw hml) (sm.trans (s3.trans (same_upd np))) ((sm.trans s3).free np) upd_same
    · -- the menu
      obtain ⟨mo, m0, m3, hmo⟩ := most_menu (n := (ms.length : Int)) d0 d1 (by omega) (by omega)
      refine ⟨_, rfl, _, _, rfl, rfl, _, rfl, _, _, rfl, rfl, .inl ⟨by decide, by decide⟩, _, _, rfl, rfl, _, rfl, _, _, rfl, rfl, ⟨by decide, by decide⟩, _, _, rfl, rfl, by show 5 ≤ sizeLine; decide, fun t nt => ?_⟩
      have ht : SqT K (upd H2 t (.tup ([(1 : Int), (ms.length : Int) + 3, 4, 3 * (ms.length : Int) + 2, (ms.length : Int) / 2 + 2].map V.int))) t ([(1 : Int), (ms.length : Int) + 3, 4, 3 * (ms.length : Int) + 2, (ms.length : Int) / 2 + 2].map V.int) := SqT.of upd_same
      refine ⟨_, rfl, t, _, _, _, rfl, rfl, ht, at_of (j := kind.toNat) (by omega) (mapI_at hmo), ?_⟩
      have sm3 : Same H2 (upd H2 t (.tup ([(1 : Int), (ms.length : Int) + 3, 4, 3 * (ms.length : Int) + 2, (ms.length : Int) / 2 + 2].map V.int))) := same_upd nt
      show _
      revert sm3
      show Same H2 (upd H2 t (.tup ([V.int 1, V.int ((ms.length : Int) + 3), V.int 4, V.int (3 * (ms.length : Int) + 2), V.int ((ms.length : Int) / 2 + 2)]))) → _
      generalize upd H2 t (.tup ([V.int 1, V.int ((ms.length : Int) + 3), V.int 4, V.int (3 * (ms.length : Int) + 2), V.int ((ms.length : Int) / 2 + 2)])) = H3
      intro sm3
      have hc3 : H3 c = some (.lst (ms.map V.int)) := sm3 _ _ hc2
      have sm' := sm.trans sm3
      refine ⟨_, rfl, _, rfl, by omega, by omega, fun L nL => lc_range (lo := 0) (n := ((ms.length : Nat) : Int).toNat) (fun i H' => ∃ ds : List Int, Same H3 H' ∧ H' L = some (.lst (ds.map V.int)) ∧ ds.length = i ∧ ∀ x ∈ ds, 0 ≤ x ∧ x < mo)
        ⟨[], same_upd nL, upd_same, rfl, fun x hx => by cases hx⟩ ?_ ?_⟩
      · rintro i H' hi ⟨ds, s4, hL, hl, hd⟩
        have hi' : i < ms.length := by omega
        have hc4 : H' c = some (.lst (ms.map V.int)) := s4 _ _ hc3
        have ez : (0 : Int) + (i : Int) = (i : Int) := by omega
        have ek : ((i : Int)) % 5 + 1 = ((i % 5 + 1 : Nat) : Int) := by omega
        rw [ez]
        refine ⟨rfl, _, rfl, _, rfl, c, _, _, _, rfl, rfl, SqL.of hc4, atI_nat (mapI_at (getD_at hi')), _, rfl, _, _, rfl, rfl, (by show (0 : Int) < 5; decide), _, _, rfl, rfl, _, rfl, ms.getD i 0, mo, i % 5 + 1, ?_, m0, by omega, fun H5 s5 => ?_⟩
        · rw [← ek]
          rfl
        · refine ⟨_, s5 _ _ hL, ?_, ds ++ [draw (ms.getD i 0) (i % 5 + 1) mo], same_mut (s4.trans s5) nL, ?_, ?_, ?_⟩
          · rw [List.length_map]
            exact sz63' (by omega)
          · rw [upd_same, List.map_append]
            rfl
          · rw [List.length_append, List.length_singleton, hl]
          · intro x hx
            rcases List.mem_append.mp hx with hx | hx
            · exact hd x hx
            · rw [List.mem_singleton.mp hx]
              exact ⟨draw_nonneg m0, draw_lt m0⟩
      · rintro H' ⟨ds, s4, hL, hl, hd⟩
        rw [Int.toNat_natCast] at hl
        refine ⟨L, ds, rfl, SqL.of hL, by omega, fun hs p hp hw np => ?_⟩
        have good := goodS_draw (n := ns.length) hp hw m3 hd (hl.trans hml)
        have sp := sm'.trans (s4.trans (same_upd (o := .lst (hs.map V.int)) np))
        have hp5 : (upd H' p (.lst (hs.map V.int))) p = some (.lst (hs.map V.int)) := upd_same
        have np0 := (sm'.trans s4).free np
        revert sp hp5
        generalize upd H' p (.lst (hs.map V.int)) = H5
        intro sp hp5
        refine ⟨_, rfl, rfl, _, rfl, ite2 (fun e3 => ?_) (fun e3 => ?_)⟩
        · refine ⟨_, rfl, p, _, rfl, SqL.of hp5, fun L2 nL2 => lc_enum (K := K) (a := p) (xs := hs.map V.int) (fun i H' => Same H5 H' ∧ H' L2 = some (.lst ((lift hs i).map V.int)))
            ⟨same_upd nL2, upd_same⟩ (fun i H' _ p => p.1.seq (SqL.of hp5)) ?_ ?_⟩
          · rintro i x T H' hi ⟨s6, hL6⟩ nT
            obtain ⟨h, rfl, hh⟩ := mapI_get hi
            have hi' : i < hs.length := (List.getElem?_eq_some_iff.mp hh).1
            have lh := good.1.len
            refine ⟨T, _, rfl, SqT.of upd_same, rfl, _, _, rfl, _, _, rfl, rfl, rfl, _, rfl, _, rfl, _, _, rfl, rfl, _, (same_upd nT) _ _ hL6, ?_, same_mut (s6.trans (same_upd nT)) nL2, ?_⟩
            · rw [List.length_map, lift, tab_len]
              exact sz63' (by omega)
            · rw [upd_same, lift_succ hh, List.map_append]
              rfl
          · rintro H' ⟨s6, hL6⟩
            rw [List.length_map] at hL6
            exact ⟨_, rfl, q _ H' L2 good.2 (sp.trans s6) (sp.free nL2) hL6⟩
        · exact ⟨_, rfl, q hs H5 p good.1 sp np0 hp5⟩
end
end TS
namespace TS
open PySem PySem.Spec PyProof.Rows L2
theorem inV_ints (r : Int) (rows : List Int) : inV (.int r) (rows.map V.int) = rows.contains r := by
  unfold inV
  induction rows with
  | nil => rfl
  | cons x xs ih =>
    rw [List.map_cons, List.any_cons, ih, List.contains_cons]
    congr 1
    show (x == r) = (r == x)
    exact Bool.beq_comm
theorem flat_ints (rows : List Int) : (rows.map V.int).all flatV = true := by
  induction rows with
  | nil => rfl
  | cons x xs ih => rw [List.map_cons, List.all_cons, ih]; rfl
/-- some lists of ints, each at its own address, none at F -/
def Rws (H : Hp) (F : Addr) (ps : List (Addr × List Int)) : Prop := ∀ p ∈ ps, H p.1 = some (.lst (p.2.map V.int)) ∧ p.1 ≠ F
theorem Rws.same {H H' : Hp} {F : Addr} {ps : List (Addr × List Int)} (h : Rws H F ps) (s : Same H H') : Rws H' F ps := fun p hp => ⟨s _ _ (h p hp).1, (h p hp).2⟩
theorem Rws.app {H : Hp} {F : Addr} {ps qs : List (Addr × List Int)} (h : Rws H F ps) (k : Rws H F qs) : Rws H F (ps ++ qs) := fun p hp => by
  rcases List.mem_append.mp hp with hp | hp
  · exact h p hp
  · exact k p hp
abbrev refs (ps : List (Addr × List Int)) : List V := ps.map fun p => V.ref p.1
theorem refs_app (ps qs : List (Addr × List Int)) : refs (ps ++ qs) = refs ps ++ refs qs := List.map_append
theorem refs_at {ps : List (Addr × List Int)} {i : Nat} {x : V} (h : (refs ps)[i]? = some x) : ∃ q r, x = .ref q ∧ ps[i]? = some (q, r) := by
  rw [List.getElem?_map] at h
  cases e : ps[i]? with
  | none => rw [e] at h; cases h
  | some p => rw [e] at h; exact ⟨p.1, p.2, (Option.some.inj h).symm, rfl⟩
section
variable {P : Program} {w : World} {K : PySem.W.Frag} {mg : Str → Option Value} {base : Heap}
def spTried (K : PySem.W.Frag) : Sp := fun vs H Q _ => ∃ (a : Addr) (hs : List Int), vs = [.ref a] ∧ IL K H a hs ∧ hs.length ≤ 3 ∧ (∀ x ∈ hs, 0 ≤ x ∧ x ≤ 3) ∧
  ∀ H' p, Same H H' → H p = none → H' p = some (.lst ((tried hs).map V.int)) → Q (.ref p) H'
theorem ok_l_tried {f : Addr} {fd : FuncData} {m : Nat} (B : Bl mg) (F : Fun K "_law_tried" "_law_tried" s_l_tried f fd) : FnOk P w K mg base CX0 (m + 1) f fd ["_law_stairs_here"] (spTried K) := by
  refine F.ok sc_l_tried (fun vs H Q E h => ?_) (fun cdv A outer s H vs Q E hr h => ?_)
  · obtain ⟨a, hs, rfl, _⟩ := h
    rfl
  · obtain ⟨a, hs, rfl, hS, hl, hb, q⟩ := h
    refine ⟨_, (pss_cons (ps_par (i := 1) (j := 2) rfl sc_l_tried.nd rfl rfl (by decide) rfl rfl (pa_cons (pe_lst (pa_cons (pe_lst pa_nil) pa_nil)) (pa_cons (pe_op op_rep (pe_lst (pa_cons pe_int pa_nil)) (pe_op op_add (pe_callB call_len_seq (by rfl) B.len PySem.boot_len (pa_cons (pv 0) pa_nil)) pe_int)) pa_nil)) (by rfl))
 (pss_cons (ps_for PassesOwn.never rfl (pi_list (pv 0)) (pg_name (i := 3) sc_l_tried.nd rfl (.inl rfl))
  (pss_cons (ps_set (i := 4) sc_l_tried.nd rfl (.inl rfl) (pe_lst pa_nil))
 (pss_cons (ps_for PassesOwn.never rfl (pi_list (pv 1)) (pg_name (i := 5) sc_l_tried.nd rfl (.inr rfl))
  (pss_cons (ps_set (i := 4) sc_l_tried.nd rfl (.inl rfl) (pe_op op_cat (pv 4) (pe_lc (own := [("_law_row", 6)]) (g := gName 6) rfl sc_l_tried.nd (pi_range1 rfl B.range (pa_cons (pv 3) pa_nil)) (blkOk_by (N := N_l_tried) (sc := defScope s_l_tried) (by decide +kernel)) (fun _ _ _ _ _ => pg_name (i := 6) sc_l_tried.nd rfl (Or.inl rfl)) (fun _ _ _ _ _ => pts_one (pt_cmpR (notInK (K := K)) (pv 6) (pv 5) (by rfl))) (fun _ _ _ _ _ => (pe_op op_cat (pv 5) (pe_lst (pa_cons (pv 6) pa_nil)))))))
 (pss_one (ps_expr (pe_bm PySem.F.plainAttrs_list PySem.F.slot_list_append PySem.F.type_list_append mt_append (pv 4) (pa_cons (pv 5) pa_nil))))))
 (pss_one (ps_set (i := 1) sc_l_tried.nd rfl (.inl rfl) (pv 4))))))
 (pss_cons (ps_for PassesOwn.never rfl (pi_list (pv 1)) (pg_name (i := 5) sc_l_tried.nd rfl (.inr rfl))
  (pss_one (ps_asg (pe_op op_add (pe_ix ix_list (pv 2) (pe_callB call_len_seq (by rfl) B.len PySem.boot_len (pa_cons (pv 5) pa_nil)) (fun _ _ => rfl)) pe_int) (pg_sub (pv 2) (pe_callB call_len_seq (by rfl) B.len PySem.boot_len (pa_cons (pv 5) pa_nil)) set_list))))
 (pss_one (ps_ret (pv 2)))))), ?_⟩
    -- ways, found = [[]], [0] * (len(stairs) + 1)
    refine ⟨Nat.zero_le _, fun p0 n0 => ⟨by show 1 ≤ sizeLine; decide, fun p1 n1 => ⟨by show 1 ≤ sizeLine; decide, fun p2 n2 => ?_⟩⟩⟩
    have s1 := (same_upd (o := .lst []) n0).trans ((same_upd (o := .lst [.ref p0]) n1).trans (same_upd (o := .lst [.int 0]) n2))
    have n01 : p0 ≠ p1 := ne_of_none upd_same n1
    have n12 : p1 ≠ p2 := ne_of_none upd_same n2
    have n02 : p0 ≠ p2 := ne_of_none (by rw [upd_ne n01]; exact upd_same) n2
    have ek : (((hs.map V.int).length : Nat) : Int) + 1 = ((hs.length + 1 : Nat) : Int) := by rw [List.length_map]; omega
    refine ⟨_, rfl, a, _, rfl, .inl (s1.seq hS), _, _, rfl, rfl, p2, _, _, rfl, rfl, upd_same, by omega, by rw [ek]; omega, ?_, fun pF nF => ?_⟩
    · rw [ek]
      show 1 * (((hs.length + 1 : Nat) : Int)).toNat ≤ sizeLine
      exact sz63 (by omega)
    rw [ek, Int.toNat_natCast, rep_flat]
    have n0F : p0 ≠ pF := ne_of_none (by rw [upd_ne n02, upd_ne n01]; exact upd_same) nF
    have n1F : p1 ≠ pF := ne_of_none (by rw [upd_ne n12]; exact upd_same) nF
    refine ⟨_, _, rfl, ?_⟩
    have sH := s1.trans (same_upd (o := .lst (List.replicate (hs.length + 1) (.int 0))) nF)
    have npF : H pF = none := s1.free nF
    have hF : (upd (upd (upd (upd H p0 (.lst [])) p1 (.lst [.ref p0])) p2 (.lst [.int 0])) pF (.lst (List.replicate (hs.length + 1) (.int 0)))) pF = some (.lst (List.replicate (hs.length + 1) (.int 0))) := upd_same
    have hW : (upd (upd (upd (upd H p0 (.lst [])) p1 (.lst [.ref p0])) p2 (.lst [.int 0])) pF (.lst (List.replicate (hs.length + 1) (.int 0)))) p1 = some (.lst (refs [(p0, [])])) := by
      rw [upd_ne n1F, upd_ne n12]
      exact upd_same
    have hR : Rws (upd (upd (upd (upd H p0 (.lst [])) p1 (.lst [.ref p0])) p2 (.lst [.int 0])) pF (.lst (List.replicate (hs.length + 1) (.int 0)))) pF [(p0, [])] := fun p hp => by
      rw [List.mem_singleton.mp hp]
      refine ⟨?_, n0F⟩
      show _ = some (HO.lst [])
      rw [upd_ne n0F, upd_ne n02, upd_ne n01]
      exact upd_same
    revert sH hF hW hR
    generalize upd (upd (upd (upd H p0 (.lst [])) p1 (.lst [.ref p0])) p2 (.lst [.int 0])) pF (.lst (List.replicate (hs.length + 1) (.int 0))) = H0
    intro sH hF hW hR
    refine ⟨_, rfl, a, rfl, ⟨_, sH.seq hS⟩, for_list (K := K) (a := a) (xs := hs.map V.int) (fun i σ H' => ∃ (A : Addr) (ps : List (Addr × List Int)) (u v x y : Option V), σ = [some (.ref a), some (.ref A), some (.ref pF), u, v, x, y] ∧ Same H0 H' ∧ A ≠ pF ∧ H' A = some (.lst (refs ps)) ∧ Rws H' pF ps ∧ ps.map Prod.snd = trAll (hs.take i))
      ⟨p1, [(p0, [])], none, none, none, none, rfl, Same.refl _, n1F, hW, hR, rfl⟩ (fun i σ H' _ ⟨_, _, _, _, _, _, _, e, _⟩ => (sH.trans e).seq hS) ?_ ?_⟩
    · rintro i z σ H' hi ⟨A, ps, u, v, x, y, rfl, sm, nAF, hA, hRw, eps⟩
      obtain ⟨h, rfl, hh⟩ := mapI_get hi
      have hi3 : i < hs.length := (List.getElem?_eq_some_iff.mp hh).1
      have bh := hb h (List.mem_of_getElem? hh)
      have bnd := trAll_bnd (hs.take i) (fun x hx => (hb x (List.mem_of_mem_take hx)).2)
      rw [List.length_take, show min i hs.length = i by omega] at bnd
      have lps : ps.length ≤ 64 := by
        have e1 : ps.length = (trAll (hs.take i)).length := by rw [← eps, List.length_map]
        have e2 : 4 ^ i ≤ 4 ^ 3 := Nat.pow_le_pow_right (by decide) (by omega)
        have e3 : (4 : Nat) ^ 3 = 64 := rfl
        omega
      -- more = []
      refine ⟨Nat.zero_le _, fun m0 nm0 => ?_⟩
      have sm0 : Same H' (upd H' m0 (.lst [])) := same_upd nm0
      refine ⟨_, rfl, A, rfl, ⟨_, SqL.of (sm0 _ _ hA)⟩, for_list (K := K) (a := A) (xs := refs ps) (fun j σ H2 => ∃ (M : Addr) (qs : List (Addr × List Int)) (x y : Option V), σ = [some (.ref a), some (.ref A), some (.ref pF), some (.int h), some (.ref M), x, y] ∧ Same H' H2 ∧ M ≠ pF ∧ H2 M = some (.lst (refs qs)) ∧ Rws H2 pF qs ∧ qs.map Prod.snd = trIn h.toNat ((ps.map Prod.snd).take j))
        ⟨m0, [], x, y, rfl, sm0, (ne_of_none (sm _ _ hF) nm0).symm, upd_same, fun p hp => (by cases hp), rfl⟩ (fun j σ H2 _ ⟨_, _, _, _, _, e, _⟩ => e.seq (SqL.of hA)) ?_ ?_⟩
      · rintro j z σ H2 hj ⟨M, qs, x, y, rfl, sm2, nMF, hM, hRq, eqs⟩
        obtain ⟨qa, rows, rfl, hq⟩ := refs_at hj
        have hqm : (qa, rows) ∈ ps := List.mem_of_getElem? hq
        have hrow : H2 qa = some (.lst (rows.map V.int)) := sm2 _ _ (hRw _ hqm).1
        have hrF : qa ≠ pF := (hRw _ hqm).2
        have hws : (ps.map Prod.snd)[j]? = some rows := by rw [List.getElem?_map, hq]; rfl
        have lrow : rows.length ≤ 3 := by
          have e1 : rows ∈ trAll (hs.take i) := by rw [← eps]; exact List.mem_map.mpr ⟨_, hqm, rfl⟩
          have := bnd.2 _ e1
          omega
        have lqs : qs.length ≤ 4 * 64 := by
          have e1 : qs.length = (trIn h.toNat ((ps.map Prod.snd).take j)).length := by rw [← eqs, List.length_map]
          have e2 := trIn_len h.toNat ((ps.map Prod.snd).take j)
          have e3 : ((ps.map Prod.snd).take j).length ≤ 64 := by rw [List.length_take, List.length_map]; omega
          have e4 : (h.toNat + 1) * ((ps.map Prod.snd).take j).length ≤ 4 * 64 := Nat.mul_le_mul (by omega) e3
          omega
        -- more = more + [rows + [row] for row in range(h) if row not in rows]
        refine ⟨_, rfl, _, rfl, _, rfl, by omega, by omega, fun D nD => lc_range (lo := 0) (n := h.toNat) (fun k H3 => ∃ rs : List (Addr × List Int), Same H2 H3 ∧ H3 D = some (.lst (refs rs)) ∧ Rws H3 pF rs ∧ (∀ p ∈ rs, p.1 ≠ D) ∧ rs.map Prod.snd = extN rows k)
          ⟨[], same_upd nD, upd_same, fun p hp => (by cases hp), fun p hp => (by cases hp), rfl⟩ ?_ ?_⟩
        · rintro k H3 hk ⟨rs, sm3, hD, hRr, hnD, ers⟩
          have ez : (0 : Int) + (k : Int) = (k : Int) := by omega
          rw [ez]
          have hF3 : H3 pF = some (.lst (List.replicate (hs.length + 1) (.int 0))) := sm3 _ _ (sm2 _ _ (sm _ _ hF))
          have hrow3 := sm3 _ _ hrow
          have lrs : rs.length ≤ 3 := by
            have e1 : rs.length = (extN rows k).length := by rw [← ers, List.length_map]
            have := extN_len rows k
            omega
          refine ⟨rfl, _, rfl, _, rfl, qa, _, rfl, .inl (SqL.of hrow3), rfl, flat_ints rows, !rows.contains (k : Int), ?_, ?_⟩
          · show V.bl (if true = true then !inV (V.int (k : Int)) (rows.map V.int) else _) = V.bl _
            rw [if_pos rfl, inV_ints]
          · cases hc : rows.contains (k : Int) with
            | true =>
              refine iteF ?_
              exact ⟨rs, sm3, hD, hRr, hnD, by rw [ers, extN_succ_in hc]⟩
            | false =>
              refine iteT ?_
              refine ⟨_, rfl, _, rfl, by show 1 ≤ sizeLine; decide, fun t nt => ?_⟩
              have nqt : qa ≠ t := ne_of_none hrow3 nt
              refine ⟨qa, t, _, _, rfl, rfl, by rw [upd_ne nqt]; exact hrow3, upd_same, ?_, fun r nr => ?_⟩
              · rw [List.length_map]
                exact sz63 (by show rows.length + 1 ≤ 100000; omega)
              have nrt : r ≠ t := (ne_of_none upd_same nr).symm
              have nr3 : H3 r = none := (same_upd nt).free nr
              have nDt : D ≠ t := ne_of_none hD nt
              have nDr : D ≠ r := ne_of_none hD nr3
              have nFr : r ≠ pF := (ne_of_none hF3 nr3).symm
              have sm4 := (same_upd (o := .lst [V.int (k : Int)]) nt).trans (same_upd (o := .lst (rows.map V.int ++ [V.int (k : Int)])) nr)
              refine ⟨_, sm4 _ _ hD, ?_, rs ++ [(r, rows ++ [(k : Int)])], same_mut (sm3.trans sm4) nD, ?_, ?_, ?_, ?_⟩
              · rw [List.length_map]
                exact sz63' (by omega)
              · rw [upd_same, refs_app]
                rfl
              · refine Rws.app (fun p hp => ⟨?_, (hRr p hp).2⟩) (fun p hp => ?_)
                · rw [upd_ne (hnD p hp)]
                  exact sm4 _ _ (hRr p hp).1
                · rw [List.mem_singleton.mp hp]
                  refine ⟨?_, nFr⟩
                  show upd _ D _ r = _
                  rw [upd_ne nDr.symm, upd_same, List.map_append]
                  rfl
              · intro p hp
                rcases List.mem_append.mp hp with hp | hp
                · exact hnD p hp
                · rw [List.mem_singleton.mp hp]
                  exact nDr.symm
              · rw [List.map_append, ers, extN_succ_out hc]
                rfl
        · rintro H3 ⟨rs, sm3, hD, hRr, hnD, ers⟩
          have hM3 := sm3 _ _ hM
          have lrs : rs.length ≤ 3 := by
            have e1 : rs.length = (extN rows h.toNat).length := by rw [← ers, List.length_map]
            have := extN_len rows h.toNat
            omega
          refine ⟨M, D, _, _, rfl, rfl, hM3, hD, ?_, fun N nN => ?_⟩
          · rw [List.length_map, List.length_map]
            exact sz63 (by omega)
          have hF3 : H3 pF = some (.lst (List.replicate (hs.length + 1) (.int 0))) := sm3 _ _ (sm2 _ _ (sm _ _ hF))
          have nNF : N ≠ pF := (ne_of_none hF3 nN).symm
          have hrow3 := sm3 _ _ hrow
          have sm4 : Same H3 (upd H3 N (.lst (refs qs ++ refs rs))) := same_upd nN
          -- more.append(rows)
          refine ⟨_, rfl, .inl ⟨rfl, _, SqL.of upd_same⟩, _, rfl, N, _, _, rfl, rfl, upd_same, ?_, ?_⟩
          · rw [List.length_append, List.length_map, List.length_map]
            exact sz63' (by omega)
          · refine ⟨N, qs ++ rs ++ [(qa, rows)], _, _, rfl, ?_, nNF, ?_, ?_, ?_⟩
            · rw [upd_upd]
              exact (sm2.trans sm3).trans (same_upd nN)
            · rw [upd_upd, upd_same, refs_app, refs_app]
              rfl
            · rw [upd_upd]
              refine Rws.app (Rws.app ((hRq.same sm3).same (same_upd nN)) (hRr.same (same_upd nN))) (fun p hp => ?_)
              rw [List.mem_singleton.mp hp]
              exact ⟨same_upd nN _ _ hrow3, hrF⟩
            · rw [List.map_append, List.map_append, eqs, ers, trIn_take hws]
              rfl
      · rintro σ H2 ⟨M, qs, x, y, rfl, sm2, nMF, hM, hRq, eqs⟩
        rw [List.length_map, List.take_of_length_le (by rw [List.length_map]; exact Nat.le_refl _), eps, ← trAll_take hh] at eqs
        exact ⟨_, rfl, M, qs, _, _, x, y, rfl, sm.trans sm2, nMF, hM, hRq, eqs⟩
    · rintro σ H1 ⟨A, ps, u, v, x, y, rfl, sm, nAF, hA, hRw, eps⟩
      rw [List.length_map, List.take_length] at eps
      have bnd := trAll_bnd hs (fun x hx => (hb x hx).2)
      have hF1 := sm _ _ hF
      refine ⟨_, rfl, A, rfl, ⟨_, SqL.of hA⟩, for_list (K := K) (a := A) (xs := refs ps) (fun j σ H2 => ∃ (x : Option V), σ = [some (.ref a), some (.ref A), some (.ref pF), u, v, x, y] ∧ H2 = upd H1 pF (.lst ((tallyL (hs.length + 1) ((ps.map Prod.snd).take j)).map V.int)))
        ⟨x, rfl, ?_⟩ (fun j σ H2 _ ⟨_, _, e⟩ => by rw [e]; exact SqL.of (by rw [upd_ne nAF]; exact hA)) ?_ ?_⟩
      · rw [List.take_zero]
        show H1 = upd H1 pF (.lst ((List.replicate (hs.length + 1) (0 : Int)).map V.int))
        rw [List.map_replicate, upd_id hF1]
      · rintro j z σ H2 hj ⟨x, rfl, rfl⟩
        obtain ⟨qa, rows, rfl, hq⟩ := refs_at hj
        have hqm : (qa, rows) ∈ ps := List.mem_of_getElem? hq
        have hws : (ps.map Prod.snd)[j]? = some rows := by rw [List.getElem?_map, hq]; rfl
        have lrow : rows.length ≤ hs.length := bnd.2 _ (by rw [← eps]; exact List.mem_map.mpr ⟨_, hqm, rfl⟩)
        have hrow : (upd H1 pF (.lst ((tallyL (hs.length + 1) ((ps.map Prod.snd).take j)).map V.int))) qa = some (.lst (rows.map V.int)) := by
          rw [upd_ne (hRw _ hqm).2]
          exact (hRw _ hqm).1
        have el : (((rows.map V.int).length : Nat) : Int) = ((rows.length : Nat) : Int) := by rw [List.length_map]
        have hlt : rows.length < (tallyL (hs.length + 1) ((ps.map Prod.snd).take j)).length := by rw [tally_len]; omega
        refine ⟨_, rfl, _, rfl, qa, _, rfl, .inl (SqL.of hrow), pF, _, _, _, rfl, rfl, SqL.of upd_same, at_of el (mapI_at (getD_at hlt)), _, _, rfl, rfl, _, rfl, _, rfl, qa, _, rfl, .inl (SqL.of hrow), pF, _, _, rows.length, rfl, rfl, upd_same, ?_, ?_⟩
        · unfold ixN
          rw [el, List.length_map, if_pos (by omega), if_pos (by omega), Int.toNat_natCast]
        · refine ⟨_, rfl, ?_⟩
          rw [upd_upd, tally_take hws]
          unfold addOne
          rw [List.map_set]
      · rintro σ H2 ⟨x, rfl, rfl⟩
        rw [List.length_map, List.take_of_length_le (by rw [List.length_map]; exact Nat.le_refl _), eps]
        exact ⟨_, rfl, q _ pF (same_mut (sH.trans sm) npF) npF upd_same⟩
end
end TS
namespace TS
open PySem PySem.Spec PyProof.Rows L2
theorem Df.mono {P : Program} {w : World} {K : PySem.W.Frag} {mg : Str → Option Value} {base : Heap} {x : Str} {j k : Nat} {ps : List Str} {sp : Sp} {f : Addr} {fd : FuncData} (D : Df P w K mg base x j ps sp f fd) (h : j ≤ k) : Df P w K mg base x k ps sp f fd :=
  ⟨D.ok.mono h, D.g, D.kp, D.b⟩
theorem Good.take {hs : List Int} (g : Good hs) (n : Nat) : Good (hs.take n) := by
  refine ⟨g.rise.take n, g.pos.take n, fun x hx => g.low x (List.mem_of_mem_take hx), ?_⟩
  have := g.len
  rw [List.length_take]
  omega
theorem Good.front {hs : List Int} (g : Good hs) : Good hs.dropLast := by
  rw [List.dropLast_eq_take]
  exact g.take _
theorem Good.nil : Good [] := ⟨fun i j x y _ hx _ => (by simp at hx), fun x hx => (by simp at hx), fun x hx => (by simp at hx), by decide⟩
theorem cut_front (xs : List V) : cutV xs none (some (-1)) = xs.dropLast := by
  unfold cutV
  rw [HT.sIx_none, List.dropLast_eq_take, Nat.sub_zero, List.drop_zero]
  congr 1
  unfold HT.sIx
  show (if (-1 : Int) < 0 then (-1 + (xs.length : Int)).toNat else min (-1 : Int).toNat xs.length) = xs.length - 1
  rw [if_pos (by decide)]
  omega
section
variable {P : Program} {w : World} {K : PySem.W.Frag} {mg : Str → Option Value} {base : Heap}
def spLaw (K : PySem.W.Frag) : Sp := fun vs H Q _ => ∃ (a : Addr) (ns : List Int), vs = [.ref a] ∧ SqL K H a (ns.map V.int) ∧ ns.length ≤ 63 ∧ ∀ H', Q (.bl true) H'
theorem ok_law {f f1 f2 f3 f4 f5 f6 f7 f8 : Addr} {fd d1 d2 d3 d4 d5 d6 d7 d8 : FuncData} (B : Bl mg)
    (Dl_cell_at : Df P w K mg base "_law_cell_at" 1 ["_law_script", "_law_k"] (spCellAt K) f1 d1)
    (Dl_draw : Df P w K mg base "_law_draw" 1 ["_law_cell", "_law_k", "_law_many"] spDraw f2 d2)
    (Dl_stairs : Df P w K mg base "_law_stairs" 2 ["_law_script"] (spStairs K) f3 d3)
    (Dl_counts : Df P w K mg base "_law_counts" 1 ["_law_stairs_here"] (spLCounts K) f4 d4)
    (Dl_whole : Df P w K mg base "_law_whole" 1 ["_law_number"] spWhole f5 d5)
    (Dl_tried : Df P w K mg base "_law_tried" 1 ["_law_stairs_here"] (spTried K) f6 d6)
    (Dcounts : Df P w K mg base "counts" 4 ["stairs"] (spCnts K) f7 d7)
    (Dfilled : Df P w K mg base "filled" 4 ["stairs", "more"] spFilled f8 d8)
    (F : Fun K "law" "law" s_law f fd) : FnOk P w K mg base CX0 5 f fd ["_law_script"] (spLaw K) := by
  refine F.ok sc_law (fun vs H Q E h => ?_) (fun cdv A outer s H vs Q E hr h => ?_)
  · obtain ⟨a, ns, rfl, _⟩ := h
    rfl
  · obtain ⟨a, ns, rfl, hS, hlen, q⟩ := h
    refine ⟨_, (pss_cons (ps_set (i := 1) sc_law.nd rfl (.inl rfl) (pe_call Dl_stairs.ok (hr.mono (by decide)) (by rfl) Dl_stairs.g Dl_stairs.kp Dl_stairs.b .nil pass0 (pa_cons (pv 0) pa_nil)))
 (pss_cons (ps_par3 (i := 2) (j := 3) (l := 4) rfl sc_law.nd rfl rfl rfl (by decide) (by decide) (by decide) rfl rfl rfl (pa_cons (pe_call Dl_counts.ok (hr.mono (by decide)) (by rfl) Dl_counts.g Dl_counts.kp Dl_counts.b .nil pass0 (pa_cons (pv 1) pa_nil)) (pa_cons (pe_callB call_len_seq (by rfl) B.len PySem.boot_len (pa_cons (pv 1) pa_nil)) (pa_cons (pe_callTy call_list_of (by rfl) B.list (by decide +kernel) (pa_cons (pv 1) pa_nil)) pa_nil))) (by rfl))
 (pss_cons (ps_for PassesOwn.never rfl (pi_range1 rfl B.range (pa_cons pe_int pa_nil)) (pg_name (i := 5) sc_law.nd rfl (.inl rfl))
  (pss_cons (ps_set (i := 6) sc_law.nd rfl (.inl rfl) (pe_call Dcounts.ok (hr.mono (by decide)) (by rfl) Dcounts.g Dcounts.kp Dcounts.b .nil pass0 (pa_cons (pv 4) pa_nil)))
 (pss_cons (ps_if (PW.pt (pw_or (pt_not (pt_val (pe_callB call_isi (by rfl) B.isinstance (by decide +kernel) (pa_cons (pv 6) (pa_cons (pe_bltn (v := .ty "list") (by rfl) B.list PyProof.Rows.boot_list rfl) pa_nil))))) (pw_or (pt_cmpR (op_neD hr.units) (pv 6) (pv 2) (nomark _)) (pw_or1 (pt_not (pt_val (pe_callB (cr_all rfl) (by rfl) B.all (by decide +kernel) (pa_cons (pe_lc (own := [("_law_one", 14)]) (g := gName 14) (tt := tYes) rfl sc_law.nd (pi_list (pv 6)) (blkOk_by (N := N_law) (sc := defScope s_law) (by decide +kernel)) (fun _ _ _ _ _ => pg_name (i := 14) sc_law.nd rfl (Or.inl rfl)) (fun _ _ _ _ _ => pts_nil) (fun _ _ _ _ _ => (pe_call Dl_whole.ok (hr.mono (by decide)) (by rfl) Dl_whole.g Dl_whole.kp Dl_whole.b .nil pass0 (pa_cons (pv 14) pa_nil)))) pa_nil))))))))
  (pss_one (ps_ret pe_bl))
  pss_nil)
 (pss_one (ps_expr (pe_bm PySem.F.plainAttrs_list PySem.F.slot_list_append PySem.F.type_list_append mt_append (pv 6) (pa_cons pe_int pa_nil)))))))
 (pss_cons (ps_set (i := 7) sc_law.nd rfl (.inl rfl) (pe_call Dl_draw.ok (hr.mono (by decide)) (by rfl) Dl_draw.g Dl_draw.kp Dl_draw.b .nil pass0 (pa_cons (pe_call Dl_cell_at.ok (hr.mono (by decide)) (by rfl) Dl_cell_at.g Dl_cell_at.kp Dl_cell_at.b .nil pass0 (pa_cons (pv 0) (pa_cons pe_int pa_nil))) (pa_cons pe_int (pa_cons (pe_op op_add (pe_op op_mul pe_int (pv 3)) pe_int) pa_nil)))))
 (pss_cons (ps_for PassesOwn.never rfl (pi_tup (pe_tup (pa_cons pe_int (pa_cons pe_int (pa_cons pe_int (pa_cons (pv 3) (pa_cons (pv 7) (pa_cons (pe_op op_mod (pe_call Dl_cell_at.ok (hr.mono (by decide)) (by rfl) Dl_cell_at.g Dl_cell_at.kp Dl_cell_at.b .nil pass0 (pa_cons (pv 0) (pa_cons pe_int pa_nil))) (pe_op op_pow pe_int pe_int)) pa_nil)))))))) (pg_name (i := 8) sc_law.nd rfl (.inl rfl))
  (pss_cons (ps_asg (pe_tup (pa_cons pe_int (pa_cons pe_int pa_nil))) (pg_tup rfl (pgs_cons (pg_name (i := 9) sc_law.nd rfl (.inl rfl)) (pgs_cons (pg_name (i := 10) sc_law.nd rfl (.inl rfl)) pgs_nil))))
 (pss_cons (ps_for PassesOwn.never rfl (pi_range1 rfl B.range (pa_cons (pe_op op_add (pv 3) pe_int) pa_nil)) (pg_name (i := 11) sc_law.nd rfl (.inl rfl))
  (pss_cons (ps_set (i := 9) sc_law.nd rfl (.inl rfl) (pe_op op_add (pv 9) (pe_op op_mulW (pe_ix ix_list (pv 2) (pe_op op_sub (pv 3) (pv 11)) (fun _ _ => rfl)) (pv 10))))
 (pss_one (ps_set (i := 10) sc_law.nd rfl (.inl rfl) (pe_op op_mulW (pv 10) (pe_op op_sub (pv 8) (pv 11)))))))
 (pss_cons (ps_set (i := 12) sc_law.nd rfl (.inl rfl) (pe_call Dfilled.ok (hr.mono (by decide)) (by rfl) Dfilled.g Dfilled.kp Dfilled.b .nil pass0 (pa_cons (pv 4) (pa_cons (pv 8) pa_nil))))
 (pss_one (ps_if (PW.pt (pw_or (pt_not (pt_val (pe_call Dl_whole.ok (hr.mono (by decide)) (by rfl) Dl_whole.g Dl_whole.kp Dl_whole.b .nil pass0 (pa_cons (pv 12) pa_nil)))) (pw_or (pt_cmpR op_ne (pv 12) (pv 9) (nomark _)) (pw_or1 (pt_cmpR (op_neD hr.units) (pv 4) (pv 1) (nomark _))))))
  (pss_one (ps_ret pe_bl))
  pss_nil))))))
 (Evl.pss_cut (ps_if (pt_cmpR (op_neD hr.units) (pv 4) (pe_lst pa_nil) (nomark _))
  (pss_one (ps_expr (pe_bm0 PySem.F.plainAttrs_list PySem.F.slot_list_pop PySem.F.type_list_pop mt_pop (pv 4))))
  pss_nil)
 (pss_cons (ps_if (pt_cmpR (op_neD hr.units) (pe_call Dcounts.ok (hr.mono (by decide)) (by rfl) Dcounts.g Dcounts.kp Dcounts.b .nil pass0 (pa_cons (pv 4) pa_nil)) (pe_call Dl_counts.ok (hr.mono (by decide)) (by rfl) Dl_counts.g Dl_counts.kp Dl_counts.b .nil pass0 (pa_cons (pe_slice sl_list (pv 1) po_none (po_some (pe_un un_neg pe_int))) pa_nil)) (nomark _))
  (pss_one (ps_ret pe_bl))
  pss_nil)
 (pss_cons (ps_set (i := 13) sc_law.nd rfl (.inl rfl) (pe_callB cr_sorted (by rfl) B.sorted (by decide +kernel) (pa_cons (pe_lc (own := [("_law_height", 15)]) (g := gName 15) (tt := tYes) rfl sc_law.nd (pi_list (pe_slice sl_list (pv 1) po_none (po_some pe_int))) (blkOk_by (N := N_law) (sc := defScope s_law) (by decide +kernel)) (fun _ _ _ _ _ => pg_name (i := 15) sc_law.nd rfl (Or.inl rfl)) (fun _ _ _ _ _ => pts_nil) (fun _ _ _ _ _ => (pe_op op_mod (pv 15) pe_int))) pa_nil)))
 (pss_cons (ps_if (pt_cmpR (op_neD hr.units) (pe_call Dcounts.ok (hr.mono (by decide)) (by rfl) Dcounts.g Dcounts.kp Dcounts.b .nil pass0 (pa_cons (pv 13) pa_nil)) (pe_call Dl_tried.ok (hr.mono (by decide)) (by rfl) Dl_tried.g Dl_tried.kp Dl_tried.b .nil pass0 (pa_cons (pv 13) pa_nil)) (nomark _))
  (pss_one (ps_ret pe_bl))
  pss_nil)
 (pss_one (ps_ret (pe_and (pe_cmpR (op_eqD hr.units) (pe_call Dcounts.ok (hr.mono (by decide)) (by rfl) Dcounts.g Dcounts.kp Dcounts.b .nil pass0 (pa_cons (pe_lst pa_nil) pa_nil)) (pe_lst (pa_cons pe_int pa_nil)) (nomark _)) (pe_one (pe_cmpR op_eq (pe_call Dfilled.ok (hr.mono (by decide)) (by rfl) Dfilled.g Dfilled.kp Dfilled.b .nil pass0 (pa_cons (pe_lst pa_nil) (pa_cons pe_int pa_nil))) pe_int (nomark _))))))))))))))), ?_⟩
    -- stairs, due, many, handed
    refine ⟨_, rfl, a, ns, rfl, hS, fun hs H1 p gs s1 np hp => ?_⟩
    have G := Good.of gs
    have hn : hs.length ≤ 63 := by have := gs.len; omega
    refine ⟨_, rfl, p, hs, rfl, il_of hp, G, fun H2 pd s2 npd hpd => ?_⟩
    have el : (((hs.map V.int).length : Nat) : Int) = ((hs.length : Nat) : Int) := by rw [List.length_map]
    have hp2 := s2 _ _ hp
    refine ⟨_, rfl, p, _, rfl, .inl (SqL.of hp2), _, rfl, p, _, rfl, .inl (SqL.of hp2), fun ph nph => ?_⟩
    rw [el]
    refine ⟨_, _, _, rfl, ?_⟩
    have s3 := s1.trans (s2.trans (same_upd (o := .lst (hs.map V.int)) nph))
    have hph : (upd H2 ph (.lst (hs.map V.int))) ph = some (.lst (hs.map V.int)) := upd_same
    have hp3 : (upd H2 ph (.lst (hs.map V.int))) p = some (.lst (hs.map V.int)) := same_upd nph _ _ hp2
    have hpd3 := same_upd (o := .lst (hs.map V.int)) nph _ _ hpd
    have npph : p ≠ ph := ne_of_none hp2 nph
    have npdph : pd ≠ ph := ne_of_none hpd nph
    have nph1 : H ph = none := (s1.trans s2).free nph
    revert s3 hph hp3 hpd3
    generalize upd H2 ph (.lst (hs.map V.int)) = H3
    intro s3 hph hp3 hpd3
    have hS3 := s3.seq hS
    -- for again in range(2)
    refine ⟨_, rfl, by decide, by decide, for_range (lo := 0) (n := 2) (fun i σ H' => ∃ (x5 x6 x14 : Option V), σ = [some (.ref a), some (.ref p), some (.ref pd), some (.int (hs.length : Int)), some (.ref ph), x5, x6, none, none, none, none, none, none, none, x14, none] ∧ Same H3 H') ⟨none, none, none, rfl, Same.refl _⟩ ?_ ?_⟩
    · rintro i σ H4 hi ⟨x5, x6, x14, rfl, s4⟩
      refine ⟨_, rfl, ph, hs, rfl, s4 _ _ hph, G, fun H5 pf s5 npf hpf => ?_⟩
      refine ⟨_, rfl, _, _, _, _, true, rfl, .ty _, .base (.lst hpf), kit_ty (by decide +kernel), true, rfl, iteF ?_⟩
      refine ⟨_, rfl, _, rfl, _, _, dp_il (il_of hpf), dp_il (il_of ((s4.trans s5) _ _ hpd3)), shaped_ints _, shaped_ints _, _, rfl, ?_⟩
      rw [eqv_ints, decide_eq_true rfl]
      refine iteF ?_
      refine ⟨_, rfl, pf, rfl, ⟨_, SqL.of hpf⟩, fun D nD => lc_list (K := K) (a := pf) (xs := (tab (cntF hs) (hs.length + 1)).map V.int) (fun j H' => Same H5 H' ∧ H' D = some (.lst ((List.replicate j true).map V.bl)))
        ⟨same_upd nD, upd_same⟩ (fun j H' _ e => e.1.seq (SqL.of hpf)) ?_ ?_⟩
      · rintro j x H' hj ⟨s6, hD⟩
        obtain ⟨n, rfl, hn'⟩ := mapI_get hj
        have hjl : j < hs.length + 1 := by
          have := (List.getElem?_eq_some_iff.mp hn').1
          rw [tab_len] at this
          exact this
        refine ⟨rfl, _, rfl, n, rfl, _, hD, ?_, same_mut s6 nD, ?_⟩
        · rw [List.length_map, List.length_replicate]
          exact sz63' (by omega)
        · rw [upd_same, List.replicate_succ', List.map_append]
          rfl
      · rintro H6 ⟨s6, hD⟩
        have eall : (List.replicate ((tab (cntF hs) (hs.length + 1)).map V.int).length true).all id = true := by simp
        refine ⟨D, _, rfl, SqL.of hD, true, ?_, iteF ?_⟩
        · rw [eall]
        · have hpf6 := s6 _ _ hpf
          refine ⟨_, rfl, .inl ⟨rfl, _, SqL.of hpf6⟩, pf, _, _, rfl, rfl, hpf6, ?_, ?_⟩
          · rw [List.length_map, tab_len]
            exact sz63' (by omega)
          · exact ⟨_, _, _, rfl, s4.trans (same_mut (s5.trans s6) npf)⟩
    · rintro σ H4 ⟨x5, x6, x14, rfl, s4⟩
      -- drawn
      refine ⟨_, rfl, a, ns, 1, rfl, s4.seq hS3, _, rfl, _, _, rfl, rfl, .inl ⟨by decide, by decide⟩, _, _, rfl, rfl, ns.getD 1 0, 2 * (hs.length : Int) + 3, 3, rfl, by omega, by decide, fun H5 s5 => ?_⟩
      have d0 := draw_nonneg (c := ns.getD 1 0) (k := 3) (m := 2 * (hs.length : Int) + 3) (by omega)
      have d1 := draw_lt (c := ns.getD 1 0) (k := 3) (m := 2 * (hs.length : Int) + 3) (by omega)
      revert d0 d1
      generalize draw (ns.getD 1 0) 3 (2 * (hs.length : Int) + 3) = dr
      intro d0 d1
      -- for more in (..)
      refine ⟨_, rfl, _, rfl, _, rfl, a, ns, 2, rfl, (s4.trans s5).seq hS3, _, _, rfl, rfl, ⟨by decide, by decide, by decide⟩, _, _, rfl, rfl, (by show (0 : Int) < 10 ^ 40; decide), by show 6 ≤ sizeLine; decide, fun t nt => ?_⟩
      have mok := more_ok (n := (hs.length : Int)) (d := dr) (c := ns.getD 2 0) (by omega) ⟨d0, d1⟩
      obtain ⟨mores, emo⟩ : ∃ mores, mores = [(0 : Int), 1, 2, (hs.length : Int), dr, ns.getD 2 0 % 10 ^ 40] := ⟨_, rfl⟩
      rw [← emo] at mok
      have hT : (upd H5 t (.tup ([(0 : Int), 1, 2, (hs.length : Int), dr, ns.getD 2 0 % 10 ^ 40].map V.int))) t = some (.tup (mores.map V.int)) := by rw [emo]; exact upd_same
      have s6 : Same H3 (upd H5 t (.tup ([(0 : Int), 1, 2, (hs.length : Int), dr, ns.getD 2 0 % 10 ^ 40].map V.int))) := s4.trans (s5.trans (same_upd nt))
      refine ⟨t, rfl, ⟨_, SqT.of hT⟩, for_tup (K := K) (a := t) (xs := mores.map V.int) (fun i σ H' => ∃ (y8 y9 y10 y11 y12 : Option V), σ = [some (.ref a), some (.ref p), some (.ref pd), some (.int (hs.length : Int)), some (.ref ph), x5, x6, some (.int dr), y8, y9, y10, y11, y12, none, x14, none] ∧ Same H3 H' ∧ H' t = some (.tup (mores.map V.int)))
        ⟨none, none, none, none, none, rfl, s6, hT⟩ (fun i σ H' _ ⟨_, _, _, _, _, _, _, e⟩ => SqT.of e) ?_ ?_⟩
      · rintro i x σ H7 hi ⟨y8, y9, y10, y11, y12, rfl, s7, hT7⟩
        obtain ⟨mo, rfl, hmo⟩ := mapI_get hi
        obtain ⟨m0, m1⟩ := mok mo (List.mem_of_getElem? hmo)
        refine ⟨by show 2 ≤ sizeLine; decide, fun t2 nt2 => ⟨t2, _, rfl, SqT.of upd_same, rfl, _, _, rfl, _, _, rfl, rfl, ?_⟩⟩
        have s37 := s7.trans (same_upd (o := .tup [V.int 0, V.int 1]) nt2)
        have hT8 := same_upd (o := .tup [V.int 0, V.int 1]) nt2 _ _ hT7
        revert s37 hT8
        generalize upd H7 t2 (.tup [V.int 0, V.int 1]) = H'
        intro s37 hT8
        have hpd7 := s37 _ _ hpd3
        refine ⟨_, rfl, _, _, rfl, rfl, _, rfl, by omega, by omega, for_range (lo := 0) (n := ((hs.length : Int) + 1).toNat) (fun l σ H2 => ∃ (z11 : Option V), σ = [some (.ref a), some (.ref p), some (.ref pd), some (.int (hs.length : Int)), some (.ref ph), x5, x6, some (.int dr), some (.int mo), some (.int (sm (fun left => cntF hs (hs.length - left) * ff mo left) l)), some (.int (ff mo l)), z11, y12, none, x14, none] ∧ H2 = H')
          ⟨y11, rfl, rfl⟩ ?_ ?_⟩
        · rintro l σ H2 hl ⟨z11, rfl, rfl⟩
          have ez : (0 : Int) + (l : Int) = (l : Int) := by omega
          rw [ez]
          have hl' : l ≤ hs.length := by omega
          have g1 : ((tab (cntF hs) (hs.length + 1)).map V.int)[hs.length - l]? = some (.int (cntF hs (hs.length - l))) := mapI_at (tab_get (by omega))
          refine ⟨_, rfl, _, rfl, _, rfl, _, rfl, _, _, rfl, rfl, pd, _, _, _, rfl, rfl, SqL.of hpd7, at_of (by omega) g1, _, rfl, _, _, rfl, rfl, ?_, _, _, rfl, rfl, ?_⟩
          · exact wide_mul (cnt_abs G.b _) (ff_abs m0 m1 l (by omega)) (by omega) (by omega) (by omega)
          · refine ⟨_, rfl, _, rfl, _, rfl, _, _, rfl, rfl, _, _, rfl, rfl, ?_, ?_⟩
            · refine wide_mul (ff_abs m0 m1 l (by omega)) (b := 210) ?_ (by omega) (by decide) (by omega)
              have h2 : (2 : Int) ^ 208 = ((2 ^ 208 : Nat) : Int) := rfl
              have h3 : (2 : Nat) ^ 210 = 2 ^ 208 * 4 := rfl
              have h4 : 1000 ≤ (2 : Nat) ^ 208 := by decide
              omega
            · exact ⟨_, rfl, rfl⟩
        · rintro σ H2 ⟨z11, rfl, rfl⟩
          have en : ((hs.length : Int) + 1).toNat = hs.length + 1 := by omega
          rw [en, gjw_rev G.rise G.pos mo]
          refine ⟨_, rfl, _, rfl, ph, hs, mo, rfl, s37 _ _ hph, G, m0, m1, fun H8 s8 => ?_⟩
          have hp8 := (s37.trans s8) _ _ hp3
          have hph8 := (s37.trans s8) _ _ hph
          refine ⟨_, rfl, _, rfl, true, rfl, iteF ?_⟩
          refine ⟨_, rfl, _, rfl, rfl, _, rfl, ?_⟩
          rw [decide_eq_true rfl]
          refine iteF ?_
          refine ⟨_, rfl, _, rfl, _, _, dp_il (il_of hph8), dp_il (il_of hp8), shaped_ints _, shaped_ints _, _, rfl, ?_⟩
          rw [eqv_ints, decide_eq_true rfl]
          refine iteF ?_
          exact ⟨_, _, _, _, _, rfl, s37.trans s8, s8 _ _ hT8⟩
      · rintro σ H' ⟨y8, y9, y10, y11, y12, rfl, s37, _⟩
        have hp7 := s37 _ _ hp3
        have hph7 := s37 _ _ hph
        -- if handed != []: handed.pop()
        refine ⟨fun σ H2 => σ = [some (.ref a), some (.ref p), some (.ref pd), some (.int (hs.length : Int)), some (.ref ph), x5, x6, some (.int dr), y8, y9, y10, y11, y12, none, x14, none] ∧ H2 p = some (.lst (hs.map V.int)) ∧ H2 ph = some (.lst (hs.dropLast.map V.int)), ?_, ?_⟩
        · refine ⟨_, rfl, Nat.zero_le _, fun l nl => ?_⟩
          have hl0 : (upd H' l (.lst [])) l = some (.lst (([] : List Int).map V.int)) := upd_same
          have sl : Same H' (upd H' l (.lst [])) := same_upd nl
          refine ⟨_, _, dp_il (il_of (sl _ _ hph7)), dp_il (il_of hl0), shaped_ints _, shaped_ints _, _, rfl, ?_⟩
          rw [eqv_ints]
          by_cases e : hs = []
          · rw [decide_eq_true e]
            refine iteF ⟨rfl, sl _ _ hp7, ?_⟩
            have := sl _ _ hph7
            subst e
            exact this
          · rw [decide_eq_false e]
            refine iteT ?_
            have hz : (hs.map V.int)[(hs.map V.int).length - 1]? = some (.int (hs.getD (hs.length - 1) 0)) := by
              rw [List.length_map]
              refine mapI_at (getD_at ?_)
              have : 0 < hs.length := List.length_pos_iff.mpr e
              omega
            refine ⟨_, rfl, .inl ⟨rfl, _, SqL.of (sl _ _ hph7)⟩, ph, _, _, rfl, rfl, sl _ _ hph7, hz, rfl, ?_, ?_⟩
            · rw [upd_ne npph]
              exact sl _ _ hp7
            · rw [upd_same, List.map_dropLast]
        · rintro σ H2 ⟨rfl, hp8, hph8⟩
          -- counts(handed) != _law_counts(stairs[:-1])
          refine ⟨_, rfl, ph, _, rfl, hph8, G.front, fun H9 c1 s9 nc1 hc1 => ?_⟩
          have hp9 := s9 _ _ hp8
          refine ⟨_, rfl, (1 : Int), rfl, (-1 : Int), rfl, p, _, rfl, SqL.of hp9, fun c2 nc2 => ?_⟩
          rw [cut_front, ← List.map_dropLast]
          have sc2 : Same H9 (upd H9 c2 (.lst (hs.dropLast.map V.int))) := same_upd nc2
          refine ⟨c2, _, rfl, il_of upd_same, G.front, fun H10 c3 s10 nc3 hc3 => ?_⟩
          have s910 := sc2.trans s10
          refine ⟨_, _, dp_il (il_of (s910 _ _ hc1)), dp_il (il_of hc3), shaped_ints _, shaped_ints _, _, rfl, ?_⟩
          rw [eqv_ints, decide_eq_true rfl]
          refine iteF ?_
          have hp10 := s910 _ _ hp9
          -- few
          refine ⟨_, rfl, (3 : Int), rfl, p, _, rfl, SqL.of hp10, fun c4 nc4 => ?_⟩
          rw [show cutV (hs.map V.int) none (some (3 : Int)) = (hs.take 3).map V.int by rw [List.map_take]; exact cut_to _ 3]
          have hc4 : (upd H10 c4 (.lst ((hs.take 3).map V.int))) c4 = some (.lst ((hs.take 3).map V.int)) := upd_same
          refine ⟨c4, rfl, ⟨_, SqL.of hc4⟩, fun D nD => lc_list (K := K) (a := c4) (xs := (hs.take 3).map V.int) (fun i H' => Same (upd H10 c4 (.lst ((hs.take 3).map V.int))) H' ∧ H' D = some (.lst ((((hs.take 3).map fun x => x % 4).take i).map V.int)))
            ⟨same_upd nD, upd_same⟩ (fun i H' _ e => e.1.seq (SqL.of hc4)) ?_ ?_⟩
          · rintro i x H' hi ⟨s11, hD⟩
            obtain ⟨n, rfl, hn'⟩ := mapI_get hi
            refine ⟨rfl, _, rfl, _, _, rfl, rfl, (by show (0 : Int) < 4; decide), _, hD, ?_, same_mut s11 nD, ?_⟩
            · rw [List.length_map, List.length_take, List.length_map, List.length_take]
              exact sz63' (by omega)
            · rw [upd_same, List.take_add_one (i := i), List.getElem?_map, hn', List.map_append]
              rfl
          · rintro H11 ⟨s11, hD⟩
            rw [List.length_map, List.take_of_length_le (by rw [List.length_map]; exact Nat.le_refl _)] at hD
            refine ⟨D, _, rfl, SqL.of hD, by rw [List.length_map, List.length_take]; omega, fun few pw hperm hpw npw => ?_⟩
            have fb : ∀ x ∈ few, 0 ≤ x ∧ x ≤ 3 := fun x hx => by
              obtain ⟨y, _, rfl⟩ := List.mem_map.mp (hperm.mem_iff.mp hx)
              have h1 := Int.emod_nonneg y (show (4 : Int) ≠ 0 by decide)
              have h2 := Int.emod_lt_of_pos y (show (0 : Int) < 4 by decide)
              omega
            have fl : few.length ≤ 3 := by
              rw [hperm.length_eq, List.length_map, List.length_take]
              omega
            have Gf : Good few := ⟨rise_of_pw hpw, fun x hx => (fb x hx).1, fun x hx => (by
              have b4 : (4 : Int) ≤ 2 ^ 208 := by decide
              have := (fb x hx).2
              omega), by omega⟩
            have hpw12 : (upd H11 pw (.lst (few.map V.int))) pw = some (.lst (few.map V.int)) := upd_same
            refine ⟨_, rfl, pw, few, rfl, hpw12, Gf, fun H13 e1 s13 ne1 he1 => ?_⟩
            refine ⟨_, rfl, pw, few, rfl, il_of (s13 _ _ hpw12), fl, fb, fun H14 e2 s14 ne2 he2 => ?_⟩
            refine ⟨_, _, dp_il (il_of (s14 _ _ he1)), dp_il (il_of he2), shaped_ints _, shaped_ints _, _, rfl, ?_⟩
            rw [eqv_ints, tried_eq fl fb hpw, decide_eq_true rfl]
            refine iteF ?_
            -- the end
            refine ⟨Nat.zero_le _, fun l nl => ?_⟩
            have hl0 : (upd H14 l (.lst [])) l = some (.lst (([] : List Int).map V.int)) := upd_same
            refine ⟨l, [], rfl, hl0, Good.nil, fun H15 e3 s15 ne3 he3 => ?_⟩
            refine ⟨by show 1 ≤ sizeLine; decide, fun l2 nl2 => ?_⟩
            have hl2 : (upd H15 l2 (.lst [V.int 1])) l2 = some (.lst (([1] : List Int).map V.int)) := upd_same
            refine ⟨_, _, dp_il (il_of (same_upd nl2 _ _ he3)), dp_il (il_of hl2), shaped_ints _, shaped_ints _, ?_⟩
            rw [eqv_ints, show tab (cntF []) (([] : List Int).length + 1) = [1] by decide, decide_eq_true rfl]
            refine ⟨_, rfl, iteT ?_⟩
            refine ⟨Nat.zero_le _, fun l3 nl3 => ?_⟩
            have hl3 : (upd (upd H15 l2 (.lst [V.int 1])) l3 (.lst [])) l3 = some (.lst (([] : List Int).map V.int)) := upd_same
            refine ⟨l3, [], 5, rfl, hl3, Good.nil, by decide, by decide, fun H16 s16 => ?_⟩
            refine ⟨rfl, ?_⟩
            exact q _
end
end TS
namespace TS
open PySem PySem.Spec PyProof.Rows L2
theorem all_mk {l : PySem.W.OpenLaw} {w : World} {K : PySem.W.Frag} {h : Heap} {mg : Str → Option Value} {fa f1 f2 f3 f4 f5 f6 f7 f8 f9 f10 f11 f12 f13 f14 f15 : Addr} (X : K.In h) (G : h.Ns mainGlobals mg) (hfa : mg "law" = some (.ref fa))
    {od1 an1 od2 an2 od3 an3 od4 an4 od5 an5 od6 an6 od7 an7 od8 an8 od9 an9 od10 an10 od11 an11 od12 an12 od13 an13 od14 an14 od15 an15 : Option Addr} {sl1 sl2 sl3 sl4 sl5 sl6 sl7 sl8 sl9 sl10 sl11 sl12 sl13 sl14 sl15 : Array (Option Value)} {oc1 kV1 dc1 pm1 cd1 ct1 oc2 kV2 dc2 pm2 cd2 ct2 oc3 kV3 dc3 pm3 cd3 ct3 oc4 kV4 dc4 pm4 cd4 ct4 oc5 kV5 dc5 pm5 cd5 ct5 oc6 kV6 dc6 pm6 cd6 ct6 oc7 kV7 dc7 pm7 cd7 ct7 oc8 kV8 dc8 pm8 cd8 ct8 oc9 kV9 dc9 pm9 cd9 ct9 oc10 kV10 dc10 pm10 cd10 ct10 oc11 kV11 dc11 pm11 cd11 ct11 oc12 kV12 dc12 pm12 cd12 ct12 oc13 kV13 dc13 pm13 cd13 ct13 oc14 kV14 dc14 pm14 cd14 ct14 oc15 kV15 dc15 pm15 cd15 ct15 : Value}
    (a1 : PySem.W.nsIn K mainGlobals "is_count" = some (some (.ref f1))) (l1 : K.lookup f1 = some ⟨oc1, od1, .func (PySem.W.fnOf "is_count" "is_count" (defArgs s_is_count) (defBody s_is_count) (defScope s_is_count) .none kV1 dc1 pm1 an1 cd1 ct1), sl1⟩) (c1 : PySem.W.codeIn K cd1 "is_count" = true) (k1 : PySem.W.keepIn K (.ref f1) = true)
    (a2 : PySem.W.nsIn K mainGlobals "is_stairs" = some (some (.ref f2))) (l2 : K.lookup f2 = some ⟨oc2, od2, .func (PySem.W.fnOf "is_stairs" "is_stairs" (defArgs s_is_stairs) (defBody s_is_stairs) (defScope s_is_stairs) .none kV2 dc2 pm2 an2 cd2 ct2), sl2⟩) (c2 : PySem.W.codeIn K cd2 "is_stairs" = true) (k2 : PySem.W.keepIn K (.ref f2) = true)
    (a3 : PySem.W.nsIn K mainGlobals "check_stairs" = some (some (.ref f3))) (l3 : K.lookup f3 = some ⟨oc3, od3, .func (PySem.W.fnOf "check_stairs" "check_stairs" (defArgs s_check_stairs) (defBody s_check_stairs) (defScope s_check_stairs) .none kV3 dc3 pm3 an3 cd3 ct3), sl3⟩) (c3 : PySem.W.codeIn K cd3 "check_stairs" = true) (k3 : PySem.W.keepIn K (.ref f3) = true)
    (a4 : PySem.W.nsIn K mainGlobals "ways_without_columns" = some (some (.ref f4))) (l4 : K.lookup f4 = some ⟨oc4, od4, .func (PySem.W.fnOf "ways_without_columns" "ways_without_columns" (defArgs s_ways_without_columns) (defBody s_ways_without_columns) (defScope s_ways_without_columns) .none kV4 dc4 pm4 an4 cd4 ct4), sl4⟩) (c4 : PySem.W.codeIn K cd4 "ways_without_columns" = true) (k4 : PySem.W.keepIn K (.ref f4) = true)
    (a5 : PySem.W.nsIn K mainGlobals "add_column" = some (some (.ref f5))) (l5 : K.lookup f5 = some ⟨oc5, od5, .func (PySem.W.fnOf "add_column" "add_column" (defArgs s_add_column) (defBody s_add_column) (defScope s_add_column) .none kV5 dc5 pm5 an5 cd5 ct5), sl5⟩) (c5 : PySem.W.codeIn K cd5 "add_column" = true) (k5 : PySem.W.keepIn K (.ref f5) = true)
    (a6 : PySem.W.nsIn K mainGlobals "ways_up_to" = some (some (.ref f6))) (l6 : K.lookup f6 = some ⟨oc6, od6, .func (PySem.W.fnOf "ways_up_to" "ways_up_to" (defArgs s_ways_up_to) (defBody s_ways_up_to) (defScope s_ways_up_to) .none kV6 dc6 pm6 an6 cd6 ct6), sl6⟩) (c6 : PySem.W.codeIn K cd6 "ways_up_to" = true) (k6 : PySem.W.keepIn K (.ref f6) = true)
    (a7 : PySem.W.nsIn K mainGlobals "counts" = some (some (.ref f7))) (l7 : K.lookup f7 = some ⟨oc7, od7, .func (PySem.W.fnOf "counts" "counts" (defArgs s_counts) (defBody s_counts) (defScope s_counts) .none kV7 dc7 pm7 an7 cd7 ct7), sl7⟩) (c7 : PySem.W.codeIn K cd7 "counts" = true) (k7 : PySem.W.keepIn K (.ref f7) = true)
    (a8 : PySem.W.nsIn K mainGlobals "filled" = some (some (.ref f8))) (l8 : K.lookup f8 = some ⟨oc8, od8, .func (PySem.W.fnOf "filled" "filled" (defArgs s_filled) (defBody s_filled) (defScope s_filled) .none kV8 dc8 pm8 an8 cd8 ct8), sl8⟩) (c8 : PySem.W.codeIn K cd8 "filled" = true) (k8 : PySem.W.keepIn K (.ref f8) = true)
    (a9 : PySem.W.nsIn K mainGlobals "_law_cell_at" = some (some (.ref f9))) (l9 : K.lookup f9 = some ⟨oc9, od9, .func (PySem.W.fnOf "_law_cell_at" "_law_cell_at" (defArgs s_l_cell_at) (defBody s_l_cell_at) (defScope s_l_cell_at) .none kV9 dc9 pm9 an9 cd9 ct9), sl9⟩) (c9 : PySem.W.codeIn K cd9 "_law_cell_at" = true) (k9 : PySem.W.keepIn K (.ref f9) = true)
    (a10 : PySem.W.nsIn K mainGlobals "_law_draw" = some (some (.ref f10))) (l10 : K.lookup f10 = some ⟨oc10, od10, .func (PySem.W.fnOf "_law_draw" "_law_draw" (defArgs s_l_draw) (defBody s_l_draw) (defScope s_l_draw) .none kV10 dc10 pm10 an10 cd10 ct10), sl10⟩) (c10 : PySem.W.codeIn K cd10 "_law_draw" = true) (k10 : PySem.W.keepIn K (.ref f10) = true)
    (a11 : PySem.W.nsIn K mainGlobals "_law_stairs" = some (some (.ref f11))) (l11 : K.lookup f11 = some ⟨oc11, od11, .func (PySem.W.fnOf "_law_stairs" "_law_stairs" (defArgs s_l_stairs) (defBody s_l_stairs) (defScope s_l_stairs) .none kV11 dc11 pm11 an11 cd11 ct11), sl11⟩) (c11 : PySem.W.codeIn K cd11 "_law_stairs" = true) (k11 : PySem.W.keepIn K (.ref f11) = true)
    (a12 : PySem.W.nsIn K mainGlobals "_law_counts" = some (some (.ref f12))) (l12 : K.lookup f12 = some ⟨oc12, od12, .func (PySem.W.fnOf "_law_counts" "_law_counts" (defArgs s_l_counts) (defBody s_l_counts) (defScope s_l_counts) .none kV12 dc12 pm12 an12 cd12 ct12), sl12⟩) (c12 : PySem.W.codeIn K cd12 "_law_counts" = true) (k12 : PySem.W.keepIn K (.ref f12) = true)
    (a13 : PySem.W.nsIn K mainGlobals "_law_whole" = some (some (.ref f13))) (l13 : K.lookup f13 = some ⟨oc13, od13, .func (PySem.W.fnOf "_law_whole" "_law_whole" (defArgs s_l_whole) (defBody s_l_whole) (defScope s_l_whole) .none kV13 dc13 pm13 an13 cd13 ct13), sl13⟩) (c13 : PySem.W.codeIn K cd13 "_law_whole" = true) (k13 : PySem.W.keepIn K (.ref f13) = true)
    (a14 : PySem.W.nsIn K mainGlobals "_law_tried" = some (some (.ref f14))) (l14 : K.lookup f14 = some ⟨oc14, od14, .func (PySem.W.fnOf "_law_tried" "_law_tried" (defArgs s_l_tried) (defBody s_l_tried) (defScope s_l_tried) .none kV14 dc14 pm14 an14 cd14 ct14), sl14⟩) (c14 : PySem.W.codeIn K cd14 "_law_tried" = true) (k14 : PySem.W.keepIn K (.ref f14) = true)
    (a15 : PySem.W.nsIn K mainGlobals "law" = some (some (.ref f15))) (l15 : K.lookup f15 = some ⟨oc15, od15, .func (PySem.W.fnOf "law" "law" (defArgs s_law) (defBody s_law) (defScope s_law) .none kV15 dc15 pm15 an15 cd15 ct15), sl15⟩) (c15 : PySem.W.codeIn K cd15 "law" = true) (k15 : PySem.W.keepIn K (.ref f15) = true)
    (z_len : PySem.W.nsIn K mainGlobals "len" = some none) (z_isinstance : PySem.W.nsIn K mainGlobals "isinstance" = some none) (z_sorted : PySem.W.nsIn K mainGlobals "sorted" = some none) (z_range : PySem.W.nsIn K mainGlobals "range" = some none) (z_enumerate : PySem.W.nsIn K mainGlobals "enumerate" = some none) (z_reversed : PySem.W.nsIn K mainGlobals "reversed" = some none) (z_min : PySem.W.nsIn K mainGlobals "min" = some none) (z_all : PySem.W.nsIn K mainGlobals "all" = some none) (z_list : PySem.W.nsIn K mainGlobals "list" = some none) (z_int : PySem.W.nsIn K mainGlobals "int" = some none) (z_bool : PySem.W.nsIn K mainGlobals "bool" = some none)
    : ∃ fd : FuncData, (∀ (s : Shared) (v : Value), BindsTo s fd ⟨[v], []⟩ [("_law_script", v)]) ∧ ∀ base : Heap, K.In base → base.Ns mainGlobals mg → FnOk l.prog w K mg base CX0 5 fa fd ["_law_script"] (spLaw K) := by
  have e := hfa.symm.trans (PySem.W.mg_of X G a15)
  cases e
  have B : Bl mg := ⟨PySem.W.mg_none_of X G z_len, PySem.W.mg_none_of X G z_isinstance, PySem.W.mg_none_of X G z_sorted, PySem.W.mg_none_of X G z_range, PySem.W.mg_none_of X G z_enumerate, PySem.W.mg_none_of X G z_reversed, PySem.W.mg_none_of X G z_min, PySem.W.mg_none_of X G z_all, PySem.W.mg_none_of X G z_list, PySem.W.mg_none_of X G z_int, PySem.W.mg_none_of X G z_bool⟩
  have F_is_count := fun_mk (st := s_is_count) l1 c1 k1
  have b_is_count := F_is_count.binds (ps := ["value"]) fun _ _ _ _ _ _ us hl => match us, hl with | [_], _ => rfl
  have g_is_count := PySem.W.mg_of X G a1
  have k_is_count := k1
  have F_is_stairs := fun_mk (st := s_is_stairs) l2 c2 k2
  have b_is_stairs := F_is_stairs.binds (ps := ["stairs"]) fun _ _ _ _ _ _ us hl => match us, hl with | [_], _ => rfl
  have g_is_stairs := PySem.W.mg_of X G a2
  have k_is_stairs := k2
  have F_check_stairs := fun_mk (st := s_check_stairs) l3 c3 k3
  have b_check_stairs := F_check_stairs.binds (ps := ["stairs"]) fun _ _ _ _ _ _ us hl => match us, hl with | [_], _ => rfl
  have g_check_stairs := PySem.W.mg_of X G a3
  have k_check_stairs := k3
  have F_ways_without_columns := fun_mk (st := s_ways_without_columns) l4 c4 k4
  have b_ways_without_columns := F_ways_without_columns.binds (ps := ["most"]) fun _ _ _ _ _ _ us hl => match us, hl with | [_], _ => rfl
  have g_ways_without_columns := PySem.W.mg_of X G a4
  have k_ways_without_columns := k4
  have F_add_column := fun_mk (st := s_add_column) l5 c5 k5
  have b_add_column := F_add_column.binds (ps := ["ways", "height"]) fun _ _ _ _ _ _ us hl => match us, hl with | [_, _], _ => rfl
  have g_add_column := PySem.W.mg_of X G a5
  have k_add_column := k5
  have F_ways_up_to := fun_mk (st := s_ways_up_to) l6 c6 k6
  have b_ways_up_to := F_ways_up_to.binds (ps := ["stairs", "most"]) fun _ _ _ _ _ _ us hl => match us, hl with | [_, _], _ => rfl
  have g_ways_up_to := PySem.W.mg_of X G a6
  have k_ways_up_to := k6
  have F_counts := fun_mk (st := s_counts) l7 c7 k7
  have b_counts := F_counts.binds (ps := ["stairs"]) fun _ _ _ _ _ _ us hl => match us, hl with | [_], _ => rfl
  have g_counts := PySem.W.mg_of X G a7
  have k_counts := k7
  have F_filled := fun_mk (st := s_filled) l8 c8 k8
  have b_filled := F_filled.binds (ps := ["stairs", "more"]) fun _ _ _ _ _ _ us hl => match us, hl with | [_, _], _ => rfl
  have g_filled := PySem.W.mg_of X G a8
  have k_filled := k8
  have F_l_cell_at := fun_mk (st := s_l_cell_at) l9 c9 k9
  have b_l_cell_at := F_l_cell_at.binds (ps := ["_law_script", "_law_k"]) fun _ _ _ _ _ _ us hl => match us, hl with | [_, _], _ => rfl
  have g_l_cell_at := PySem.W.mg_of X G a9
  have k_l_cell_at := k9
  have F_l_draw := fun_mk (st := s_l_draw) l10 c10 k10
  have b_l_draw := F_l_draw.binds (ps := ["_law_cell", "_law_k", "_law_many"]) fun _ _ _ _ _ _ us hl => match us, hl with | [_, _, _], _ => rfl
  have g_l_draw := PySem.W.mg_of X G a10
  have k_l_draw := k10
  have F_l_stairs := fun_mk (st := s_l_stairs) l11 c11 k11
  have b_l_stairs := F_l_stairs.binds (ps := ["_law_script"]) fun _ _ _ _ _ _ us hl => match us, hl with | [_], _ => rfl
  have g_l_stairs := PySem.W.mg_of X G a11
  have k_l_stairs := k11
  have F_l_counts := fun_mk (st := s_l_counts) l12 c12 k12
  have b_l_counts := F_l_counts.binds (ps := ["_law_stairs_here"]) fun _ _ _ _ _ _ us hl => match us, hl with | [_], _ => rfl
  have g_l_counts := PySem.W.mg_of X G a12
  have k_l_counts := k12
  have F_l_whole := fun_mk (st := s_l_whole) l13 c13 k13
  have b_l_whole := F_l_whole.binds (ps := ["_law_number"]) fun _ _ _ _ _ _ us hl => match us, hl with | [_], _ => rfl
  have g_l_whole := PySem.W.mg_of X G a13
  have k_l_whole := k13
  have F_l_tried := fun_mk (st := s_l_tried) l14 c14 k14
  have b_l_tried := F_l_tried.binds (ps := ["_law_stairs_here"]) fun _ _ _ _ _ _ us hl => match us, hl with | [_], _ => rfl
  have g_l_tried := PySem.W.mg_of X G a14
  have k_l_tried := k14
  have F_law := fun_mk (st := s_law) l15 c15 k15
  refine ⟨PySem.W.fnOf "law" "law" (defArgs s_law) (defBody s_law) (defScope s_law) .none kV15 dc15 pm15 an15 cd15 ct15, fun s v => .of_eq rfl, fun base _ _ => ?_⟩
  have D_is_count : Df l.prog w K mg base "is_count" 1 ["value"] spIsCount _ _ := ⟨ok_is_count (m := 0) B F_is_count, g_is_count, k_is_count, b_is_count⟩
  have D_is_stairs : Df l.prog w K mg base "is_stairs" 2 ["stairs"] spIsStairs _ _ := ⟨ok_is_stairs (m := 0) B D_is_count F_is_stairs, g_is_stairs, k_is_stairs, b_is_stairs⟩
  have D_check_stairs : Df l.prog w K mg base "check_stairs" 3 ["stairs"] spCheck _ _ := ⟨ok_check_stairs (m := 1) B D_is_stairs F_check_stairs, g_check_stairs, k_check_stairs, b_check_stairs⟩
  have D_ways_without_columns : Df l.prog w K mg base "ways_without_columns" 1 ["most"] spNoCols _ _ := ⟨ok_ways_without_columns (n := 0) B F_ways_without_columns, g_ways_without_columns, k_ways_without_columns, b_ways_without_columns⟩
  have D_add_column : Df l.prog w K mg base "add_column" 1 ["ways", "height"] spAddCol _ _ := ⟨ok_add_column (m := 0) B F_add_column, g_add_column, k_add_column, b_add_column⟩
  have D_ways_up_to : Df l.prog w K mg base "ways_up_to" 2 ["stairs", "most"] (spUpTo K) _ _ := ⟨ok_ways_up_to (m := 0) B D_ways_without_columns D_add_column F_ways_up_to, g_ways_up_to, k_ways_up_to, b_ways_up_to⟩
  have D_counts : Df l.prog w K mg base "counts" 4 ["stairs"] (spCnts K) _ _ := ⟨ok_counts (m := 2) B D_check_stairs (D_ways_up_to.mono (by decide)) F_counts, g_counts, k_counts, b_counts⟩
  have D_filled : Df l.prog w K mg base "filled" 4 ["stairs", "more"] spFilled _ _ := ⟨ok_filled (m := 0) B D_check_stairs D_is_count F_filled, g_filled, k_filled, b_filled⟩
  have D_l_cell_at : Df l.prog w K mg base "_law_cell_at" 1 ["_law_script", "_law_k"] (spCellAt K) _ _ := ⟨ok_l_cell_at (n := 0) B F_l_cell_at, g_l_cell_at, k_l_cell_at, b_l_cell_at⟩
  have D_l_draw : Df l.prog w K mg base "_law_draw" 1 ["_law_cell", "_law_k", "_law_many"] spDraw _ _ := ⟨ok_l_draw (n := 0) B F_l_draw, g_l_draw, k_l_draw, b_l_draw⟩
  have D_l_stairs : Df l.prog w K mg base "_law_stairs" 2 ["_law_script"] (spStairs K) _ _ := ⟨ok_l_stairs (m := 0) B D_l_cell_at D_l_draw F_l_stairs, g_l_stairs, k_l_stairs, b_l_stairs⟩
  have D_l_counts : Df l.prog w K mg base "_law_counts" 1 ["_law_stairs_here"] (spLCounts K) _ _ := ⟨ok_l_counts (m := 0) B F_l_counts, g_l_counts, k_l_counts, b_l_counts⟩
  have D_l_whole : Df l.prog w K mg base "_law_whole" 1 ["_law_number"] spWhole _ _ := ⟨ok_l_whole (m := 0) B F_l_whole, g_l_whole, k_l_whole, b_l_whole⟩
  have D_l_tried : Df l.prog w K mg base "_law_tried" 1 ["_law_stairs_here"] (spTried K) _ _ := ⟨ok_l_tried (m := 0) B F_l_tried, g_l_tried, k_l_tried, b_l_tried⟩
  exact ok_law B D_l_cell_at D_l_draw D_l_stairs D_l_counts D_l_whole D_l_tried D_counts D_filled F_law
end TS
open PySem PySem.W PyProof.Rows
set_option maxRecDepth 100000 in
set_option maxHeartbeats 0 in
theorem PySem.Challenge.cw_towerstair_k01_whole_counts_holds : PySem.Challenge.rw_towerstair_k01_whole_counts.Holds := by
  w_on; o_law; k_head; (case hw => w_witness2)
  k_fill
  refine L2.walk_of (l := PySem.Challenge.rw_towerstair_k01_whole_counts) (n := 63) (k := 5) (x := "_law_script") (CX := fun _ => L2.CX0) (sp := fun w => TS.spLaw _) rfl (by decide) rfl ⟨rfl, by decide, by decide⟩ (fun w h Y => PySem.W.kIn_of Y) ?F (fun _ _ a ns hl _ hS => ⟨a, ns, rfl, hS, hl, fun _ => rfl⟩) (fun _ _ _ _ _ h => h)
  case F =>
    intro w mg fa h KX G hmg
    refine' TS.all_mk KX G hmg ?a1 ?l1 ?c1 ?k1 ?a2 ?l2 ?c2 ?k2 ?a3 ?l3 ?c3 ?k3 ?a4 ?l4 ?c4 ?k4 ?a5 ?l5 ?c5 ?k5 ?a6 ?l6 ?c6 ?k6 ?a7 ?l7 ?c7 ?k7 ?a8 ?l8 ?c8 ?k8 ?a9 ?l9 ?c9 ?k9 ?a10 ?l10 ?c10 ?k10 ?a11 ?l11 ?c11 ?k11 ?a12 ?l12 ?c12 ?k12 ?a13 ?l13 ?c13 ?k13 ?a14 ?l14 ?c14 ?k14 ?a15 ?l15 ?c15 ?k15 ?z_len ?z_isinstance ?z_sorted ?z_range ?z_enumerate ?z_reversed ?z_min ?z_all ?z_list ?z_int ?z_bool
    (case a1 => k_is); (case l1 => k_is); (case c1 => k_is); (case k1 => k_is); (case a2 => k_is); (case l2 => k_is)
    (case c2 => k_is); (case k2 => k_is); (case a3 => k_is); (case l3 => k_is); (case c3 => k_is); (case k3 => k_is)
    (case a4 => k_is); (case l4 => k_is); (case c4 => k_is); (case k4 => k_is); (case a5 => k_is); (case l5 => k_is)
    (case c5 => k_is); (case k5 => k_is); (case a6 => k_is); (case l6 => k_is); (case c6 => k_is); (case k6 => k_is)
    (case a7 => k_is); (case l7 => k_is); (case c7 => k_is); (case k7 => k_is); (case a8 => k_is); (case l8 => k_is)
    (case c8 => k_is); (case k8 => k_is); (case a9 => k_is); (case l9 => k_is); (case c9 => k_is); (case k9 => k_is)
    (case a10 => k_is); (case l10 => k_is); (case c10 => k_is); (case k10 => k_is); (case a11 => k_is); (case l11 => k_is)
    (case c11 => k_is); (case k11 => k_is); (case a12 => k_is); (case l12 => k_is); (case c12 => k_is); (case k12 => k_is)
    (case a13 => k_is); (case l13 => k_is); (case c13 => k_is); (case k13 => k_is); (case a14 => k_is); (case l14 => k_is)
    (case c14 => k_is); (case k14 => k_is); (case a15 => k_is); (case l15 => k_is); (case c15 => k_is); (case k15 => k_is)
    (case z_len => k_is); (case z_isinstance => k_is); (case z_sorted => k_is); (case z_range => k_is); (case z_enumerate => k_is); (case z_reversed => k_is)
    (case z_min => k_is); (case z_all => k_is); (case z_list => k_is); (case z_int => k_is); (case z_bool => k_is)
