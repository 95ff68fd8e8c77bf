import PyProof.Rows.All
import Wide.All
import OpenK.AllK
import Wide.FinOn
import HandS.Base
import HandS.Call
import HandS.List
import HandS.Comp
import HandS.Iter
import HandS.Ends
import HandS.Words
import HandS.WordsList
import HandS.Wide
import HandS.ForMost
import HandS.IsInst
import HandS.RevRange
import HandS.Style
import HandS.Exc
import HandS.ExcOwn
import HandS.ExcIs
import HandS.HotCalls
import HandS.CallLocal
import HandS.WordsExc
import HandS.Zip
import HandS.Text
import HandS.StrMore
import PyProof.Rows.StrAscii
import PyProof.Rows.StrCut
import PyProof.StrOps2
import HandS.SortInts
import HandS.Evl
import PySem.Challenge.RW_towerstair_k06_written
set_option Elab.async false
set_option linter.all false
set_option maxRecDepth 100000
set_option maxHeartbeats 4000000
namespace TS
open PySem PySem.Spec PyProof.Rows L2
/-! small rules: an item read for an augmented store; a def with what its callers need -/
theorem get_list {X : Cx} : PGet X (rIxL X.K) := by
  intro pins s σ H o i ov iv Q I rx ry h
  obtain ⟨p, xs, k, z, rfl, rfl, hq, he, q⟩ := h
  cases rx
  obtain ⟨t, rfl⟩ := ry
  obtain ⟨its, vr, pl, _⟩ := I.list hq
  obtain ⟨j, at1, at2, _, lo, hi⟩ := atI_get he
  obtain ⟨wv, ew, rel⟩ := vr.get at2
  have hl := vr.length
  have hn := line63
  have done : EP X pins σ Q wv s := ⟨z, H, I, rel, q⟩
  by_cases h0 : 0 ≤ k
  · have hj : k.toNat = j := by
      rw [seqIndex_of h0 hi] at at1
      exact Option.some.inj at1
    exact wpAny_getItem_list pl.isList h0 (by omega) (by rw [hj]; simpa using ew) done
  · have hj : (k + (its.toArray.size : Int)).toNat = j := by
      rw [seqIndex_neg (by omega) lo] at at1
      rw [List.size_toArray, ← hl]
      exact Option.some.inj at1
    exact wpAny_getItem_list_neg pl.isList (by omega) (by rw [List.size_toArray] <;> omega) (by omega) (by rw [hj]; simpa using ew) done
structure Df (P : Program) (w : World) (K : PySem.W.Frag) (mg : Str → Option Value) (base : Heap) (x : Str) (k : Nat) (ps : List Str) (sp : Sp) (f : Addr) (fd : FuncData) : Prop where
  ok : FnOk P w K mg base CX0 k f fd ps sp
  g : mg x = some (.ref f)
  kp : PySem.W.keepIn K (.ref f) = true
  b : Binds K fd ps []
/-! heaps -/
theorem same_upd {H : Hp} {p : Addr} {o : HO} (h : H p = none) : Same H (upd H p o) := fun b x e => by
  rw [upd_ne (ne_of_none e h)]
  exact e
theorem same_mut {H H' : Hp} {p : Addr} {o : HO} (e : Same H H') (h : H p = none) : Same H (upd H' p o) := fun b x q => by
  rw [upd_ne (ne_of_none q h)]
  exact e b x q
theorem upd_id {H : Hp} {p : Addr} {o : HO} (h : H p = some o) : upd H p o = H := by
  funext b
  unfold upd
  split
  · next e => rw [e, h]
  · rfl
/-- a list of ints at a -/
abbrev IL (K : PySem.W.Frag) (H : Hp) (a : Addr) (ns : List Int) : Prop := SqL K H a (ns.map V.int)
theorem il_of {K : PySem.W.Frag} {H : Hp} {a : Addr} {ns : List Int} (h : H a = some (.lst (ns.map V.int))) : IL K H a ns := .inl (.inl h)
theorem mapI_get {ns : List Int} {i : Nat} {x : V} (h : (ns.map V.int)[i]? = some x) : ∃ n, x = .int n ∧ ns[i]? = some n := by
  rw [List.getElem?_map] at h
  cases e : ns[i]? with
  | none => rw [e] at h; cases h
  | some n => rw [e] at h; exact ⟨n, (Option.some.inj h).symm, rfl⟩
theorem mapI_at {ns : List Int} {i : Nat} {n : Int} (h : ns[i]? = some n) : (ns.map V.int)[i]? = some (.int n) := by
  rw [List.getElem?_map, h]
  rfl
theorem getD_at {ns : List Int} {i : Nat} (h : i < ns.length) : ns[i]? = some (ns.getD i 0) := by
  rw [List.getElem?_eq_getElem h, List.getD_eq_getElem?_getD, List.getElem?_eq_getElem h]
  rfl
theorem sz63 {n : Nat} (h : n ≤ 100000) : n ≤ sizeLine := Nat.le_trans h (by decide)
theorem sz63' {n : Nat} (h : n < 100000) : n < sizeLine := Nat.lt_of_lt_of_le h (by decide)
/-! comparing lists of ints -/
def dI (ns : List Int) : PyData := .list (ns.map PyData.int)
theorem dpAll_ints {K : PySem.W.Frag} {H : Hp} : ∀ ns : List Int, DpAll K H (ns.map V.int) (ns.map PyData.int)
  | [] => .nil
  | n :: r => .cons (.int n) (dpAll_ints r)
theorem dp_il {K : PySem.W.Frag} {H : Hp} {a : Addr} {ns : List Int} (h : IL K H a ns) : Dp K H (.ref a) (dI ns) := .lst h (dpAll_ints ns)
theorem can_ints : ∀ ns : List Int, PyData.canLayAll0 (ns.map PyData.int) = true
  | [] => rfl
  | n :: r => by
    show (PyData.canLay0 (.int n) && PyData.canLayAll0 (r.map PyData.int)) = true
    rw [can_ints r]
    rfl
theorem depth_ints : ∀ ns : List Int, PyData.depthAll (ns.map PyData.int) = 0
  | [] => rfl
  | n :: r => by
    show max 0 (PyData.depthAll (r.map PyData.int)) = 0
    rw [depth_ints r]
    rfl
theorem shaped_ints (ns : List Int) : SeqAt.shaped (dI ns) = true := by
  show (PyData.canLayAll0 (ns.map PyData.int) && decide (PyData.depthAll (ns.map PyData.int) + 1 ≤ 64)) = true
  rw [can_ints, depth_ints]
  rfl
theorem eqvAll_ints : ∀ ns ms : List Int, PyData.eqvAll (ns.map PyData.int) (ms.map PyData.int) = decide (ns = ms)
  | [], [] => by simp [PyData.eqvAll]
  | [], m :: s => by simp [PyData.eqvAll]
  | n :: r, [] => by simp [PyData.eqvAll]
  | n :: r, m :: s => by
    simp only [List.map_cons, PyData.eqvAll, PyData.eqv]
    rw [eqvAll_ints r s]
    by_cases h : n = m
    · by_cases k : r = s <;> simp [h, k]
    · simp [h]
theorem eqv_ints (ns ms : List Int) : PyData.eqv (dI ns) (dI ms) = decide (ns = ms) := by
  unfold dI
  rw [PyData.eqv]
  exact eqvAll_ints ns ms
end TS
namespace TS
open PySem PySem.Spec PyProof.Rows L2
/-! the text by places -/
def topS (i : Nat) : Stmt := PySem.Challenge.pw_towerstair_k06_written.main.body.getD i (.Pass ⟨0, 0, 0, 0⟩)
abbrev s_is_count : Stmt := topS 8
abbrev N_is_count : List Str := ["value"]
theorem sc_is_count : FnScope N_is_count ["value"] (defScope s_is_count) := ⟨rfl, rfl, rfl, by decide +kernel, rfl, by decide +kernel, by decide +kernel⟩
abbrev s_is_stairs : Stmt := topS 9
abbrev N_is_stairs : List Str := ["stairs", "least", "height"]
theorem sc_is_stairs : FnScope N_is_stairs ["stairs"] (defScope s_is_stairs) := ⟨rfl, rfl, rfl, by decide +kernel, rfl, by decide +kernel, by decide +kernel⟩
abbrev s_check_stairs : Stmt := topS 10
abbrev N_check_stairs : List Str := ["stairs"]
theorem sc_check_stairs : FnScope N_check_stairs ["stairs"] (defScope s_check_stairs) := ⟨rfl, rfl, rfl, by decide +kernel, rfl, by decide +kernel, by decide +kernel⟩
abbrev s_written : Stmt := topS 15
abbrev N_written : List Str := ["stairs", "height"]
theorem sc_written : FnScope N_written ["stairs"] (defScope s_written) := ⟨rfl, rfl, rfl, by decide +kernel, rfl, by decide +kernel, by decide +kernel⟩
abbrev s_read : Stmt := topS 16
abbrev N_read : List Str := ["text", "words", "stairs", "word"]
theorem sc_read : FnScope N_read ["text"] (defScope s_read) := ⟨rfl, rfl, rfl, by decide +kernel, rfl, by decide +kernel, by decide +kernel⟩
abbrev s__is_height : Stmt := topS 17
abbrev N__is_height : List Str := ["word"]
theorem sc__is_height : FnScope N__is_height ["word"] (defScope s__is_height) := ⟨rfl, rfl, rfl, by decide +kernel, rfl, by decide +kernel, by decide +kernel⟩
abbrev s_l_cell_at : Stmt := topS 19
abbrev N_l_cell_at : List Str := ["_law_script", "_law_k"]
theorem sc_l_cell_at : FnScope N_l_cell_at ["_law_script", "_law_k"] (defScope s_l_cell_at) := ⟨rfl, rfl, rfl, by decide +kernel, rfl, by decide +kernel, by decide +kernel⟩
abbrev s_l_draw : Stmt := topS 20
abbrev N_l_draw : List Str := ["_law_cell", "_law_k", "_law_many", "_law_primes"]
theorem sc_l_draw : FnScope N_l_draw ["_law_cell", "_law_k", "_law_many"] (defScope s_l_draw) := ⟨rfl, rfl, rfl, by decide +kernel, rfl, by decide +kernel, by decide +kernel⟩
abbrev s_l_stairs : Stmt := topS 21
abbrev N_l_stairs : List Str := ["_law_script", "_law_kind", "_law_many", "_law_most", "_law_found", "_law_cell", "_law_k", "_law_height"]
theorem sc_l_stairs : FnScope N_l_stairs ["_law_script"] (defScope s_l_stairs) := ⟨rfl, rfl, rfl, by decide +kernel, rfl, by decide +kernel, by decide +kernel⟩
abbrev s_l_number : Stmt := topS 26
abbrev N_l_number : List Str := ["_law_text"]
theorem sc_l_number : FnScope N_l_number ["_law_text"] (defScope s_l_number) := ⟨rfl, rfl, rfl, by decide +kernel, rfl, by decide +kernel, by decide +kernel⟩
abbrev s_l_in : Stmt := topS 27
abbrev N_l_in : List Str := ["_law_text", "_law_found", "_law_word"]
theorem sc_l_in : FnScope N_l_in ["_law_text"] (defScope s_l_in) := ⟨rfl, rfl, rfl, by decide +kernel, rfl, by decide +kernel, by decide +kernel⟩
abbrev s_l_refused : Stmt := topS 28
abbrev N_l_refused : List Str := ["_law_text", "error", "_law_others"]
theorem sc_l_refused : FnScope N_l_refused ["_law_text"] (defScope s_l_refused) := ⟨rfl, rfl, rfl, by decide +kernel, rfl, by decide +kernel, by decide +kernel⟩
abbrev s_l_right : Stmt := topS 29
abbrev N_l_right : List Str := ["_law_text", "_law_due", "_law_found"]
theorem sc_l_right : FnScope N_l_right ["_law_text"] (defScope s_l_right) := ⟨rfl, rfl, rfl, by decide +kernel, rfl, by decide +kernel, by decide +kernel⟩
abbrev s_l_few : Stmt := topS 30
abbrev N_l_few : List Str := ["_law_some"]
theorem sc_l_few : FnScope N_l_few [] (defScope s_l_few) := ⟨rfl, rfl, rfl, by decide +kernel, rfl, by decide +kernel, by decide +kernel⟩
abbrev s_law : Stmt := topS 31
abbrev N_law : List Str := ["_law_script", "_law_stairs_here", "_law_text", "_law_handed", "_law_cell", "_law_k", "_law_at", "_law_sign", "_law_height", "_law_other", "_law_thing"]
theorem sc_law : FnScope N_law ["_law_script"] (defScope s_law) := ⟨rfl, rfl, rfl, by decide +kernel, rfl, by decide +kernel, by decide +kernel⟩
end TS


namespace TS
open PySem PySem.Spec PyProof.Rows L2
structure Bl (mg : Str → Option Value) : Prop where
  len : mg "len" = none
  isinstance : mg "isinstance" = none
  sorted : mg "sorted" = none
  range : mg "range" = none
  enumerate : mg "enumerate" = none
  reversed : mg "reversed" = none
  min : mg "min" = none
  all : mg "all" = none
  list : mg "list" = none
  int : mg "int" = none
  bool : mg "bool" = none
  tuple : mg "tuple" = none
  dict : mg "dict" = none
  set : mg "set" = none
  divmod : mg "divmod" = none
  sum : mg "sum" = none
  any : mg "any" = none
  str : mg "str" = none
  valueError : mg "ValueError" = none
end TS
namespace TS
/-! the counts of stairs as a function of the count of towers -/
def stp (f : Nat → Int) (h : Int) : Nat → Int
  | 0 => f 0
  | m + 1 => if (m : Int) < h then f (m + 1) + f m * (h - m) else f (m + 1)
theorem stp_succ (f : Nat → Int) (h : Int) (m : Nat) : stp f h (m + 1) = if (m : Int) < h then f (m + 1) + f m * (h - m) else f (m + 1) := rfl
def f0 : Nat → Int := fun k => if k = 0 then 1 else 0
def cntF (hs : List Int) : Nat → Int := hs.foldl stp f0
theorem cntF_nil : cntF [] = f0 := rfl
theorem cntF_snoc (hs : List Int) (h : Int) : cntF (hs ++ [h]) = stp (cntF hs) h := by
  unfold cntF
  rw [List.foldl_append]
  rfl
theorem cntF_take {hs : List Int} {c : Nat} {h : Int} (e : hs[c]? = some h) : cntF (hs.take (c + 1)) = stp (cntF (hs.take c)) h := by
  rw [List.take_add_one, e]
  exact cntF_snoc _ _
theorem snoc_ind {P : List Int → Prop} (h0 : P []) (h1 : ∀ xs x, P xs → P (xs ++ [x])) (xs : List Int) : P xs := by
  have h : ∀ (n : Nat) (ys : List Int), ys.length = n → P ys := by
    intro n
    induction n with
    | zero => intro ys e; rw [List.length_eq_zero_iff.mp e]; exact h0
    | succ n ih =>
      intro ys e
      have hne : ys ≠ [] := by intro z; rw [z] at e; cases e
      rw [← List.dropLast_concat_getLast hne]
      refine h1 _ _ (ih _ ?_)
      rw [List.length_dropLast, e]
      rfl
  exact h _ xs rfl
theorem cntF_gt : ∀ (hs : List Int) (k : Nat), hs.length < k → cntF hs k = 0 := by
  intro hs
  induction hs using snoc_ind with
  | h0 => intro k hk; rw [cntF_nil]; unfold f0; rw [if_neg (by rw [List.length_nil] at hk; omega)]
  | h1 xs x ih =>
    intro k hk
    rw [List.length_append, List.length_singleton] at hk
    obtain ⟨m, rfl⟩ : ∃ m, k = m + 1 := ⟨k - 1, by omega⟩
    rw [cntF_snoc]
    rw [stp_succ]
    rw [ih (m + 1) (by omega), ih m (by omega)]
    split <;> omega
theorem cntF_zero : ∀ (hs : List Int), cntF hs 0 = 1 := by
  intro hs
  induction hs using snoc_ind with
  | h0 => rfl
  | h1 xs x ih => rw [cntF_snoc]; exact ih
theorem cntF_low (j : Nat) : ∀ (hs : List Int), (∀ x ∈ hs, x ≤ (j : Int)) → cntF hs (j + 1) = 0 := by
  intro hs
  induction hs using snoc_ind with
  | h0 => intro _; rfl
  | h1 xs x ih =>
    intro h
    rw [cntF_snoc]
    rw [stp_succ]
    have hx : x ≤ (j : Int) := h x (by simp)
    rw [if_neg (by omega)]
    exact ih fun y hy => h y (by simp [hy])
theorem cntF_step {hs : List Int} {h : Int} (h0 : 0 ≤ h) (hle : ∀ x ∈ hs, x ≤ h) (m : Nat) : cntF (hs ++ [h]) (m + 1) = cntF hs (m + 1) + cntF hs m * (h - m) := by
  rw [cntF_snoc, stp_succ]
  by_cases c : (m : Int) < h
  · rw [if_pos c]
  · rw [if_neg c]
    by_cases e : (m : Int) = h
    · rw [e, Int.sub_self, Int.mul_zero, Int.add_zero]
    · obtain ⟨j, rfl⟩ : ∃ j, m = j + 1 := ⟨m - 1, by omega⟩
      have z : cntF hs (j + 1) = 0 := cntF_low j hs fun x hx => by have := hle x hx; omega
      rw [z, Int.zero_mul, Int.add_zero]
/-! sums -/
def sm (g : Nat → Int) : Nat → Int
  | 0 => 0
  | n + 1 => sm g n + g n
theorem sm_congr {g g' : Nat → Int} : ∀ {n : Nat}, (∀ k, k < n → g k = g' k) → sm g n = sm g' n
  | 0, _ => rfl
  | n + 1, h => by
    show sm g n + g n = sm g' n + g' n
    rw [sm_congr (n := n) fun k hk => h k (by omega), h n (by omega)]
theorem sm_add (g g' : Nat → Int) : ∀ n : Nat, sm (fun k => g k + g' k) n = sm g n + sm g' n
  | 0 => rfl
  | n + 1 => by
    show sm (fun k => g k + g' k) n + (g n + g' n) = (sm g n + g n) + (sm g' n + g' n)
    rw [sm_add g g' n]
    omega
theorem sm_mul (g : Nat → Int) (c : Int) : ∀ n : Nat, sm (fun k => g k * c) n = sm g n * c
  | 0 => by simp [sm]
  | n + 1 => by
    show sm (fun k => g k * c) n + g n * c = (sm g n + g n) * c
    rw [sm_mul g c n, Int.add_mul]
theorem sm_shift (g : Nat → Int) : ∀ n : Nat, sm g (n + 1) = g 0 + sm (fun k => g (k + 1)) n
  | 0 => by simp [sm]
  | n + 1 => by
    show sm g (n + 1) + g (n + 1) = g 0 + (sm (fun k => g (k + 1)) n + g (n + 1))
    rw [sm_shift g n]
    omega
theorem sm_rev (g : Nat → Int) : ∀ n : Nat, sm (fun k => g (n - 1 - k)) n = sm g n
  | 0 => rfl
  | n + 1 => by
    rw [sm_shift]
    show g (n + 1 - 1 - 0) + sm (fun k => g (n + 1 - 1 - (k + 1))) n = sm g n + g n
    rw [sm_congr (g' := fun k => g (n - 1 - k)) (n := n) (by intro k hk; show g (n + 1 - 1 - (k + 1)) = g (n - 1 - k); congr 1; omega), sm_rev g n]
    show g n + sm g n = sm g n + g n
    omega
/-! falling products, the product of the heights -/
def ff (x : Int) : Nat → Int
  | 0 => 1
  | n + 1 => ff x n * (x - n)
def prodF (hs : List Int) (more : Int) : Nat → Int
  | 0 => 1
  | n + 1 => prodF hs more n * (hs.getD n 0 + more - n)
def Rise (hs : List Int) : Prop := ∀ (i j : Nat) (x y : Int), i ≤ j → hs[i]? = some x → hs[j]? = some y → x ≤ y
def Pos0 (hs : List Int) : Prop := ∀ x ∈ hs, 0 ≤ x
theorem gjw_step {f : Nat → Int} {n : Nat} {h x : Int} {f' : Nat → Int} (hn : f (n + 1) = 0) (h0 : f' 0 = f 0) (hs : ∀ m, f' (m + 1) = f (m + 1) + f m * (h - m)) :
    sm (fun k => f' k * ff x (n + 1 - k)) (n + 2) = sm (fun k => f k * ff x (n - k)) (n + 1) * (h + x - n) := by
  rw [sm_shift, h0]
  have e1 : sm (fun k => f' (k + 1) * ff x (n + 1 - (k + 1))) (n + 1) = sm (fun k => f (k + 1) * ff x (n + 1 - (k + 1))) (n + 1) + sm (fun k => f k * (h - k) * ff x (n - k)) (n + 1) := by
    rw [← sm_add]
    refine sm_congr fun k hk => ?_
    show f' (k + 1) * ff x (n + 1 - (k + 1)) = f (k + 1) * ff x (n + 1 - (k + 1)) + f k * (h - k) * ff x (n - k)
    rw [hs, Nat.add_sub_add_right]
    grind
  have e2 : f 0 * ff x (n + 1 - 0) + sm (fun k => f (k + 1) * ff x (n + 1 - (k + 1))) (n + 1) = sm (fun k => f k * ff x (n + 1 - k)) (n + 1) := by
    have e := sm_shift (fun k => f k * ff x (n + 1 - k)) (n + 1)
    rw [← e]
    show sm (fun k => f k * ff x (n + 1 - k)) (n + 1) + f (n + 1) * _ = _
    rw [hn, Int.zero_mul, Int.add_zero]
  rw [e1, ← Int.add_assoc, e2, ← sm_add, ← sm_mul]
  refine sm_congr fun k hk => ?_
  show f k * ff x (n + 1 - k) + f k * (h - k) * ff x (n - k) = f k * ff x (n - k) * (h + x - n)
  obtain ⟨d, rfl⟩ : ∃ d, n = k + d := ⟨n - k, by omega⟩
  rw [show k + d + 1 - k = d + 1 by omega, show k + d - k = d by omega]
  show f k * (ff x d * (x - d)) + f k * (h - k) * ff x d = f k * ff x d * (h + x - ((k + d : Nat) : Int))
  rw [Int.natCast_add]
  grind
theorem prodF_snoc {hs : List Int} {h more : Int} : ∀ n : Nat, n ≤ hs.length → prodF (hs ++ [h]) more n = prodF hs more n
  | 0, _ => rfl
  | n + 1, hn => by
    show prodF (hs ++ [h]) more n * _ = prodF hs more n * _
    rw [prodF_snoc n (by omega)]
    have e : (hs ++ [h]).getD n 0 = hs.getD n 0 := by
      rw [List.getD_eq_getElem?_getD, List.getD_eq_getElem?_getD, List.getElem?_append_left (by omega)]
    rw [e]
theorem Rise.front {hs : List Int} {h : Int} (r : Rise (hs ++ [h])) : Rise hs := by
  intro i j x y hij hx hy
  have h1 : i < hs.length := (List.getElem?_eq_some_iff.mp hx).1
  have h2 : j < hs.length := (List.getElem?_eq_some_iff.mp hy).1
  exact r i j x y hij (by rw [List.getElem?_append_left h1]; exact hx) (by rw [List.getElem?_append_left h2]; exact hy)
theorem Rise.last {hs : List Int} {h : Int} (r : Rise (hs ++ [h])) : ∀ x ∈ hs, x ≤ h := by
  intro x hx
  obtain ⟨i, hi, e⟩ := List.getElem_of_mem hx
  refine r i hs.length x h (by omega) ?_ ?_
  · rw [List.getElem?_append_left hi, List.getElem?_eq_getElem hi, e]
  · simp
theorem gjw : ∀ (hs : List Int), Rise hs → Pos0 hs → ∀ x : Int, sm (fun k => cntF hs k * ff x (hs.length - k)) (hs.length + 1) = prodF hs x hs.length := by
  intro hs
  induction hs using snoc_ind with
  | h0 => intro _ _ x; simp [sm, prodF, ff, cntF_zero]
  | h1 xs h ih =>
    intro r p x
    have hp : 0 ≤ h := p h (by simp)
    have e := ih r.front (fun y hy => p y (by simp [hy])) x
    rw [List.length_append, List.length_singleton]
    rw [gjw_step (f := cntF xs) (n := xs.length) (h := h) (x := x) (cntF_gt xs _ (by omega)) (by rw [cntF_snoc]; rfl) (cntF_step hp r.last), e]
    show _ = prodF (xs ++ [h]) x xs.length * ((xs ++ [h]).getD xs.length 0 + x - xs.length)
    rw [prodF_snoc _ (Nat.le_refl _)]
    have eg : (xs ++ [h]).getD xs.length 0 = h := by simp
    rw [eg]
theorem gjw_rev {hs : List Int} (r : Rise hs) (p : Pos0 hs) (x : Int) : sm (fun left => cntF hs (hs.length - left) * ff x left) (hs.length + 1) = prodF hs x hs.length := by
  rw [← gjw hs r p x, ← sm_rev (fun k => cntF hs k * ff x (hs.length - k)) (hs.length + 1)]
  refine sm_congr fun k hk => ?_
  show cntF hs (hs.length - k) * ff x k = cntF hs (hs.length + 1 - 1 - k) * ff x (hs.length - (hs.length + 1 - 1 - k))
  rw [show hs.length + 1 - 1 - k = hs.length - k by omega, show hs.length - (hs.length - k) = k by omega]
end TS
namespace TS
/-! lists as tables of functions -/
def tab (f : Nat → Int) (n : Nat) : List Int := (List.range n).map f
theorem tab_len (f : Nat → Int) (n : Nat) : (tab f n).length = n := by unfold tab; simp
theorem tab_get {f : Nat → Int} {n k : Nat} (h : k < n) : (tab f n)[k]? = some (f k) := by
  unfold tab
  rw [List.getElem?_map, List.getElem?_range h]
  rfl
theorem tab_congr {f g : Nat → Int} {n : Nat} (h : ∀ k, k < n → f k = g k) : tab f n = tab g n := by
  unfold tab
  exact List.map_congr_left fun k hk => h k (List.mem_range.mp hk)
theorem tab_set (f : Nat → Int) (n j : Nat) (v : Int) : (tab f n).set j v = tab (fun k => if k = j then v else f k) n := by
  apply List.ext_getElem?
  intro k
  rw [List.getElem?_set, tab_len]
  by_cases hk : k < n
  · rw [tab_get hk, tab_get hk]
    by_cases e : j = k
    · subst e
      rw [if_pos rfl, if_pos hk, if_pos rfl]
    · rw [if_neg e, if_neg (fun z => e z.symm)]
  · have h1 : (tab f n)[k]? = none := List.getElem?_eq_none (by rw [tab_len]; omega)
    have h2 : (tab (fun k => if k = j then v else f k) n)[k]? = none := List.getElem?_eq_none (by rw [tab_len]; omega)
    rw [h1, h2]
    by_cases e : j = k
    · subst e
      rw [if_pos rfl, if_neg hk]
    · rw [if_neg e]
theorem tab_succ (f : Nat → Int) (n : Nat) : tab f (n + 1) = f 0 :: tab (fun k => f (k + 1)) n := by
  unfold tab
  rw [List.range_succ_eq_map, List.map_cons, List.map_map]
  rfl
theorem tab_const (c : Int) : ∀ n : Nat, tab (fun _ => c) n = List.replicate n c
  | 0 => rfl
  | n + 1 => by rw [tab_succ, tab_const c n]; rfl
theorem tab_f0 (n : Nat) : tab f0 (n + 1) = 1 :: List.replicate n 0 := by
  rw [tab_succ, ← tab_const]
  rfl
/-! the counts' sizes -/
theorem cnt_rng {M : Int} (hM : 1 ≤ M) : ∀ (hs : List Int), (∀ x ∈ hs, 0 ≤ x ∧ x + 1 ≤ M) → ∀ k, 0 ≤ cntF hs k ∧ cntF hs k ≤ M ^ hs.length := by
  intro hs
  induction hs using snoc_ind with
  | h0 =>
    intro _ k
    rw [cntF_nil]
    unfold f0
    split <;> simp
  | h1 xs x ih =>
    intro h k
    have hx := h x (by simp)
    have ih' := ih fun y hy => h y (by simp [hy])
    have hp : 0 ≤ M ^ xs.length := Int.pow_nonneg (by omega)
    rw [cntF_snoc, List.length_append, List.length_singleton, Int.pow_succ]
    have grow : M ^ xs.length ≤ M ^ xs.length * M := by
      have := Int.mul_le_mul_of_nonneg_left hM hp
      rw [Int.mul_one] at this
      exact this
    cases k with
    | zero =>
      have a := ih' 0
      exact ⟨a.1, Int.le_trans a.2 grow⟩
    | succ m =>
      rw [stp_succ]
      have a := ih' (m + 1)
      have b := ih' m
      by_cases c : (m : Int) < x
      · rw [if_pos c]
        have d : 0 ≤ cntF xs m * (x - m) := Int.mul_nonneg b.1 (by omega)
        have e : cntF xs m * (x - m) ≤ M ^ xs.length * (M - 1) := Int.mul_le_mul b.2 (by omega) (by omega) hp
        have e2 : M ^ xs.length * (M - 1) = M ^ xs.length * M - M ^ xs.length := by rw [Int.mul_sub, Int.mul_one]
        omega
      · rw [if_neg c]
        exact ⟨a.1, Int.le_trans a.2 grow⟩
/-- low enough: heights and such -/
def Lo (x : Int) : Prop := x.natAbs < 2 ^ 208
theorem abs_pow {x : Int} {a n : Nat} (h0 : 0 ≤ x) (h : x ≤ ((2 : Int) ^ a) ^ n) : x.natAbs < 2 ^ (a * n + 1) := by
  have e : ((2 : Int) ^ a) ^ n = ((2 ^ (a * n) : Nat) : Int) := by
    rw [← Int.pow_mul, Int.natCast_pow]
    rfl
  rw [e] at h
  have : x.natAbs ≤ 2 ^ (a * n) := by omega
  have h2 : 2 ^ (a * n) < 2 ^ (a * n + 1) := Nat.pow_lt_pow_right (by decide) (by omega)
  omega
theorem cnt_abs {hs : List Int} (h : ∀ x ∈ hs, 0 ≤ x ∧ x + 1 ≤ 2 ^ 208) (k : Nat) : (cntF hs k).natAbs < 2 ^ (208 * hs.length + 1) := by
  have q := cnt_rng (M := 2 ^ 208) (by decide) hs h k
  exact abs_pow q.1 q.2
theorem pow_up {x : Int} {a b : Nat} (h : x.natAbs < 2 ^ a) (hab : a ≤ b) : x.natAbs < 2 ^ b := Nat.lt_of_lt_of_le h (Nat.pow_le_pow_right (by decide) hab)
/-! a column put in, in the middle of its loop -/
def mid (f : Nat → Int) (h : Int) (t i : Nat) : Nat → Int := fun k => if t - i < k then stp f h k else f k
theorem stp_high {f : Nat → Int} {h : Int} {k : Nat} (hk : h < (k : Int)) (h0 : 0 < k) : stp f h k = f k := by
  obtain ⟨m, rfl⟩ : ∃ m, k = m + 1 := ⟨k - 1, by omega⟩
  rw [stp_succ, if_neg (by omega)]
theorem mid_start {f : Nat → Int} {h : Int} {n t : Nat} (ht : (t : Int) = h ∨ n ≤ t) : tab (mid f h t 0) (n + 1) = tab f (n + 1) := by
  refine tab_congr fun k hk => ?_
  unfold mid
  by_cases c : t - 0 < k
  · rw [if_pos c]
    rcases ht with e | e
    · exact stp_high (by omega) (by omega)
    · omega
  · rw [if_neg c]
theorem mid_end {f : Nat → Int} {h : Int} {n t : Nat} : tab (mid f h t t) (n + 1) = tab (stp f h) (n + 1) := by
  refine tab_congr fun k hk => ?_
  unfold mid
  rw [Nat.sub_self]
  cases k with
  | zero => rfl
  | succ m => rw [if_pos (by omega)]
theorem mid_turn {f : Nat → Int} {h : Int} {n t i m : Nat} (ht : (t : Int) ≤ h) (hi : i < t) (hm : m + 1 = t - i) :
    (tab (mid f h t i) (n + 1)).set (m + 1) (f (m + 1) + f m * (h - m)) = tab (mid f h t (i + 1)) (n + 1) := by
  rw [tab_set]
  refine tab_congr fun k hk => ?_
  show (if k = m + 1 then _ else mid f h t i k) = mid f h t (i + 1) k
  unfold mid
  by_cases e : k = m + 1
  · rw [if_pos e, if_pos (by omega), e, stp_succ, if_pos (by omega)]
  · rw [if_neg e]
    by_cases c : t - i < k
    · rw [if_pos c, if_pos (by omega)]
    · rw [if_neg c, if_neg (by omega)]
theorem mid_at {f : Nat → Int} {h : Int} {t i k : Nat} (hk : k ≤ t - i) : mid f h t i k = f k := by
  unfold mid
  rw [if_neg (by omega)]
end TS
namespace TS
/-! the law's own loop over all counts -/
theorem mid_start2 {f : Nat → Int} {h : Int} {n t : Nat} (hz : ∀ k, t ≤ k → f k = 0) : tab (mid f h t 0) (n + 1) = tab f (n + 1) := by
  refine tab_congr fun k hk => ?_
  unfold mid
  by_cases c : t - 0 < k
  · rw [if_pos c]
    obtain ⟨m, rfl⟩ : ∃ m, k = m + 1 := ⟨k - 1, by omega⟩
    rw [stp_succ, hz m (by omega), hz (m + 1) (by omega)]
    split <;> omega
  · rw [if_neg c]
theorem mid_set {f : Nat → Int} {h : Int} {n t i m : Nat} (hi : i < t) (hm : m + 1 = t - i) (c : (m : Int) < h) :
    (tab (mid f h t i) (n + 1)).set (m + 1) (f (m + 1) + f m * (h - m)) = tab (mid f h t (i + 1)) (n + 1) := by
  rw [tab_set]
  refine tab_congr fun k hk => ?_
  show (if k = m + 1 then _ else mid f h t i k) = mid f h t (i + 1) k
  unfold mid
  by_cases e : k = m + 1
  · rw [if_pos e, if_pos (by omega), e, stp_succ, if_pos c]
  · rw [if_neg e]
    by_cases c : t - i < k
    · rw [if_pos c, if_pos (by omega)]
    · rw [if_neg c, if_neg (by omega)]
theorem mid_skip {f : Nat → Int} {h : Int} {n t i m : Nat} (hi : i < t) (hm : m + 1 = t - i) (c : ¬ (m : Int) < h) :
    tab (mid f h t i) (n + 1) = tab (mid f h t (i + 1)) (n + 1) := by
  refine tab_congr fun k hk => ?_
  unfold mid
  by_cases e : k = m + 1
  · rw [if_neg (by omega), if_pos (by omega), e, stp_succ, if_neg c]
  · by_cases c : t - i < k
    · rw [if_pos c, if_pos (by omega)]
    · rw [if_neg c, if_neg (by omega)]
/-! the product's size -/
theorem prod_abs {hs : List Int} {x : Int} (h : ∀ y ∈ hs, 0 ≤ y ∧ y + 1 ≤ 2 ^ 208) (hl : hs.length ≤ 100) (h0 : 0 ≤ x) (hx : x + 1 ≤ 2 ^ 208) : ∀ n : Nat, n ≤ hs.length → (prodF hs x n).natAbs < 2 ^ (210 * n + 1)
  | 0, _ => by show (1 : Int).natAbs < 2 ^ (210 * 0 + 1); decide
  | n + 1, hn => by
    show (prodF hs x n * (hs.getD n 0 + x - n)).natAbs < 2 ^ (210 * (n + 1) + 1)
    have ih := prod_abs h hl h0 hx n (by omega)
    have e : hs.getD n 0 ∈ hs := by
      rw [List.getD_eq_getElem?_getD, List.getElem?_eq_getElem (by omega)]
      exact List.getElem_mem _
    have b := h _ e
    have hc : (hs.getD n 0 + x - n).natAbs < 2 ^ 210 := by
      have h2 : (2 : Int) ^ 208 = ((2 ^ 208 : Nat) : Int) := rfl
      have h3 : (2 : Nat) ^ 210 = 2 ^ 208 * 4 := rfl
      have h4 : 1000 ≤ (2 : Nat) ^ 208 := by decide
      omega
    rw [Int.natAbs_mul, show 210 * (n + 1) + 1 = (210 * n + 1) + 210 by omega, Nat.pow_add]
    exact Nat.mul_lt_mul'' ih hc
end TS
namespace TS
theorem rise_of_pw {hs : List Int} (h : hs.Pairwise (· ≤ ·)) : Rise hs := by
  intro i j x y hij hx hy
  obtain ⟨h1, e1⟩ := List.getElem?_eq_some_iff.mp hx
  obtain ⟨h2, e2⟩ := List.getElem?_eq_some_iff.mp hy
  by_cases e : i = j
  · subst e
    rw [e1] at e2
    omega
  · have q := List.pairwise_iff_getElem.mp h i j h1 h2 (by omega)
    rw [e1, e2] at q
    exact q
/-- each height more by its place -/
def lift (hs : List Int) (n : Nat) : List Int := tab (fun k => hs.getD k 0 + k) n
theorem lift_rise {hs : List Int} (h : Rise hs) : Rise (lift hs hs.length) := by
  intro i j x y hij hx hy
  have h2 : j < hs.length := by
    have := (List.getElem?_eq_some_iff.mp hy).1
    unfold lift at this
    rw [tab_len] at this
    exact this
  unfold lift at hx hy
  rw [tab_get (by omega)] at hx hy
  have e1 := Option.some.inj hx
  have e2 := Option.some.inj hy
  have q := h i j _ _ hij (List.getElem?_eq_getElem (show i < hs.length by omega)) (List.getElem?_eq_getElem h2)
  simp only [List.getD_eq_getElem?_getD, List.getElem?_eq_getElem h2, List.getElem?_eq_getElem (show i < hs.length by omega), Option.getD_some] at e1 e2
  omega
theorem lift_mem {hs : List Int} {m : Int} (h : ∀ x ∈ hs, 0 ≤ x ∧ x < m) : ∀ x ∈ lift hs hs.length, 0 ≤ x ∧ x < m + hs.length := by
  intro x hx
  unfold lift tab at hx
  obtain ⟨k, hk, rfl⟩ := List.mem_map.mp hx
  have hk' := List.mem_range.mp hk
  have q := h hs[k] (List.getElem_mem hk')
  rw [List.getD_eq_getElem?_getD, List.getElem?_eq_getElem hk']
  show 0 ≤ hs[k] + (k : Int) ∧ hs[k] + (k : Int) < m + hs.length
  omega
theorem lift_succ {hs : List Int} {i : Nat} {h : Int} (e : hs[i]? = some h) : lift hs (i + 1) = lift hs i ++ [h + i] := by
  unfold lift tab
  rw [List.range_succ, List.map_append, List.map_singleton, List.getD_eq_getElem?_getD, e]
  rfl
/-- what the drawn stairs are -/
structure GoodS (n : Nat) (hs : List Int) : Prop where
  rise : Rise hs
  pos : Pos0 hs
  low : ∀ x ∈ hs, x < 10 ^ 59
  len : hs.length = min 63 n
theorem goodS_mod {n : Nat} {ms hs : List Int} (hp : hs.Perm (ms.map fun x => x / 5 % 10 ^ 59)) (hw : hs.Pairwise (· ≤ ·)) (hl : ms.length = min 63 n) : GoodS n hs := by
  have mem : ∀ x ∈ hs, 0 ≤ x ∧ x < 10 ^ 59 := fun x hx => by
    obtain ⟨y, _, rfl⟩ := List.mem_map.mp (hp.mem_iff.mp hx)
    exact ⟨Int.emod_nonneg _ (by decide), Int.emod_lt_of_pos _ (by decide)⟩
  exact ⟨rise_of_pw hw, fun x hx => (mem x hx).1, fun x hx => (mem x hx).2, by rw [hp.length_eq, List.length_map, hl]⟩
theorem goodS_draw {n : Nat} {m : Int} {ds hs : List Int} (hp : hs.Perm ds) (hw : hs.Pairwise (· ≤ ·)) (hm : m ≤ 300) (hd : ∀ x ∈ ds, 0 ≤ x ∧ x < m) (hl : ds.length = min 63 n) : GoodS n hs ∧ GoodS n (lift hs hs.length) := by
  have mem : ∀ x ∈ hs, 0 ≤ x ∧ x < m := fun x hx => hd x (hp.mem_iff.mp hx)
  have big : (1000 : Int) < 10 ^ 59 := by decide
  have len : hs.length = min 63 n := by rw [hp.length_eq, hl]
  refine ⟨⟨rise_of_pw hw, fun x hx => (mem x hx).1, fun x hx => ?_, len⟩, ⟨lift_rise (rise_of_pw hw), fun x hx => (lift_mem mem x hx).1, fun x hx => ?_, ?_⟩⟩
  · have := (mem x hx).2
    omega
  · have := (lift_mem mem x hx).2
    omega
  · unfold lift
    rw [tab_len, len]
/-- the menu of the greatest height -/
theorem most_menu {n k : Int} (h0 : 0 ≤ k) (h1 : k < 5) (hn : 0 ≤ n) (hn2 : n ≤ 63) : ∃ m : Int, 0 < m ∧ m ≤ 300 ∧ [(1 : Int), n + 3, 4, 3 * n + 2, n / 2 + 2][k.toNat]? = some m := by
  have e : k = 0 ∨ k = 1 ∨ k = 2 ∨ k = 3 ∨ k = 4 := by omega
  rcases e with rfl | rfl | rfl | rfl | rfl
  · exact ⟨_, by decide, by decide, rfl⟩
  · exact ⟨n + 3, by omega, by omega, rfl⟩
  · exact ⟨4, by decide, by decide, rfl⟩
  · exact ⟨3 * n + 2, by omega, by omega, rfl⟩
  · exact ⟨n / 2 + 2, by omega, by omega, rfl⟩
end TS
namespace TS
/-! rows free and taken -/
def rowAbove : List Int → Int → Int
  | [], x => x
  | t :: ts, x => if t ≤ x then rowAbove ts (x + 1) else rowAbove ts x
def less (T : List Int) (r : Int) : Int := ((T.filter fun t => decide (t < r)).length : Int)
theorem less_nil (r : Int) : less [] r = 0 := rfl
theorem less_cons (t : Int) (T : List Int) (r : Int) : less (t :: T) r = (if t < r then 1 else 0) + less T r := by
  unfold less
  rw [List.filter_cons]
  by_cases h : t < r
  · rw [if_pos (decide_eq_true h), if_pos h, List.length_cons]
    omega
  · rw [if_neg (fun z => h (of_decide_eq_true z)), if_neg h]
    omega
theorem less_nonneg (T : List Int) (r : Int) : 0 ≤ less T r := by unfold less; omega
theorem less_perm {T U : List Int} (p : T.Perm U) (r : Int) : less T r = less U r := by
  unfold less
  rw [(p.filter _).length_eq]
theorem less_none {T : List Int} {r : Int} (h : ∀ t ∈ T, ¬ t < r) : less T r = 0 := by
  induction T with
  | nil => rfl
  | cons t T ih =>
    rw [less_cons, if_neg (h t (by simp)), ih fun u hu => h u (by simp [hu])]
    rfl
theorem above_stuck {T : List Int} {x : Int} (h : ∀ t ∈ T, x < t) : rowAbove T x = x := by
  induction T with
  | nil => rfl
  | cons t T ih =>
    unfold rowAbove
    rw [if_neg (by have := h t (by simp); omega), ih fun u hu => h u (by simp [hu])]
theorem above_facts : ∀ (T : List Int), T.Pairwise (· < ·) → ∀ x : Int, x ≤ rowAbove T x ∧ rowAbove T x - less T (rowAbove T x) = x ∧ rowAbove T x ∉ T ∧ rowAbove T x ≤ x + T.length
  | [], _, x => ⟨Int.le_refl _, by show x - less [] x = x; rw [less_nil]; omega, by simp, by simp [rowAbove]⟩
  | t :: T, h, x => by
    obtain ⟨h1, h2⟩ := List.pairwise_cons.mp h
    by_cases c : t ≤ x
    · have e : rowAbove (t :: T) x = rowAbove T (x + 1) := by
        show (if t ≤ x then rowAbove T (x + 1) else rowAbove T x) = _
        rw [if_pos c]
      obtain ⟨a, b, d, f⟩ := above_facts T h2 (x + 1)
      rw [e, less_cons, if_pos (by omega), List.length_cons]
      refine ⟨by omega, by omega, fun m => ?_, by omega⟩
      rcases List.mem_cons.mp m with m | m
      · omega
      · exact d m
    · have up : ∀ u ∈ t :: T, x < u := fun u hu => by
        rcases List.mem_cons.mp hu with rfl | hu
        · omega
        · have := h1 u hu; omega
      rw [above_stuck up]
      refine ⟨Int.le_refl _, ?_, fun m => ?_, by omega⟩
      · rw [less_none fun u hu => by have := up u hu; omega]
        omega
      · have := up x m
        omega
theorem less_gap : ∀ (T : List Int), T.Pairwise (· < ·) → ∀ t r : Int, (∀ u ∈ T, t < u) → t < r → less T r ≤ r - t - 1
  | [], _, t, r, _, hr => by rw [less_nil]; omega
  | u :: T, h, t, r, ht, hr => by
    obtain ⟨h1, h2⟩ := List.pairwise_cons.mp h
    rw [less_cons]
    have hu := ht u (by simp)
    by_cases c : u < r
    · rw [if_pos c]
      have := less_gap T h2 u r h1 c
      omega
    · rw [if_neg c, less_none fun v hv => by have := h1 v hv; omega]
      omega
theorem above_back : ∀ (T : List Int), T.Pairwise (· < ·) → ∀ r : Int, r ∉ T → rowAbove T (r - less T r) = r
  | [], _, r, _ => by rw [less_nil]; show r - 0 = r; omega
  | t :: T, h, r, hr => by
    obtain ⟨h1, h2⟩ := List.pairwise_cons.mp h
    have ne : r ≠ t := fun e => hr (by simp [e])
    have nm : r ∉ T := fun m => hr (by simp [m])
    by_cases c : t < r
    · have g := less_gap T h2 t r h1 c
      rw [less_cons, if_pos c]
      have e : rowAbove (t :: T) (r - (1 + less T r)) = rowAbove T (r - (1 + less T r) + 1) := by
        show (if t ≤ r - (1 + less T r) then _ else _) = _
        rw [if_pos (by omega)]
      rw [e, show r - (1 + less T r) + 1 = r - less T r by omega]
      exact above_back T h2 r nm
    · rw [less_cons, if_neg c, less_none fun u hu => by have := h1 u hu; omega]
      rw [show r - (0 + 0) = r by omega]
      refine above_stuck fun u hu => ?_
      rcases List.mem_cons.mp hu with rfl | hu
      · omega
      · have := h1 u hu; omega
theorem less_lt : ∀ (T : List Int), T.Pairwise (· < ·) → ∀ r : Int, 0 ≤ r → (∀ u ∈ T, 0 ≤ u) → less T r ≤ r
  | [], _, r, h0, _ => by rw [less_nil]; exact h0
  | t :: T, h, r, h0, hp => by
    obtain ⟨h1, h2⟩ := List.pairwise_cons.mp h
    rw [less_cons]
    by_cases c : t < r
    · have g := less_gap T h2 t r h1 c
      have := hp t (by simp)
      rw [if_pos c]
      omega
    · rw [if_neg c, less_none fun u hu => by have := h1 u hu; omega]
      omega
/-- of rows below h, how many above r -/
theorem less_up : ∀ (T : List Int), T.Pairwise (· < ·) → ∀ r h : Int, r < h → r ∉ T → (∀ u ∈ T, u < h) → (T.length : Int) - less T r ≤ h - r - 1
  | [], _, r, h, hr, _, _ => by rw [less_nil]; simp; omega
  | t :: T, w, r, h, hr, hn, hu => by
    obtain ⟨h1, h2⟩ := List.pairwise_cons.mp w
    rw [less_cons, List.length_cons]
    have ne : r ≠ t := fun e => hn (by simp [e])
    by_cases c : t < r
    · rw [if_pos c]
      have := less_up T h2 r h hr (fun m => hn (by simp [m])) fun u hu' => hu u (by simp [hu'])
      omega
    · rw [if_neg c, less_none fun u hu' => by have := h1 u hu'; omega]
      -- all above r, at most h - r - 1 of them
      have len : ∀ (U : List Int), U.Pairwise (· < ·) → ∀ a : Int, (∀ u ∈ U, a < u) → (∀ u ∈ U, u < h) → a < h → (U.length : Int) ≤ h - a - 1 := by
        intro U
        induction U with
        | nil => intro _ a _ _ ha; simp; omega
        | cons u U ih =>
          intro w a ha hb hah
          obtain ⟨w1, w2⟩ := List.pairwise_cons.mp w
          have := ih w2 u w1 (fun v hv => hb v (by simp [hv])) (hb u (by simp))
          have := ha u (by simp)
          rw [List.length_cons]
          omega
      have all : ∀ u ∈ t :: T, r < u := fun u hu' => by
        rcases List.mem_cons.mp hu' with rfl | hu'
        · omega
        · have := h1 u hu'; omega
      have := len (t :: T) w r all hu hr
      rw [List.length_cons] at this
      omega
end TS
namespace TS
/-! two sorted lists of the same numbers are one -/
theorem sorted_same : ∀ {a b : List Int}, a.Perm b → a.Pairwise (· ≤ ·) → b.Pairwise (· ≤ ·) → a = b
  | [], b, p, _, _ => (List.nil_perm.mp p).symm
  | x :: a, [], p, _, _ => by have := p.length_eq; simp at this
  | x :: a, y :: b, p, ha, hb => by
    obtain ⟨ha1, ha2⟩ := List.pairwise_cons.mp ha
    obtain ⟨hb1, hb2⟩ := List.pairwise_cons.mp hb
    have hxy : x = y := by
      have m1 : x ∈ y :: b := p.mem_iff.mp (by simp)
      have m2 : y ∈ x :: a := p.mem_iff.mpr (by simp)
      rcases List.mem_cons.mp m1 with e | m1
      · exact e
      · rcases List.mem_cons.mp m2 with e | m2
        · exact e.symm
        · have h1 := ha1 y m2
          have h2 := hb1 x m1
          omega
    subst hxy
    rw [sorted_same (List.Perm.cons_inv p) ha2 hb2]
def ins (x : Int) : List Int → List Int
  | [] => [x]
  | y :: l => if x ≤ y then x :: y :: l else y :: ins x l
def srt : List Int → List Int
  | [] => []
  | x :: l => ins x (srt l)
theorem ins_perm (x : Int) : ∀ l : List Int, (ins x l).Perm (x :: l)
  | [] => List.Perm.refl _
  | y :: l => by
    unfold ins
    split
    · exact List.Perm.refl _
    · exact ((ins_perm x l).cons y).trans (List.Perm.swap x y l)
theorem ins_pw (x : Int) : ∀ l : List Int, l.Pairwise (· ≤ ·) → (ins x l).Pairwise (· ≤ ·)
  | [], _ => by simp [ins]
  | y :: l, h => by
    obtain ⟨h1, h2⟩ := List.pairwise_cons.mp h
    unfold ins
    split
    · next c =>
      refine List.pairwise_cons.mpr ⟨fun z hz => ?_, h⟩
      rcases List.mem_cons.mp hz with rfl | hz
      · exact c
      · have := h1 z hz; omega
    · next c =>
      refine List.pairwise_cons.mpr ⟨fun z hz => ?_, ins_pw x l h2⟩
      rcases List.mem_cons.mp ((ins_perm x l).mem_iff.mp hz) with rfl | hz
      · omega
      · exact h1 z hz
theorem srt_perm : ∀ l : List Int, (srt l).Perm l
  | [] => List.Perm.refl _
  | x :: l => (ins_perm x (srt l)).trans ((srt_perm l).cons x)
theorem srt_pw : ∀ l : List Int, (srt l).Pairwise (· ≤ ·)
  | [] => List.Pairwise.nil
  | x :: l => ins_pw x _ (srt_pw l)
theorem srt_of {l m : List Int} (p : m.Perm l) (h : m.Pairwise (· ≤ ·)) : m = srt l := sorted_same (p.trans (srt_perm l).symm) h (srt_pw l)
theorem srt_congr {l m : List Int} (p : m.Perm l) : srt m = srt l := srt_of ((srt_perm m).trans p) (srt_pw m)
theorem strict_of {l : List Int} (h : l.Pairwise (· ≤ ·)) (n : l.Nodup) : l.Pairwise (· < ·) := by
  induction l with
  | nil => exact List.Pairwise.nil
  | cons x l ih =>
    obtain ⟨h1, h2⟩ := List.pairwise_cons.mp h
    obtain ⟨n1, n2⟩ := List.nodup_cons.mp n
    refine List.pairwise_cons.mpr ⟨fun y hy => ?_, ih h2 n2⟩
    have := h1 y hy
    have ne : x ≠ y := fun e => n1 (e ▸ hy)
    omega
theorem srt_strict {l : List Int} (n : l.Nodup) : (srt l).Pairwise (· < ·) := strict_of (srt_pw l) ((srt_perm l).nodup_iff.mpr n)
/-! heights and counts of the first columns -/
abbrev ht (hs : List Int) (i : Nat) : Int := hs.getD i 0
theorem ht_at {hs : List Int} {i : Nat} (h : i < hs.length) : hs[i]? = some (ht hs i) := by
  show hs[i]? = some (hs.getD i 0)
  rw [List.getD_eq_getElem?_getD, List.getElem?_eq_getElem h]
  rfl
theorem ht_nonneg {hs : List Int} (p : Pos0 hs) (i : Nat) : 0 ≤ ht hs i := by
  by_cases h : i < hs.length
  · exact p _ (List.mem_of_getElem? (ht_at h))
  · show 0 ≤ hs.getD i 0
    rw [List.getD_eq_getElem?_getD, List.getElem?_eq_none (by omega)]
    exact Int.le_refl _
abbrev cn (hs : List Int) (i k : Nat) : Int := cntF (hs.take i) k
theorem cn_succ {hs : List Int} {i : Nat} (h : i < hs.length) (m : Nat) : cn hs (i + 1) (m + 1) = if (m : Int) < ht hs i then cn hs i (m + 1) + cn hs i m * (ht hs i - m) else cn hs i (m + 1) := by
  show cntF (hs.take (i + 1)) (m + 1) = _
  rw [cntF_take (ht_at h)]
  rfl
theorem cn_zero (hs : List Int) (i : Nat) : cn hs i 0 = 1 := cntF_zero _
theorem cn_gt {hs : List Int} {i k : Nat} (h : i < k) : cn hs i k = 0 := cntF_gt _ _ (by rw [List.length_take]; omega)
theorem cn_nonneg {hs : List Int} (p : Pos0 hs) : ∀ i, i ≤ hs.length → ∀ k, 0 ≤ cn hs i k
  | 0, _, k => by
    show 0 ≤ cntF (hs.take 0) k
    rw [List.take_zero, cntF_nil]
    unfold f0
    split <;> decide
  | i + 1, h, 0 => by rw [cn_zero]; decide
  | i + 1, h, m + 1 => by
    rw [cn_succ (by omega)]
    have a := cn_nonneg p i (by omega) (m + 1)
    have b := cn_nonneg p i (by omega) m
    split
    · next c =>
      have := Int.mul_nonneg b (show 0 ≤ ht hs i - m by omega)
      omega
    · exact a
theorem cn_mono {hs : List Int} (p : Pos0 hs) {i : Nat} (h : i < hs.length) (k : Nat) : cn hs i k ≤ cn hs (i + 1) k := by
  cases k with
  | zero => rw [cn_zero, cn_zero]; exact Int.le_refl _
  | succ m =>
    rw [cn_succ h]
    split
    · next c =>
      have := Int.mul_nonneg (cn_nonneg p i (by omega) m) (show 0 ≤ ht hs i - m by omega)
      omega
    · exact Int.le_refl _
/-! a number, taken apart by free rows (the last column first) -/
inductive Enc (hs : List Int) : Nat → List (Nat × Int) → Int → Prop
  | zero : Enc hs 0 [] 0
  | skip {i : Nat} {ds : List (Nat × Int)} {num : Int} : Enc hs i ds num → Enc hs (i + 1) ds num
  | put {i : Nat} {ds : List (Nat × Int)} {num f : Int} : Enc hs i ds num → 0 ≤ f → f < ht hs i - ds.length → Enc hs (i + 1) ((i, f) :: ds) (cn hs i (ds.length + 1) + num * (ht hs i - ds.length) + f)
theorem Enc.rng {hs : List Int} (p : Pos0 hs) {i : Nat} {ds : List (Nat × Int)} {num : Int} (e : Enc hs i ds num) : i ≤ hs.length → 0 ≤ num ∧ num < cn hs i ds.length := by
  induction e with
  | zero => intro _; exact ⟨Int.le_refl _, by rw [List.length_nil, cn_zero]; decide⟩
  | skip e ih =>
    intro h
    have q := ih (by omega)
    exact ⟨q.1, Int.lt_of_lt_of_le q.2 (cn_mono p (by omega) _)⟩
  | @put i ds num f e f0 f1 ih =>
    intro h
    have q := ih (by omega)
    have hm : 0 < ht hs i - ds.length := by omega
    have w := cn_nonneg p i (by omega) (ds.length + 1)
    have a := Int.mul_nonneg q.1 (Int.le_of_lt hm)
    refine ⟨by omega, ?_⟩
    rw [List.length_cons, cn_succ (by omega), if_pos (by omega)]
    have b : num * (ht hs i - ds.length) ≤ (cn hs i ds.length - 1) * (ht hs i - ds.length) := Int.mul_le_mul_of_nonneg_right (by omega) (Int.le_of_lt hm)
    rw [Int.sub_mul, Int.one_mul] at b
    omega
def ch (hs : List Int) : Nat → Nat → Int → List (Nat × Int)
  | 0, _, _ => []
  | i + 1, k, num => if cn hs i k ≤ num then (i, (num - cn hs i k) % (ht hs i - k + 1)) :: ch hs i (k - 1) ((num - cn hs i k) / (ht hs i - k + 1)) else ch hs i k num
theorem ch_succ (hs : List Int) (i k : Nat) (num : Int) : ch hs (i + 1) k num = if cn hs i k ≤ num then (i, (num - cn hs i k) % (ht hs i - k + 1)) :: ch hs i (k - 1) ((num - cn hs i k) / (ht hs i - k + 1)) else ch hs i k num := rfl
theorem Enc.ch_eq {hs : List Int} (p : Pos0 hs) {i : Nat} {ds : List (Nat × Int)} {num : Int} (e : Enc hs i ds num) : i ≤ hs.length → ch hs i ds.length num = ds := by
  induction e with
  | zero => intro _; rfl
  | skip e ih =>
    intro h
    have q := e.rng p (by omega)
    rw [ch_succ, if_neg (by omega)]
    exact ih (by omega)
  | @put i ds num f e f0 f1 ih =>
    intro h
    have q := e.rng p (by omega)
    have hm : 0 < ht hs i - ds.length := by omega
    have a := Int.mul_nonneg q.1 (Int.le_of_lt hm)
    rw [List.length_cons, ch_succ, if_pos (by omega)]
    have e1 : ht hs i - ((ds.length + 1 : Nat) : Int) + 1 = ht hs i - ds.length := by omega
    have e2 : cn hs i (ds.length + 1) + num * (ht hs i - ds.length) + f - cn hs i (ds.length + 1) = f + num * (ht hs i - ds.length) := by omega
    rw [e1, e2, Int.add_mul_emod_self_right, Int.add_mul_ediv_right _ _ (by omega), Int.emod_eq_of_lt f0 f1, Int.ediv_eq_zero_of_lt f0 f1, Int.zero_add, Nat.add_sub_cancel, ih (by omega)]
theorem enc_ex {hs : List Int} (p : Pos0 hs) : ∀ (i : Nat), i ≤ hs.length → ∀ (k : Nat) (num : Int), 0 ≤ num → num < cn hs i k → ∃ ds, Enc hs i ds num ∧ ds.length = k
  | 0, _, k, num, h0, h1 => by
    have e : cn hs 0 k = f0 k := by
      show cntF (hs.take 0) k = f0 k
      rw [List.take_zero, cntF_nil]
    rw [e] at h1
    unfold f0 at h1
    by_cases c : k = 0
    · rw [if_pos c] at h1
      exact ⟨[], by rw [show num = 0 by omega]; exact .zero, by rw [c]; rfl⟩
    · rw [if_neg c] at h1
      omega
  | i + 1, h, k, num, h0, h1 => by
    by_cases c : num < cn hs i k
    · obtain ⟨ds, e, l⟩ := enc_ex p i (by omega) k num h0 c
      exact ⟨ds, .skip e, l⟩
    · cases k with
      | zero => rw [cn_zero] at h1 c; omega
      | succ m =>
        rw [cn_succ (by omega)] at h1
        by_cases c2 : (m : Int) < ht hs i
        · rw [if_pos c2] at h1
          have hm : 0 < ht hs i - m := by omega
          have hd : num - cn hs i (m + 1) < cn hs i m * (ht hs i - m) := by omega
          have q0 : 0 ≤ (num - cn hs i (m + 1)) / (ht hs i - m) := Int.ediv_nonneg (by omega) (by omega)
          have q1 : (num - cn hs i (m + 1)) / (ht hs i - m) < cn hs i m := Int.ediv_lt_of_lt_mul hm hd
          obtain ⟨ds, e, l⟩ := enc_ex p i (by omega) m _ q0 q1
          subst l
          have r0 := Int.emod_nonneg (num - cn hs i (ds.length + 1)) (show ht hs i - ds.length ≠ 0 by omega)
          have r1 := Int.emod_lt_of_pos (num - cn hs i (ds.length + 1)) hm
          refine ⟨(i, (num - cn hs i (ds.length + 1)) % (ht hs i - ds.length)) :: ds, ?_, rfl⟩
          have x := Enc.put e r0 r1
          have y := Int.mul_ediv_add_emod (num - cn hs i (ds.length + 1)) (ht hs i - ds.length)
          rw [Int.mul_comm] at y
          rw [show cn hs i (ds.length + 1) + (num - cn hs i (ds.length + 1)) / (ht hs i - ds.length) * (ht hs i - ds.length) + (num - cn hs i (ds.length + 1)) % (ht hs i - ds.length) = num by omega] at x
          exact x
        · rw [if_neg c2] at h1
          omega
/-! towers -/
abbrev rowsOf (ts : List (Nat × Int)) : List Int := ts.map Prod.snd
def tw : List (Nat × Int) → List (Nat × Int)
  | [] => []
  | (c, f) :: ds => tw ds ++ [(c, rowAbove (srt (rowsOf (tw ds))) f)]
theorem tw_len : ∀ ds : List (Nat × Int), (tw ds).length = ds.length
  | [] => rfl
  | (c, f) :: ds => by
    show (tw ds ++ [_]).length = ds.length + 1
    rw [List.length_append, tw_len ds]
    rfl
inductive Run (hs : List Int) : Nat → List (Nat × Int) → Int → Prop
  | zero : Run hs 0 [] 0
  | skip {i : Nat} {ts : List (Nat × Int)} {num : Int} : Run hs i ts num → Run hs (i + 1) ts num
  | put {i : Nat} {ts : List (Nat × Int)} {num r : Int} : Run hs i ts num → r ∉ rowsOf ts → 0 ≤ r → r < ht hs i → Run hs (i + 1) (ts ++ [(i, r)]) (cn hs i (ts.length + 1) + num * (ht hs i - ts.length) + (r - less (rowsOf ts) r))
structure Valid (hs : List Int) (ts : List (Nat × Int)) : Prop where
  asc : ts.Pairwise fun a b => a.1 < b.1
  cell : ∀ q ∈ ts, q.1 < hs.length ∧ 0 ≤ q.2 ∧ q.2 < ht hs q.1
  rows : (rowsOf ts).Nodup
theorem Run.facts {hs : List Int} {i : Nat} {ts : List (Nat × Int)} {num : Int} (e : Run hs i ts num) : (ts.Pairwise fun a b => a.1 < b.1) ∧ (∀ q ∈ ts, q.1 < i ∧ 0 ≤ q.2 ∧ q.2 < ht hs q.1) ∧ (rowsOf ts).Nodup := by
  induction e with
  | zero => exact ⟨List.Pairwise.nil, by simp, by simp⟩
  | skip e ih => exact ⟨ih.1, fun q hq => ⟨by have := (ih.2.1 q hq).1; omega, (ih.2.1 q hq).2⟩, ih.2.2⟩
  | @put i ts num r e h0 h1 h2 ih =>
    refine ⟨List.pairwise_append.mpr ⟨ih.1, List.pairwise_singleton _ _, fun a ha b hb => ?_⟩, fun q hq => ?_, ?_⟩
    · rw [List.mem_singleton.mp hb]
      exact (ih.2.1 a ha).1
    · rcases List.mem_append.mp hq with hq | hq
      · exact ⟨by have := (ih.2.1 q hq).1; omega, (ih.2.1 q hq).2⟩
      · rw [List.mem_singleton.mp hq]
        exact ⟨by show i < i + 1; omega, h1, h2⟩
    · show (List.map Prod.snd (ts ++ [(i, r)])).Nodup
      rw [List.map_append]
      refine List.nodup_append.mpr ⟨ih.2.2, by simp, fun a ha b hb => ?_⟩
      rw [List.mem_singleton.mp hb]
      intro z
      have z' : a = r := z
      exact h0 (z' ▸ ha)
theorem Run.valid {hs : List Int} {ts : List (Nat × Int)} {num : Int} (e : Run hs hs.length ts num) : Valid hs ts := ⟨e.facts.1, e.facts.2.1, e.facts.2.2⟩
theorem Run.low {hs : List Int} (rise : Rise hs) {i : Nat} {ts : List (Nat × Int)} {num : Int} (e : Run hs i ts num) (h : i < hs.length) : ∀ r ∈ rowsOf ts, 0 ≤ r ∧ r < ht hs i := by
  intro r hr
  obtain ⟨q, hq, rfl⟩ := List.mem_map.mp hr
  obtain ⟨a, b, c⟩ := e.facts.2.1 q hq
  have := rise q.1 i _ _ (by omega) (ht_at (show q.1 < hs.length by omega)) (ht_at h)
  omega
theorem Run.enc {hs : List Int} (rise : Rise hs) {i : Nat} {ts : List (Nat × Int)} {num : Int} (e : Run hs i ts num) : i ≤ hs.length → ∃ ds, Enc hs i ds num ∧ tw ds = ts ∧ ds.length = ts.length := by
  induction e with
  | zero => intro _; exact ⟨[], .zero, rfl, rfl⟩
  | skip e ih =>
    intro h
    obtain ⟨ds, a, b, c⟩ := ih (by omega)
    exact ⟨ds, .skip a, b, c⟩
  | @put i ts num r e h0 h1 h2 ih =>
    intro h
    obtain ⟨ds, a, b, c⟩ := ih (by omega)
    have nd := e.facts.2.2
    have lo := e.low rise (by omega)
    have st := srt_strict nd
    have lp := less_perm (srt_perm (rowsOf ts)) r
    have nm : r ∉ srt (rowsOf ts) := fun m => h0 ((srt_perm _).mem_iff.mp m)
    have x := less_lt _ st r h1 (fun u hu => (lo u ((srt_perm _).mem_iff.mp hu)).1)
    have y := less_up _ st r (ht hs i) h2 nm (fun u hu => (lo u ((srt_perm _).mem_iff.mp hu)).2)
    rw [lp] at x y
    rw [(srt_perm (rowsOf ts)).length_eq, show (rowsOf ts).length = ts.length from List.length_map _] at y
    refine ⟨(i, r - less (rowsOf ts) r) :: ds, ?_, ?_, by rw [List.length_cons, c, List.length_append]; rfl⟩
    · have z := Enc.put (f := r - less (rowsOf ts) r) a (by omega) (by rw [c]; omega)
      rw [c] at z
      exact z
    · show tw ds ++ [(i, rowAbove (srt (rowsOf (tw ds))) (r - less (rowsOf ts) r))] = ts ++ [(i, r)]
      rw [b, ← lp, above_back _ st r nm]
theorem Enc.run {hs : List Int} (rise : Rise hs) {i : Nat} {ds : List (Nat × Int)} {num : Int} (e : Enc hs i ds num) : i ≤ hs.length → Run hs i (tw ds) num := by
  induction e with
  | zero => intro _; exact .zero
  | skip e ih => intro h; exact .skip (ih (by omega))
  | @put i ds num f e f0 f1 ih =>
    intro h
    have r := ih (by omega)
    have nd := r.facts.2.2
    have st := srt_strict nd
    obtain ⟨a, b, c, d⟩ := above_facts _ st f
    rw [(srt_perm (rowsOf (tw ds))).length_eq, show (rowsOf (tw ds)).length = ds.length by rw [show (rowsOf (tw ds)).length = (tw ds).length from List.length_map _, tw_len]] at d
    have nm : rowAbove (srt (rowsOf (tw ds))) f ∉ rowsOf (tw ds) := fun m => c ((srt_perm _).mem_iff.mpr m)
    have x := Run.put r nm (by omega) (by omega)
    rw [less_perm (srt_perm (rowsOf (tw ds)))] at b
    rw [b, tw_len] at x
    exact x
theorem Run.uniq {hs : List Int} {i : Nat} {ts : List (Nat × Int)} {a : Int} (e : Run hs i ts a) : ∀ {b : Int}, Run hs i ts b → a = b := by
  induction e with
  | zero => intro b h; cases h; rfl
  | @skip i ts num e ih =>
    intro b h
    cases h with
    | skip h => exact ih h
    | @put _ ts' num' r h _ _ _ =>
      have := (e.facts.2.1 (i, r) (by simp)).1
      exact absurd this (Nat.lt_irrefl i)
  | @put i ts num r e h0 h1 h2 ih =>
    intro b h
    generalize hT : ts ++ [(i, r)] = T at h
    cases h with
    | skip h =>
      subst hT
      have := (h.facts.2.1 (i, r) (by simp)).1
      exact absurd this (Nat.lt_irrefl i)
    | @put _ ts' num' r' h _ _ _ =>
      obtain ⟨e1, e2⟩ := List.append_inj' hT rfl
      have e3 : r = r' := by
        have := List.head_eq_of_cons_eq e2
        exact congrArg Prod.snd this
      subst e1
      subst e3
      rw [ih h]
end TS
namespace TS
open PySem PySem.Spec PyProof.Rows L2
theorem ip_mulW {X : Cx} : PIp X .Mult (rI CMulW fun i j => .int (i * j)) := opI fun _ _ _ _ _ _ _ hc q => PyProof.Rows.imul_int q hc.ok
theorem rep_flat (v : V) : ∀ n : Nat, (List.replicate n [v]).flatten = List.replicate n v
  | 0 => rfl
  | n + 1 => by
    show [v] ++ (List.replicate n [v]).flatten = v :: List.replicate n v
    rw [rep_flat v n]
    rfl
end TS
namespace TS
open PySem PySem.Spec PyProof.Rows L2
/-! for i, x in enumerate(xs); the same in a comprehension; for x in reversed(xs) -/
theorem for_enum {K : PySem.W.Frag} {a : Addr} {xs : List V} {g : TG} {tb : TS} {D : Ends} {σ : L2.St} {H : Hp} (Wd : Nat → L2.St → Hp → Prop) (h0 : Wd 0 σ H) (hl : ∀ i σ H, i ≤ xs.length → Wd i σ H → SqL K H a xs)
    (hs : ∀ i x T σ H, xs[i]? = some x → Wd i σ H → H T = none → g (.ref T) σ (upd H T (.tup [.int (i : Nat), x])) fun σ9 H9 => tb { D with nx := Wd (i + 1), ct := Wd (i + 1), bk := D.nx } σ9 H9) (hd : ∀ σ H, Wd xs.length σ H → D.nx σ H) :
    ∃ Y : Nat → Nat → L2.St → Hp → Prop, (∃ m, Y 0 m σ H) ∧ ∀ i m σ H, Y i m σ H →
      ((Ite K a).stop i H ∧ D.nx σ H) ∨ ((Ite K a).go i H ∧ ∃ N : L2.St → Hp → Prop, (∀ σ' H', N σ' H' → ∃ m', m' < m ∧ Y (i + 1) m' σ' H') ∧ ∀ x H', (Ite K a).yld i H x H' → g x σ H' fun σ9 H9 => tb { D with nx := N, ct := N, bk := D.nx } σ9 H9) := by
  refine ⟨fun i m σ H => m = xs.length - i ∧ i ≤ xs.length ∧ Wd i σ H, ⟨xs.length, by simp, Nat.zero_le _, h0⟩, ?_⟩
  rintro i m σ H ⟨rfl, hi, held⟩
  have seen := hl i σ H hi held
  by_cases inside : i < xs.length
  · refine .inr ⟨⟨xs, xs[i], seen, by simp [inside]⟩, Wd (i + 1), fun σ' H' p' => ⟨xs.length - (i + 1), by omega, rfl, inside, p'⟩, fun v H' y => ?_⟩
    obtain ⟨T, x, rfl, nT, rfl, e⟩ := y
    exact hs i x T σ _ (e xs seen) held nT
  · have atEnd : i = xs.length := by omega
    subst atEnd
    exact .inl ⟨⟨xs, seen, Nat.le_refl _⟩, hd σ H held⟩
theorem lc_enum {K : PySem.W.Frag} {a : Addr} {xs : List V} {g : TG} {tt : TT} {te : TE} {vs : List Nat} {σ : L2.St} {H1 : Hp} {D : Addr} {Qd : Hp → Prop} (Wd : Nat → Hp → Prop) (h0 : Wd 0 (upd H1 D (.lst []))) (hl : ∀ i H, i ≤ xs.length → Wd i H → SqL K H a xs)
    (hs : ∀ i x T H, xs[i]? = some x → Wd i H → H T = none → g (.ref T) (wipe σ vs) (upd H T (.tup [.int (i : Nat), x])) fun σ9 H9 => wipe σ9 vs = wipe σ vs ∧ tt σ9 H9 fun b H8 =>
      if b = true then te σ9 H8 fun y H7 => ∃ made, H7 D = some (.lst made) ∧ made.length < sizeLine ∧ Wd (i + 1) (upd H7 D (.lst (made ++ [y]))) else Wd (i + 1) H8) (hd : ∀ H, Wd xs.length H → Qd H) :
    ∃ Y : Nat → Nat → Hp → Prop, (∃ m, Y 0 m (upd H1 D (.lst []))) ∧ ∀ i m H, Y i m H →
      ((Ite K a).stop i H ∧ Qd H) ∨ ((Ite K a).go i H ∧ ∃ Nw : Hp → Prop, (∀ H', Nw H' → ∃ m', m' < m ∧ Y (i + 1) m' H') ∧ ∀ x H', (Ite K a).yld i H x H' → g x (wipe σ vs) H' fun σ9 H9 => wipe σ9 vs = wipe σ vs ∧ tt σ9 H9 fun b H8 =>
        if b = true then te σ9 H8 fun y H7 => ∃ made, H7 D = some (.lst made) ∧ made.length < sizeLine ∧ Nw (upd H7 D (.lst (made ++ [y]))) else Nw H8) := by
  refine ⟨fun i m H => m = xs.length - i ∧ i ≤ xs.length ∧ Wd i H, ⟨xs.length, by simp, Nat.zero_le _, h0⟩, ?_⟩
  rintro i m H ⟨rfl, hi, held⟩
  have seen := hl i H hi held
  by_cases inside : i < xs.length
  · refine .inr ⟨⟨xs, xs[i], seen, by simp [inside]⟩, Wd (i + 1), fun H' p' => ⟨xs.length - (i + 1), by omega, rfl, inside, p'⟩, fun v H' y => ?_⟩
    obtain ⟨T, x, rfl, nT, rfl, e⟩ := y
    exact hs i x T _ (e xs seen) held nT
  · have atEnd : i = xs.length := by omega
    subst atEnd
    exact .inl ⟨⟨xs, seen, Nat.le_refl _⟩, hd H held⟩
theorem for_rev {K : PySem.W.Frag} {a : Addr} {xs : List V} {g : TG} {tb : TS} {D : Ends} {σ : L2.St} {H : Hp} (Wd : Nat → L2.St → Hp → Prop) (h0 : Wd 0 σ H) (hl : ∀ i σ H, i ≤ xs.length → Wd i σ H → SqL K H a xs)
    (hs : ∀ i x σ H, i < xs.length → xs[xs.length - 1 - i]? = some x → Wd i σ H → g x σ H fun σ9 H9 => tb { D with nx := Wd (i + 1), ct := Wd (i + 1), bk := D.nx } σ9 H9) (hd : ∀ σ H, Wd xs.length σ H → D.nx σ H) :
    ∃ Y : Nat → Nat → L2.St → Hp → Prop, (∃ m, Y 0 m σ H) ∧ ∀ i m σ H, Y i m σ H →
      ((Itv K a xs.length).stop i H ∧ D.nx σ H) ∨ ((Itv K a xs.length).go i H ∧ ∃ N : L2.St → Hp → Prop, (∀ σ' H', N σ' H' → ∃ m', m' < m ∧ Y (i + 1) m' σ' H') ∧ ∀ x H', (Itv K a xs.length).yld i H x H' → g x σ H' fun σ9 H9 => tb { D with nx := N, ct := N, bk := D.nx } σ9 H9) := by
  refine ⟨fun i m σ H => m = xs.length - i ∧ i ≤ xs.length ∧ Wd i σ H, ⟨xs.length, by simp, Nat.zero_le _, h0⟩, ?_⟩
  rintro i m σ H ⟨rfl, hi, held⟩
  have seen := hl i σ H hi held
  by_cases inside : i < xs.length
  · have back : xs.length - 1 - i < xs.length := by omega
    refine .inr ⟨⟨inside, xs, xs[xs.length - 1 - i], seen, by simp [back]⟩, Wd (i + 1), fun σ' H' p' => ⟨xs.length - (i + 1), by omega, rfl, inside, p'⟩, fun v H' y => ?_⟩
    obtain ⟨rfl, e⟩ := y
    exact hs i v σ _ inside (e xs seen) held
  · have atEnd : i = xs.length := by omega
    subst atEnd
    exact .inl ⟨Nat.le_refl _, hd σ H held⟩
/-! rules within a comprehension: the written part named -/
theorem ixLK {X : Cx} {K : PySem.W.Frag} (h : X.K = K := by rfl) : IxR X (rIxL K) := by
  subst h
  exact ix_list
theorem ixTK {X : Cx} {K : PySem.W.Frag} (h : X.K = K := by rfl) : IxR X (rIxT K) := by
  subst h
  exact ix_tup
theorem notInK {X : Cx} {K : PySem.W.Frag} (h : X.K = K := by rfl) : OpR X (compareOp .NotIn) (rIn K true) := by
  subst h
  exact op_notIn_seq
theorem isiK {X : Cx} {K : PySem.W.Frag} (h : X.K = K := by rfl) : CallR X (.builtin "isinstance") (rIsi K) := by
  subst h
  exact call_isi
def rLenK (K : PySem.W.Frag) : List V → Hp → VK → Prop := fun xs H Q => ∃ p ys, xs = [.ref p] ∧ (SqL K H p ys ∨ SqT K H p ys) ∧ Q (.int ys.length) H
theorem lenK {X : Cx} {K : PySem.W.Frag} (h : X.K = K := by rfl) : CallR X (.builtin "len") (rLenK K) := by
  subst h
  exact call_len_seq
end TS
namespace TS
open PySem PySem.Spec PyProof.Rows L2
section
variable {P : Program} {w : World} {K : PySem.W.Frag} {mg : Str → Option Value} {base : Heap}
def spCellAt (K : PySem.W.Frag) : Sp := fun vs H Q _ => ∃ (a : Addr) (ns : List Int) (k : Nat), vs = [.ref a, .int (k : Int)] ∧ IL K H a ns ∧ Q (.int (ns.getD k 0)) H
theorem ok_l_cell_at {f : Addr} {fd : FuncData} {n : Nat} (B : Bl mg) (F : Fun K "_law_cell_at" "_law_cell_at" s_l_cell_at f fd) : FnOk P w K mg base CX0 (n + 1) f fd ["_law_script", "_law_k"] (spCellAt K) := by
  refine F.ok sc_l_cell_at (fun vs H Q E h => ?_) (fun cdv A outer s H vs Q E hr h => ?_)
  · obtain ⟨a, ns, k, rfl, _⟩ := h
    rfl
  · obtain ⟨a, ns, k, rfl, hS, q⟩ := h
    refine ⟨_, (pss_cons (ps_if (pt_cmpR op_lt (pv 1) (pe_callB call_len_seq (by rfl) B.len PySem.boot_len (pa_cons (pv 0) pa_nil)) (nomark _))
  (pss_one (ps_ret (pe_ix ix_list (pv 0) (pv 1) (fun _ _ => rfl))))
  pss_nil)
 (pss_one (ps_ret pe_int))), ?_⟩
    refine ⟨_, rfl, _, rfl, a, _, rfl, .inl hS, _, _, rfl, rfl, _, rfl, ite2 (fun c => ?_) (fun c => ?_)⟩
    · have hk : k < ns.length := by
        have c' := of_decide_eq_true c
        rw [List.length_map] at c'
        omega
      exact ⟨_, rfl, _, rfl, a, _, _, _, rfl, rfl, hS, atI_nat (mapI_at (getD_at hk)), q⟩
    · have hk : ¬ k < ns.length := fun z => c (decide_eq_true (by rw [List.length_map]; omega))
      have e : ns.getD k 0 = 0 := by
        rw [List.getD_eq_getElem?_getD, List.getElem?_eq_none (by omega)]
        rfl
      rw [e] at q
      exact q
/-! drawn numbers -/
def primes : List Int := [1000003, 1000033, 1000037, 1000039, 1000081, 1000099, 1000117, 1000121, 1000133, 1000151, 1000159, 1000171, 1000183, 1000187, 1000193, 1000199]
def draw (c : Int) (k : Nat) (m : Int) : Int := (c * 48271 + (k : Int) * 69621) % primes.getD (k % 16) 1 % m
theorem draw_nonneg {c : Int} {k : Nat} {m : Int} (h : 0 < m) : 0 ≤ draw c k m := Int.emod_nonneg _ (by omega)
theorem draw_lt {c : Int} {k : Nat} {m : Int} (h : 0 < m) : draw c k m < m := Int.emod_lt_of_pos _ h
theorem primes_pos {j : Nat} (h : j < 16) : 0 < primes.getD j 1 := by
  have q : ∀ j : Fin 16, 0 < primes.getD j.val 1 := by decide +kernel
  exact q ⟨j, h⟩
def spDraw : Sp := fun vs H Q _ => ∃ (c m : Int) (k : Nat), vs = [.int c, .int (k : Int), .int m] ∧ 0 < m ∧ k < 1000000 ∧ ∀ H', Same H H' → Q (.int (draw c k m)) H'
theorem ok_l_draw {f : Addr} {fd : FuncData} {n : Nat} (B : Bl mg) (F : Fun K "_law_draw" "_law_draw" s_l_draw f fd) : FnOk P w K mg base CX0 (n + 1) f fd ["_law_cell", "_law_k", "_law_many"] spDraw := by
  refine F.ok sc_l_draw (fun vs H Q E h => ?_) (fun cdv A outer s H vs Q E hr h => ?_)
  · obtain ⟨c, m, k, rfl, _⟩ := h
    rfl
  · obtain ⟨c, m, k, rfl, hm, hk, q⟩ := h
    refine ⟨_, (pss_cons (ps_set (i := 3) sc_l_draw.nd rfl (.inl rfl) (pe_tup (pa_cons pe_int (pa_cons pe_int (pa_cons pe_int (pa_cons pe_int (pa_cons pe_int (pa_cons pe_int (pa_cons pe_int (pa_cons pe_int (pa_cons pe_int (pa_cons pe_int (pa_cons pe_int (pa_cons pe_int (pa_cons pe_int (pa_cons pe_int (pa_cons pe_int (pa_cons pe_int pa_nil))))))))))))))))))
 (pss_one (ps_ret (pe_op op_mod (pe_op op_mod (pe_op op_add (pe_op op_mul (pv 0) pe_int) (pe_op op_mul (pv 1) pe_int)) (pe_ix ix_tup (pv 3) (pe_op op_mod (pv 1) pe_int) (fun _ _ => rfl))) (pv 2))))), ?_⟩
    refine ⟨by show 16 ≤ sizeLine; decide, fun t ht => ?_⟩
    have hj : k % 16 < 16 := Nat.mod_lt _ (by decide)
    have ht2 : SqT K (upd H t (.tup (primes.map V.int))) t (primes.map V.int) := SqT.of upd_same
    have hat : atI (primes.map V.int) ((k : Int) % 16) = some (.int (primes.getD (k % 16) 1)) := by
      have e : ((k : Int) % 16) = ((k % 16 : Nat) : Int) := by omega
      rw [e]
      refine atI_nat (mapI_at ?_)
      rw [List.getD_eq_getElem?_getD, List.getElem?_eq_getElem (show k % 16 < primes.length from hj)]
      rfl
    refine ⟨_, rfl, _, _, rfl, rfl, .inr ⟨by decide, by decide⟩, _, rfl, _, _, rfl, rfl, .inr ⟨by decide, by decide⟩, _, _, rfl, rfl, _, rfl, _, rfl, _, _, rfl, rfl, (by show (0 : Int) < 16; decide), _, _, _, _, rfl, rfl, ht2, hat, _, _, rfl, rfl, primes_pos hj, _, rfl, _, _, rfl, rfl, hm, ?_⟩
    exact q _ (same_upd ht)
end
end TS
namespace TS
open PySem PySem.Spec PyProof.Rows L2
/-- heights that are not too high, not too many -/
structure Good (hs : List Int) : Prop where
  rise : Rise hs
  pos : Pos0 hs
  low : ∀ x ∈ hs, x + 1 ≤ 2 ^ 208
  len : hs.length ≤ 100
theorem Good.b {hs : List Int} (g : Good hs) : ∀ x ∈ hs, 0 ≤ x ∧ x + 1 ≤ 2 ^ 208 := fun x hx => ⟨g.pos x hx, g.low x hx⟩
theorem cnt_take {hs : List Int} (g : Good hs) (i k : Nat) : (cntF (hs.take i) k).natAbs < 2 ^ (208 * 100 + 1) := by
  have q := cnt_abs (hs := hs.take i) (fun x hx => g.b x (List.mem_of_mem_take hx)) k
  refine pow_up q ?_
  have := g.len
  rw [List.length_take]
  omega
end TS
namespace TS
open PySem PySem.Spec PyProof.Rows L2
theorem cut_to (xs : List V) (n : Nat) : cutV xs none (some (n : Int)) = xs.take n := by
  unfold cutV
  rw [HT.sIx_none, HT.sIx_nat, Nat.sub_zero]
  show (List.drop 0 xs).take (min n xs.length) = xs.take n
  rw [List.drop_zero, List.take_eq_take_iff]
  omega
theorem Good.of {n : Nat} {hs : List Int} (g : GoodS n hs) : Good hs := by
  have b : (10 : Int) ^ 59 + 1 ≤ 2 ^ 208 := by decide
  refine ⟨g.rise, g.pos, fun x hx => ?_, ?_⟩
  · have := g.low x hx
    omega
  · have := g.len
    omega
section
variable {P : Program} {w : World} {K : PySem.W.Frag} {mg : Str → Option Value} {base : Heap}
def spStairs (K : PySem.W.Frag) : Sp := fun vs H Q _ => ∃ (a : Addr) (ns : List Int), vs = [.ref a] ∧ IL K H a ns ∧
  ∀ hs H' p, GoodS ns.length hs → Same H H' → H p = none → H' p = some (.lst (hs.map V.int)) → Q (.ref p) H'
theorem ok_l_stairs {f fC fD : Addr} {fd fdC fdD : FuncData} {m : Nat} (B : Bl mg) (Dl_cell_at : Df P w K mg base "_law_cell_at" (m + 1) ["_law_script", "_law_k"] (spCellAt K) fC fdC)
    (Dl_draw : Df P w K mg base "_law_draw" (m + 1) ["_law_cell", "_law_k", "_law_many"] spDraw fD fdD)
    (F : Fun K "_law_stairs" "_law_stairs" s_l_stairs f fd) : FnOk P w K mg base CX0 (m + 1 + 1) f fd ["_law_script"] (spStairs K) := by
  refine F.ok sc_l_stairs (fun vs H Q E h => ?_) (fun cdv A outer s H vs Q E hr h => ?_)
  · obtain ⟨a, ns, rfl, _⟩ := h
    rfl
  · obtain ⟨a, ns, rfl, hS, q⟩ := h
    refine ⟨_, (pss_cons (ps_set (i := 0) sc_l_stairs.nd rfl (.inr rfl) (pe_slice sl_list (pv 0) po_none (po_some pe_int)))
 (pss_cons (ps_par (i := 1) (j := 2) rfl sc_l_stairs.nd rfl rfl (by decide) rfl rfl (pa_cons (pe_call Dl_draw.ok (hr.mono (Nat.le_refl _)) (by rfl) Dl_draw.g Dl_draw.kp Dl_draw.b .nil pass0 (pa_cons (pe_call Dl_cell_at.ok (hr.mono (Nat.le_refl _)) (by rfl) Dl_cell_at.g Dl_cell_at.kp Dl_cell_at.b .nil pass0 (pa_cons (pv 0) (pa_cons pe_int pa_nil))) (pa_cons pe_int (pa_cons pe_int pa_nil)))) (pa_cons (pe_callB call_len_seq (by rfl) B.len PySem.boot_len (pa_cons (pv 0) pa_nil)) pa_nil)) (by rfl))
 (pss_cons (ps_if (pt_cmpR op_eq (pv 1) pe_int (nomark _))
  (pss_one (ps_ret (pe_callB cr_sorted (by rfl) B.sorted (by decide +kernel) (pa_cons (pe_lc (own := [("_law_cell", 5)]) (g := gName 5) (tt := tYes) rfl sc_l_stairs.nd (pi_list (pv 0)) (blkOk_by (N := N_l_stairs) (sc := defScope s_l_stairs) (by decide +kernel)) (fun _ _ _ _ _ => pg_name (i := 5) sc_l_stairs.nd rfl (Or.inl rfl)) (fun _ _ _ _ _ => pts_nil) (fun _ _ _ _ _ => (pe_op op_mod (pe_op op_fdiv (pv 5) pe_int) (pe_op op_pow pe_int pe_int)))) pa_nil))))
  pss_nil)
 (pss_cons (ps_set (i := 3) sc_l_stairs.nd rfl (.inr rfl) (pe_ix ix_tup (pe_tup (pa_cons pe_int (pa_cons (pe_op op_add (pv 2) pe_int) (pa_cons pe_int (pa_cons (pe_op op_add (pe_op op_mul pe_int (pv 2)) pe_int) (pa_cons (pe_op op_add (pe_op op_fdiv (pv 2) pe_int) pe_int) pa_nil)))))) (pv 1) (fun _ _ => rfl)))
 (pss_cons (ps_set (i := 4) sc_l_stairs.nd rfl (.inl rfl) (pe_callB cr_sorted (by rfl) B.sorted (by decide +kernel) (pa_cons (pe_lc (own := [("_law_k", 6)]) (g := gName 6) (tt := tYes) rfl sc_l_stairs.nd (pi_range1 rfl B.range (pa_cons (pv 2) pa_nil)) (blkOk_by (N := N_l_stairs) (sc := defScope s_l_stairs) (by decide +kernel)) (fun _ _ _ _ _ => pg_name (i := 6) sc_l_stairs.nd rfl (Or.inl rfl)) (fun _ _ _ _ _ => pts_nil) (fun _ _ _ _ _ => (pe_call Dl_draw.ok (hr.mono (Nat.le_refl _)) (by rfl) Dl_draw.g Dl_draw.kp Dl_draw.b .nil pass0 (pa_cons (pe_ix ixLK (pv 0) (pv 6) (fun _ _ => rfl)) (pa_cons (pe_op op_add (pe_op op_mod (pv 6) pe_int) pe_int) (pa_cons (pv 3) pa_nil)))))) pa_nil)))
 (pss_cons (ps_if (pt_cmpR op_eq (pv 1) pe_int (nomark _))
  (pss_one (ps_setLc (i := 4) (own := [("_law_k", 6), ("_law_height", 7)]) (g := gTup K 2 (gCons (gName 6) (gCons (gName 7) (gNil)))) (tt := tYes) rfl sc_l_stairs.nd rfl rfl (sw_true rfl rfl rfl (by decide +kernel)) (pi_enum (by rfl) B.enumerate (pa_cons (pv 4) pa_nil)) (blkOk_by (N := N_l_stairs) (sc := defScope s_l_stairs) (by decide +kernel)) (fun _ _ _ _ _ => pg_tup rfl (pgs_cons (pg_name (i := 6) sc_l_stairs.nd rfl (.inl rfl)) (pgs_cons (pg_name (i := 7) sc_l_stairs.nd rfl (.inl rfl)) pgs_nil))) (fun _ _ _ _ _ => pts_nil) (fun _ _ _ _ _ => (pe_op op_add (pv 7) (pv 6)))))
  pss_nil)
 (pss_one (ps_ret (pv 4))))))))), ?_⟩
    refine ⟨_, rfl, (63 : Int), rfl, a, _, rfl, hS, fun c nc => ?_⟩
    rw [show cutV (ns.map V.int) none (some (63 : Int)) = (ns.take 63).map V.int by rw [List.map_take]; exact cut_to _ 63]
    obtain ⟨ms, hms⟩ : ∃ ms, ms = ns.take 63 := ⟨_, rfl⟩
    rw [← hms]
    have hml : ms.length = min 63 ns.length := by rw [hms, List.length_take]
    have s1 : Same H (upd H c (.lst (ms.map V.int))) := same_upd nc
    have hc : (upd H c (.lst (ms.map V.int))) c = some (.lst (ms.map V.int)) := upd_same
    revert s1 hc
    generalize upd H c (.lst (ms.map V.int)) = H1
    intro s1 hc
    refine ⟨_, rfl, c, ms, 0, rfl, il_of hc, _, 5, 6, rfl, by decide, by decide, fun H2 s2 => ?_⟩
    have hc2 : H2 c = some (.lst (ms.map V.int)) := s2 _ _ hc
    have sm := s1.trans s2
    have d0 := draw_nonneg (c := ms.getD 0 0) (k := 6) (m := 5) (by decide)
    have d1 := draw_lt (c := ms.getD 0 0) (k := 6) (m := 5) (by decide)
    revert d0 d1
    generalize draw (ms.getD 0 0) 6 5 = kind
    intro d0 d1
    have hml2 : (((ms.map V.int).length : Nat) : Int) = (ms.length : Int) := by rw [List.length_map]
    refine ⟨_, rfl, c, _, rfl, .inl (SqL.of hc2), _, _, rfl, ?_⟩
    rw [hml2]
    refine ⟨_, rfl, rfl, _, rfl, ite2 (fun e => ?_) (fun e => ?_)⟩
    · -- the numbers themselves
      refine ⟨_, rfl, c, rfl, ⟨_, SqL.of hc2⟩, fun L nL => lc_list (K := K) (a := c) (xs := ms.map V.int) (fun i H' => Same H2 H' ∧ H' L = some (.lst (((ms.map fun x => x / 5 % 10 ^ 59).take i).map V.int)))
        ⟨same_upd nL, upd_same⟩ (fun i H' _ p => p.1.seq (SqL.of hc2)) ?_ ?_⟩
      · rintro i x H' hi ⟨s3, hL⟩
        obtain ⟨n, rfl, hn⟩ := mapI_get hi
        refine ⟨rfl, _, rfl, _, _, rfl, rfl, ⟨by decide, by decide⟩, _, _, rfl, rfl, ⟨by decide, by decide, by decide⟩, _, _, rfl, rfl, (by show (0 : Int) < 10 ^ 59; decide), _, hL, ?_, same_mut s3 nL, ?_⟩
        · rw [List.length_map, List.length_take, List.length_map]
          exact sz63' (by omega)
        · rw [upd_same, List.take_add_one, List.getElem?_map, hn, List.map_append]
          rfl
      · rintro H' ⟨s3, hL⟩
        rw [List.length_map, List.take_of_length_le (by rw [List.length_map]; omega)] at hL
        refine ⟨L, _, rfl, SqL.of hL, by rw [List.length_map]; omega, fun hs p hp hw np => ?_⟩
        exact q hs _ p (goodS_mod hp hw hml) (sm.trans (s3.trans (same_upd np))) ((sm.trans s3).free np) upd_same
    · -- the menu
      obtain ⟨mo, m0, m3, hmo⟩ := most_menu (n := (ms.length : Int)) d0 d1 (by omega) (by omega)
      refine ⟨_, rfl, _, _, rfl, rfl, _, rfl, _, _, rfl, rfl, .inl ⟨by decide, by decide⟩, _, _, rfl, rfl, _, rfl, _, _, rfl, rfl, ⟨by decide, by decide⟩, _, _, rfl, rfl, by show 5 ≤ sizeLine; decide, fun t nt => ?_⟩
      have ht : SqT K (upd H2 t (.tup ([(1 : Int), (ms.length : Int) + 3, 4, 3 * (ms.length : Int) + 2, (ms.length : Int) / 2 + 2].map V.int))) t ([(1 : Int), (ms.length : Int) + 3, 4, 3 * (ms.length : Int) + 2, (ms.length : Int) / 2 + 2].map V.int) := SqT.of upd_same
      refine ⟨_, rfl, t, _, _, _, rfl, rfl, ht, at_of (j := kind.toNat) (by omega) (mapI_at hmo), ?_⟩
      have sm3 : Same H2 (upd H2 t (.tup ([(1 : Int), (ms.length : Int) + 3, 4, 3 * (ms.length : Int) + 2, (ms.length : Int) / 2 + 2].map V.int))) := same_upd nt
      show _
      revert sm3
      show Same H2 (upd H2 t (.tup ([V.int 1, V.int ((ms.length : Int) + 3), V.int 4, V.int (3 * (ms.length : Int) + 2), V.int ((ms.length : Int) / 2 + 2)]))) → _
      generalize upd H2 t (.tup ([V.int 1, V.int ((ms.length : Int) + 3), V.int 4, V.int (3 * (ms.length : Int) + 2), V.int ((ms.length : Int) / 2 + 2)])) = H3
      intro sm3
      have hc3 : H3 c = some (.lst (ms.map V.int)) := sm3 _ _ hc2
      have sm' := sm.trans sm3
      refine ⟨_, rfl, _, rfl, by omega, by omega, fun L nL => lc_range (lo := 0) (n := ((ms.length : Nat) : Int).toNat) (fun i H' => ∃ ds : List Int, Same H3 H' ∧ H' L = some (.lst (ds.map V.int)) ∧ ds.length = i ∧ ∀ x ∈ ds, 0 ≤ x ∧ x < mo)
        ⟨[], same_upd nL, upd_same, rfl, fun x hx => by cases hx⟩ ?_ ?_⟩
      · rintro i H' hi ⟨ds, s4, hL, hl, hd⟩
        have hi' : i < ms.length := by omega
        have hc4 : H' c = some (.lst (ms.map V.int)) := s4 _ _ hc3
        have ez : (0 : Int) + (i : Int) = (i : Int) := by omega
        have ek : ((i : Int)) % 5 + 1 = ((i % 5 + 1 : Nat) : Int) := by omega
        rw [ez]
        refine ⟨rfl, _, rfl, _, rfl, c, _, _, _, rfl, rfl, SqL.of hc4, atI_nat (mapI_at (getD_at hi')), _, rfl, _, _, rfl, rfl, (by show (0 : Int) < 5; decide), _, _, rfl, rfl, _, rfl, ms.getD i 0, mo, i % 5 + 1, ?_, m0, by omega, fun H5 s5 => ?_⟩
        · rw [← ek]
          rfl
        · refine ⟨_, s5 _ _ hL, ?_, ds ++ [draw (ms.getD i 0) (i % 5 + 1) mo], same_mut (s4.trans s5) nL, ?_, ?_, ?_⟩
          · rw [List.length_map]
            exact sz63' (by omega)
          · rw [upd_same, List.map_append]
            rfl
          · rw [List.length_append, List.length_singleton, hl]
          · intro x hx
            rcases List.mem_append.mp hx with hx | hx
            · exact hd x hx
            · rw [List.mem_singleton.mp hx]
              exact ⟨draw_nonneg m0, draw_lt m0⟩
      · rintro H' ⟨ds, s4, hL, hl, hd⟩
        rw [Int.toNat_natCast] at hl
        refine ⟨L, ds, rfl, SqL.of hL, by omega, fun hs p hp hw np => ?_⟩
        have good := goodS_draw (n := ns.length) hp hw m3 hd (hl.trans hml)
        have sp := sm'.trans (s4.trans (same_upd (o := .lst (hs.map V.int)) np))
        have hp5 : (upd H' p (.lst (hs.map V.int))) p = some (.lst (hs.map V.int)) := upd_same
        have np0 := (sm'.trans s4).free np
        revert sp hp5
        generalize upd H' p (.lst (hs.map V.int)) = H5
        intro sp hp5
        refine ⟨_, rfl, rfl, _, rfl, ite2 (fun e3 => ?_) (fun e3 => ?_)⟩
        · refine ⟨_, rfl, p, _, rfl, SqL.of hp5, fun L2 nL2 => lc_enum (K := K) (a := p) (xs := hs.map V.int) (fun i H' => Same H5 H' ∧ H' L2 = some (.lst ((lift hs i).map V.int)))
            ⟨same_upd nL2, upd_same⟩ (fun i H' _ p => p.1.seq (SqL.of hp5)) ?_ ?_⟩
          · rintro i x T H' hi ⟨s6, hL6⟩ nT
            obtain ⟨h, rfl, hh⟩ := mapI_get hi
            have hi' : i < hs.length := (List.getElem?_eq_some_iff.mp hh).1
            have lh := good.1.len
            refine ⟨T, _, rfl, SqT.of upd_same, rfl, _, _, rfl, _, _, rfl, rfl, rfl, _, rfl, _, rfl, _, _, rfl, rfl, _, (same_upd nT) _ _ hL6, ?_, same_mut (s6.trans (same_upd nT)) nL2, ?_⟩
            · rw [List.length_map, lift, tab_len]
              exact sz63' (by omega)
            · rw [upd_same, lift_succ hh, List.map_append]
              rfl
          · rintro H' ⟨s6, hL6⟩
            rw [List.length_map] at hL6
            exact ⟨_, rfl, q _ H' L2 good.2 (sp.trans s6) (sp.free nL2) hL6⟩
        · exact ⟨_, rfl, q hs H5 p good.1 sp np0 hp5⟩
end
end TS
namespace TS
open PySem PySem.Spec PyProof.Rows L2 L2H
/-! the error that a suite holds, handed to a def: its object stays pinned while the def runs -/
structure Caught (D : Addr) (p : Addr × Obj) : Prop where
  z : Zc (.ref D) none p.2
  f : ∃ vs, p.2.data = .fields vs
theorem Caught.inst {D : Addr} {p : Addr × Obj} (c : Caught D p) {h : Heap} (g : h.get? p.1 = some p.2) : PySem.W.InstAt h p.1 p.2 D none := by
  obtain ⟨a, oc, od, dt, sl⟩ := p
  obtain ⟨⟨e1, e2⟩, vs, e3⟩ := c
  simp only at e1 e2 e3 g
  cases e1
  cases e2
  cases e3
  exact ⟨g, rfl, rfl, trivial⟩
theorem isi_err {X : Cx} {D : Addr} {p : Addr × Obj} (C : ExcC X.K D) (hp : p ∈ X.pn) (hc : Caught D p) : CallR X (.builtin "isinstance") (rIsE X.K D p.1) := by
  rintro pins s σ H xs us Q I (_ | ⟨r1, _ | ⟨r2, _ | _⟩⟩) ⟨c, cv, b, ex, ec, kit, q⟩
  all_goals cases ex
  cases r1
  cases ec _ r2
  exact PySem.W.kia_one (PySem.W.handS_kitx_exc C.hg C.hk C.hs C.hd C.ha C.hn C.ht C.hm) I.kIn (hc.inst (I.pin p (List.mem_append_left _ hp)).1) kit (fun z => nomatch z)
    fun tk => ⟨.bl b, H, I.kept (t' := tk) fun _ _ e => e, rfl, q⟩
/-- what a def promises of such an error, p: it raises nothing -/
structure FnP (P : Program) (w : World) (K : PySem.W.Frag) (mg : Str → Option Value) (base : Heap) (k : Nat) (f : Addr) (fd : FuncData) (ps : List Str) (sp : Addr × Obj → Sp) : Prop where
  size : ∀ p vs H Q E, sp p vs H Q E → vs.length = ps.length
  goes : ∀ (p : Addr × Obj) (A : Around) (outer : List Env) (s : Shared) (H : Hp) (us : List Value) (vs : List V) (Q : VK) (E : XK), RoomH k A → PinOk outer H s p → Env0 P w K mg base A outer s H → BindsTo s fd ⟨us, []⟩ (ps.zip us) → Vals vs us → sp p vs H Q E →
    codeAny (model P w) A (.call (.ref f) ⟨us, []⟩) (CR CX0 outer P w H s Q E) s
section
variable {P : Program} {w : World} {K : PySem.W.Frag} {mg : Str → Option Value} {base : Heap}
theorem fun_okP {x qual : Str} {st : Stmt} {f : Addr} {fd : FuncData} {N ps : List Str} {k : Nat} {sp : Addr × Obj → Sp} (F : Fun K x qual st f fd) (S : FnScope N ps (defScope st)) (len : ∀ p vs H Q E, sp p vs H Q E → vs.length = ps.length)
    (body : ∀ (cdv : Value) (A : Around) (outer : List Env) (s : Shared) (H : Hp) (vs : List V) (Q : VK) (E : XK) (p : Addr × Obj), sp p vs H Q E →
      ∃ t, PSs (cxH CX0 P w K mg base N qual (defScope st) f cdv A outer s H E p) (defBody st) t ∧ t { nx := fun _ H' => Q .non H', rt := Q } (L2.start N vs) H) : FnP P w K mg base (k + 1) f fd ps sp := by
  obtain ⟨oc, od, kV, doc, pm, an, cdv, ct, osl, rfl, lk, hcd⟩ := F.ex
  constructor
  · exact len
  intro p A outer s H us vs Q E room pinned e0 binds rel h
  have kin : K.In s.heap := e0.mod.kin.keeps fun b o e => (e0.bs b o e).1
  have named : ∀ y ∈ ps.zip us, (defScope st).names.lookup y.1 = some .local ∨ ((defScope st).names.lookup y.1 = some .cell ∧ ((cellsFrom (s.heap.objs.size + 1) (defScope st).names []).lookup y.1).isSome = true) := by
    rintro ⟨n, v⟩ m
    exact (S.par n (List.of_mem_zip m).1).imp id fun q => ⟨q, PySem.W.cellsFrom_some _ _ _ (.inl q)⟩
  refine codeAny_call_function room.depth (kin _ _ lk) rfl S.co S.gen rfl (PySem.W.codeRec_of kin hcd) (binds _ _ _ _ (wpAny_newFunctionEnv_cells S.kind named ?_))
  rintro _ rfl s1 made
  have lim : s.heap.NoLimit := e0.mod.nolimit.keeps fun b o e => (e0.bs b o e).1
  obtain ⟨t, run, read⟩ := body cdv A outer s H vs Q E p h
  refine ⟨lim.keeps made.toInCall.keep, codeAny_func (wpAny_mono (run.run [] s1 _ H _ (inv_startH S pinned e0 (len _ _ _ _ _ h) rel made) read) ?_ fun _ _ z => z)⟩
  rintro (_ | _ | _ | u) s2 out
  · obtain ⟨σ2, H2, J, q⟩ := out
    exact ⟨.non, H2, J.os, J.bare, J.base, J.hok, rfl, q⟩
  · exact out.elim fun _ z => z.elim fun _ z => z.2.elim
  · exact out.elim fun _ z => z.elim fun _ z => z.2.elim
  · obtain ⟨v, σ2, H2, J, rv, q⟩ := out
    exact ⟨v, H2, J.os, J.bare, J.base, J.hok, rv, q⟩
end
theorem pe_callP {X : Cx} {k : Nat} {f : Addr} {fd : FuncData} {ps : List Str} {sp : Addr × Obj → Sp} {x : Str} {q pos : Pos} {e : Expr} {es : List Expr} {t : TA} {p : Addr × Obj} (F : FnP X.prog X.w X.K X.mg X.base k f fd ps sp) (hr : RoomH k X.A) (hp : p ∈ X.pn)
    (hg : Gl X x) (hm : X.mg x = some (.ref f)) (hk : PySem.W.keepIn X.K (.ref f) = true) (hb : Binds X.K fd ps []) (ha : PA X (e :: es) t)
    (hdb : (x == ("__debug__" : Str)) = false := by decide) (he : starEach (e :: es) X.env = (false, eval e X.env) :: starEach es X.env := by rfl) (hpl : (backTo pos (starEach es X.env)).any (·.1) = false := by rfl) :
    PE X (.Call (.Name x q) (e :: es) [] pos) (fun σ H Q => t σ H fun vs H1 => sp p vs H1 Q fun _ _ _ => False) := by
  constructor
  intro pins s σ H Q I h
  refine wpAny_Call_Name_kw (ld_glob I hg hm (PySem.W.callWith_K (h₀ := X.base) I.ok.mod.kin hk (thn (ha.run pos pins s σ H _ I h) ?_) he hpl) hdb)
  rintro us s1 ⟨vs, H1, J, rel, h1⟩
  refine ⟨J.kIn, ?_⟩
  have hl : us.length = ps.length := rel.length.symm.trans (F.size _ _ _ _ _ h1)
  have bnd := hb s1 us J.kIn (by rw [List.append_nil]; exact hl)
  rw [List.append_nil] at bnd
  obtain ⟨g1, g2, g3, g4, g5⟩ := J.pin p (List.mem_append_left _ hp)
  have away : p.1 ∉ frs X.stack := fun m => by
    rcases List.mem_cons.mp (J.stkSub p.1 m) with z | z
    · exact g3 z
    · exact g4 z
  refine wpAny_call (codeAny_mono (F.goes p X.A X.stack s1 H1 us vs Q _ hr ⟨g1, g2, away, g5⟩ J.env0 bnd rel h1) ?_)
  rintro (z | z | z | z | u) s2 out
  · exact out.elim
  all_goals first | exact J.after out | exact False.elim out
end TS
namespace TS
open PySem PySem.Spec PyProof.Rows L2
/-! what was handed in, of any kind -/
/-- its type is none of those that isinstance(_, T) takes -/
def NoTy (K : PySem.W.Frag) (T : String) (H : Hp) (x : V) : Prop := ∃ t, TyX K H x t ∧ PySem.W.kitOne K t (.type T) = some false
/-- neither a whole number, or it is a truth value -/
def NoNum (K : PySem.W.Frag) (H : Hp) (x : V) : Prop := (∃ b, x = .bl b) ∨ NoTy K "int" H x
theorem noTy_non {K : PySem.W.Frag} {T : String} {H : Hp} (e : kitB "NoneType" T = some false) : NoTy K T H .non := ⟨_, .base .non, kit_ty e⟩
theorem noTy_str {K : PySem.W.Frag} {T : String} {H : Hp} (x : Str) (e : kitB "str" T = some false) : NoTy K T H (.str x) := ⟨_, .base (.str x), kit_ty e⟩
theorem noTy_int {K : PySem.W.Frag} {T : String} {H : Hp} (i : Int) (e : kitB "int" T = some false) : NoTy K T H (.int i) := ⟨_, .base (.int i), kit_ty e⟩
theorem noTy_bl {K : PySem.W.Frag} {T : String} {H : Hp} (b : Bool) (e : kitB "bool" T = some false) : NoTy K T H (.bl b) := ⟨_, .base (.bl b), kit_ty e⟩
theorem noTy_lst {K : PySem.W.Frag} {T : String} {H : Hp} {a : Addr} {xs : List V} (h : H a = some (.lst xs)) (e : kitB "list" T = some false) : NoTy K T H (.ref a) := ⟨_, .base (.lst h), kit_ty e⟩
theorem noTy_tup {K : PySem.W.Frag} {T : String} {H : Hp} {a : Addr} {xs : List V} (h : H a = some (.tup xs)) (e : kitB "tuple" T = some false) : NoTy K T H (.ref a) := ⟨_, .base (.tup h), kit_ty e⟩
theorem noTy_dict {K : PySem.W.Frag} {T : String} {H : Hp} {a : Addr} {kvs : List (Key × V)} (h : H a = some (.dK kvs)) (e : kitB "dict" T = some false) : NoTy K T H (.ref a) := ⟨_, .base (.dK h), kit_ty e⟩
/-- heights from which on the list is bad, z the least that is due -/
def BadFrom (K : PySem.W.Frag) (H : Hp) : Int → List V → Prop
  | _, [] => False
  | z, x :: r => NoNum K H x ∨ ∃ i, x = .int i ∧ (i < 0 ∨ i < z ∨ BadFrom K H i r)
/-- no stairs -/
def NoStairs (K : PySem.W.Frag) (H : Hp) (x : V) : Prop := NoTy K "list" H x ∨ ∃ a xs, x = .ref a ∧ H a = some (.lst xs) ∧ BadFrom K H 0 xs
/-- stairs -/
def Stairs (H : Hp) (x : V) (hs : List Int) : Prop := ∃ a, x = .ref a ∧ H a = some (.lst (hs.map V.int)) ∧ Rise hs ∧ Pos0 hs
section
variable {P : Program} {w : World} {K : PySem.W.Frag} {mg : Str → Option Value} {base : Heap}
def spCount (K : PySem.W.Frag) : Sp := fun vs H Q _ => ∃ x, vs = [x] ∧ ((∃ i, x = .int i ∧ Q (.bl (decide (0 ≤ i))) H) ∨ (NoNum K H x ∧ Q (.bl false) H))
theorem okG_is_count {f : Addr} {fd : FuncData} {m : Nat} (B : Bl mg) (F : Fun K "is_count" "is_count" s_is_count f fd) : FnOk P w K mg base CX0 (m + 1) f fd ["value"] (spCount K) := by
  refine F.ok sc_is_count (fun vs H Q E h => ?_) (fun cdv A outer s H vs Q E hr h => ?_)
  · obtain ⟨x, rfl, _⟩ := h
    rfl
  · obtain ⟨x, rfl, h⟩ := h
    refine ⟨_, (pss_one (ps_ret (pe_and (pe_callB call_isi (by rfl) B.isinstance (by decide +kernel) (pa_cons (pv 0) (pa_cons (pe_bltn (v := .ty "int") (by rfl) B.int PyProof.Rows.boot_int rfl) pa_nil))) (pe_and (pe_not (pe_callB call_isi (by rfl) B.isinstance (by decide +kernel) (pa_cons (pv 0) (pa_cons (pe_bltn (v := .ty "bool") (by rfl) B.bool PyProof.Rows.boot_bool rfl) pa_nil)))) (pe_one (pe_cmpR op_ge (pv 0) pe_int (nomark _))))))), ?_⟩
    rcases h with ⟨i, rfl, q⟩ | ⟨⟨b, rfl⟩ | ⟨t, ht, hk⟩, q⟩
    · exact ⟨_, rfl, _, _, _, _, true, rfl, .ty _, .base (.int i), kit_ty (by decide +kernel), true, rfl, iteT ⟨_, rfl, _, _, _, _, false, rfl, .ty _, .base (.int i), kit_ty (by decide +kernel), false, rfl, true, rfl, iteT ⟨_, rfl, _, _, rfl, rfl, q⟩⟩⟩
    · exact ⟨_, rfl, _, _, _, _, true, rfl, .ty _, .base (.bl b), kit_ty (by decide +kernel), true, rfl, iteT ⟨_, rfl, _, _, _, _, true, rfl, .ty _, .base (.bl b), kit_ty (by decide +kernel), true, rfl, false, rfl, iteF q⟩⟩
    · exact ⟨_, rfl, _, _, _, _, false, rfl, .ty _, ht, hk, false, rfl, iteF q⟩
def spIsSt (K : PySem.W.Frag) : Sp := fun vs H Q _ => ∃ x, vs = [x] ∧ (((∃ hs, Stairs H x hs) ∧ Q (.bl true) H) ∨ (NoStairs K H x ∧ Q (.bl false) H))
theorem okG_is_stairs {f fC : Addr} {fd fdC : FuncData} {m : Nat} (B : Bl mg) (Dis_count : Df P w K mg base "is_count" (m + 1) ["value"] (spCount K) fC fdC) (F : Fun K "is_stairs" "is_stairs" s_is_stairs f fd) :
    FnOk P w K mg base CX0 (m + 1 + 1) f fd ["stairs"] (spIsSt K) := by
  refine F.ok sc_is_stairs (fun vs H Q E h => ?_) (fun cdv A outer s H vs Q E hr h => ?_)
  · obtain ⟨x, rfl, _⟩ := h
    rfl
  · obtain ⟨x, rfl, h⟩ := h
    refine ⟨_, (pss_cons (ps_if (pt_not (pt_val (pe_callB call_isi (by rfl) B.isinstance (by decide +kernel) (pa_cons (pv 0) (pa_cons (pe_bltn (v := .ty "list") (by rfl) B.list PyProof.Rows.boot_list rfl) pa_nil)))))
  (pss_one (ps_ret pe_bl))
  pss_nil)
 (pss_cons (ps_set (i := 1) sc_is_stairs.nd rfl (.inl rfl) pe_int)
 (pss_cons (ps_for PassesOwn.never rfl (pi_list (pv 0)) (pg_name (i := 2) sc_is_stairs.nd rfl (.inl rfl))
  (pss_cons (ps_if (PW.pt (pw_or (pt_not (pt_val (pe_call Dis_count.ok (hr.mono (Nat.le_refl _)) (by rfl) Dis_count.g Dis_count.kp Dis_count.b .nil pass0 (pa_cons (pv 2) pa_nil)))) (pw_or1 (pt_cmpR op_lt (pv 2) (pv 1) (nomark _)))))
  (pss_one (ps_ret pe_bl))
  pss_nil)
 (pss_one (ps_set (i := 1) sc_is_stairs.nd rfl (.inl rfl) (pv 2)))))
 (pss_one (ps_ret pe_bl))))), ?_⟩
    rcases h with ⟨⟨hs, a, rfl, hA, rise, pos⟩, q⟩ | ⟨⟨t, ht, hk⟩ | ⟨a, xs, rfl, hA, bad⟩, q⟩
    · refine ⟨_, rfl, _, _, _, _, true, rfl, .ty _, .base (.lst hA), kit_ty (by decide +kernel), true, rfl, iteF ?_⟩
      refine ⟨_, rfl, a, rfl, ⟨_, SqL.of hA⟩, for_list (K := K) (a := a) (xs := hs.map V.int) (fun i σ H' => ∃ (z : Int) (v : Option V), σ = [some (.ref a), some (.int z), v] ∧ H' = H ∧ ∀ x, hs[i]? = some x → z ≤ x)
        ⟨0, none, rfl, rfl, fun x hx => pos x (List.mem_of_getElem? hx)⟩ (fun i σ H' _ ⟨_, _, _, e, _⟩ => by rw [e]; exact SqL.of hA) ?_ ?_⟩
      · rintro i x σ H' hi ⟨z, v, rfl, rfl, hz⟩
        obtain ⟨h, rfl, hh⟩ := mapI_get hi
        have h0 : 0 ≤ h := pos h (List.mem_of_getElem? hh)
        have hz' := hz h hh
        refine ⟨_, rfl, _, rfl, .inl ⟨h, rfl, _, rfl, ?_⟩⟩
        rw [decide_eq_true h0]
        refine iteF ?_
        refine ⟨_, rfl, _, rfl, _, _, rfl, rfl, _, rfl, ?_⟩
        rw [decide_eq_false (by omega)]
        refine iteF ?_
        exact ⟨_, rfl, h, some (.int h), rfl, rfl, fun x hx => rise i (i + 1) h x (by omega) hh hx⟩
      · rintro σ H' ⟨z, v, rfl, rfl, _⟩
        exact q
    · exact ⟨_, rfl, _, _, _, _, false, rfl, .ty _, ht, hk, false, rfl, iteT q⟩
    · refine ⟨_, rfl, _, _, _, _, true, rfl, .ty _, .base (.lst hA), kit_ty (by decide +kernel), true, rfl, iteF ?_⟩
      refine ⟨_, rfl, a, rfl, ⟨_, SqL.of hA⟩, for_list (K := K) (a := a) (xs := xs) (fun i σ H' => ∃ (z : Int) (v : Option V), σ = [some (.ref a), some (.int z), v] ∧ H' = H ∧ BadFrom K H z (xs.drop i))
        ⟨0, none, rfl, rfl, bad⟩ (fun i σ H' _ ⟨_, _, _, e, _⟩ => by rw [e]; exact SqL.of hA) ?_ ?_⟩
      · rintro i x σ H' hi ⟨z, v, rfl, rfl, hb⟩
        obtain ⟨hl, hx⟩ := List.getElem?_eq_some_iff.mp hi
        rw [List.drop_eq_getElem_cons hl, hx] at hb
        rcases hb with hn | ⟨h, rfl, hb⟩
        · refine ⟨_, rfl, _, rfl, .inr ⟨hn, _, rfl, iteT (iteT q)⟩⟩
        · refine ⟨_, rfl, _, rfl, .inl ⟨h, rfl, _, rfl, ?_⟩⟩
          by_cases h0 : 0 ≤ h
          · rw [decide_eq_true h0]
            refine iteF ⟨_, rfl, _, rfl, _, _, rfl, rfl, _, rfl, ?_⟩
            by_cases hz : h < z
            · rw [decide_eq_true hz]
              exact iteT q
            · rw [decide_eq_false hz]
              refine iteF ⟨_, rfl, h, _, rfl, rfl, ?_⟩
              rcases hb with hb | hb | hb
              · omega
              · omega
              · exact hb
          · rw [decide_eq_false h0]
            exact iteT (iteT q)
      · rintro σ H' ⟨z, v, rfl, rfl, hb⟩
        rw [List.drop_length] at hb
        exact hb.elim
end
end TS
namespace TS
open PySem PySem.Spec PyProof.Rows L2
/-- an own error class, straight or not under ValueError -/
structure Er (K : PySem.W.Frag) (mg : Str → Option Value) (x : Str) (C : Addr) : Prop where
  g : mg x = some (.ref C)
  k : PySem.W.keepIn K (.ref C) = true
  e : PySem.W.excIn K C [.type "ValueError", .type "Exception", .type "BaseException", .type "object"] "ValueError.__new__" = true
  b : PySem.W.subIn K (.ref C) (.type "BaseException") = some true
  t : PySem.W.typeIn K (.ref C) = some (.type "type")
/-- a def that may raise, with what its callers need -/
structure DfX (P : Program) (w : World) (K : PySem.W.Frag) (mg : Str → Option Value) (base : Heap) (x : Str) (k : Nat) (ps : List Str) (sp : Sp) (f : Addr) (fd : FuncData) : Prop where
  ok : FnOk P w K mg base (L2.CX P w) k f fd ps sp
  g : mg x = some (.ref f)
  kp : PySem.W.keepIn K (.ref f) = true
  b : Binds K fd ps []
section
variable {P : Program} {w : World} {K : PySem.W.Frag} {mg : Str → Option Value} {base : Heap}
def spCheckX (K : PySem.W.Frag) (C : Addr) : Sp := fun vs H Q E => ∃ x, vs = [x] ∧ (((∃ hs, Stairs H x hs) ∧ Q .non H) ∨ (NoStairs K H x ∧ E (.ref C) none H))
theorem okG_check_stairs {f fC C : Addr} {fd fdC : FuncData} {m : Nat} (B : Bl mg) (X : Er K mg "BadStairs" C) (Dis_stairs : Df P w K mg base "is_stairs" (m + 1) ["stairs"] (spIsSt K) fC fdC) (F : Fun K "check_stairs" "check_stairs" s_check_stairs f fd) :
    FnOk P w K mg base (L2.CX P w) (m + 1 + 1) f fd ["stairs"] (spCheckX K C) := by
  refine F.okX sc_check_stairs (fun vs H Q E h => ?_) (fun cdv A outer s H vs Q E hr h => ?_)
  · obtain ⟨x, rfl, _⟩ := h
    rfl
  · obtain ⟨x, rfl, h⟩ := h
    refine ⟨_, (pss_one (ps_if (pt_not (pt_val (pe_call Dis_stairs.ok (hr.mono (Nat.le_refl _)) (by rfl) Dis_stairs.g Dis_stairs.kp Dis_stairs.b .nil pass0 (pa_cons (pv 0) pa_nil))))
  (pss_one (ps_raise rfl (takes_of rfl rfl rfl rfl) (pmk_own PySem.F.excBase_ValueError X.e X.g X.k (raises_own X.b X.t) (by rfl))))
  pss_nil)), ?_⟩
    rcases h with ⟨hs, q⟩ | ⟨hn, q⟩
    · exact ⟨_, rfl, _, rfl, .inl ⟨hs, true, rfl, iteF q⟩⟩
    · exact ⟨_, rfl, _, rfl, .inr ⟨hn, false, rfl, iteT q⟩⟩
end
end TS
namespace TS
open PySem PySem.Spec PyProof.Rows L2
/-- a def that may raise, where it doesn't -/
theorem fnOk_calm {P : Program} {w : World} {K : PySem.W.Frag} {mg : Str → Option Value} {base : Heap} {k : Nat} {f : Addr} {fd : FuncData} {ps : List Str} {sp sp' : Sp} (F : FnOk P w K mg base (L2.CX P w) k f fd ps sp)
    (h : ∀ vs H Q E, sp' vs H Q E → sp vs H Q fun _ _ _ => False) : FnOk P w K mg base CX0 k f fd ps sp' :=
  ⟨fun vs H Q E q => F.len vs H Q _ (h vs H Q E q), fun A outer s H args us vs Q E hr e0 bi ve q => codeAny_mono (F.run A outer s H args us vs Q _ hr e0 bi ve (h vs H Q E q)) fun r s' c => by
    cases r with
    | ok v => cases v <;> exact c
    | error e =>
      obtain ⟨_, _, _, _, _, _, _, _, _, _, _, _, z⟩ := c
      exact z.elim⟩
end TS
namespace TS
open PySem PySem.Spec PyProof.Rows
open TL (numL numL_lt numL_step numL_digits numL_ne numL_val numL_len spl pre joinL)
/-! which signs write a height -/
def isDig (c : Nat) : Bool := decide (48 ≤ c) && decide (c ≤ 57)
def canon (l : List Nat) : Bool := !l.isEmpty && l.all isDig && decide (l.length ≤ 60) && (decide (l = [48]) || decide (l.head? ≠ some 48))
abbrev valOf (l : List Nat) : Nat := NumText.digitsVal l
theorem isDig_iff {c : Nat} : isDig c = true ↔ 48 ≤ c ∧ c ≤ 57 := by
  unfold isDig
  simp
theorem all_dig {l : List Nat} : l.all isDig = true ↔ NumText.AllDigits l := by
  rw [List.all_eq_true]
  exact ⟨fun h c hc => isDig_iff.mp (h c hc), fun h c hc => isDig_iff.mpr (h c hc)⟩
theorem val_snoc (l : List Nat) (c : Nat) : valOf (l ++ [c]) = valOf l * 10 + (c - 48) := by
  show (l ++ [c]).foldl _ 0 = _
  rw [List.foldl_append]
  rfl
theorem snocN {P : List Nat → Prop} (h0 : P []) (h1 : ∀ xs x, P xs → P (xs ++ [x])) (xs : List Nat) : P xs := by
  have : ∀ n (xs : List Nat), xs.length = n → P xs := by
    intro n
    induction n with
    | zero => intro xs h; rw [List.length_eq_zero_iff.mp h]; exact h0
    | succ n ih =>
      intro xs h
      have ne : xs ≠ [] := by intro z; rw [z] at h; cases h
      rw [← List.dropLast_concat_getLast ne]
      exact h1 _ _ (ih _ (by rw [List.length_dropLast]; omega))
  exact this _ xs rfl
theorem val_low : ∀ l : List Nat, NumText.AllDigits l → valOf l < 10 ^ l.length := by
  refine snocN ?_ ?_
  · intro _
    decide
  · intro xs c ih h
    have := ih fun d hd => h d (by simp [hd])
    have hc := h c (by simp)
    rw [val_snoc, List.length_append, List.length_singleton, Nat.pow_succ]
    omega
/-- digits without a needless nought: the number's own signs -/
theorem num_back : ∀ l : List Nat, l ≠ [] → NumText.AllDigits l → (l = [48] ∨ l.head? ≠ some 48) → numL (valOf l) = l ∧ (l ≠ [48] → 0 < valOf l) := by
  refine snocN ?_ ?_
  · intro h
    exact absurd rfl h
  · intro xs c ih _ h hh
    have hc := h c (by simp)
    by_cases e : xs = []
    · subst e
      have v : valOf ([] ++ [c]) = c - 48 := by
        rw [val_snoc]
        show 0 * 10 + _ = _
        omega
      rw [v, numL_lt (by omega), List.nil_append]
      refine ⟨by rw [show 48 + (c - 48) = c by omega], fun ne => ?_⟩
      have : c ≠ 48 := fun z => ne (by rw [z])
      omega
    · have hx : xs.head? ≠ some 48 := by
        rcases hh with z | z
        · have q := congrArg List.length z
          have : 0 < xs.length := List.length_pos_iff.mpr e
          rw [List.length_append] at q
          simp at q
          exact absurd q e
        · cases xs with
          | nil => exact absurd rfl e
          | cons y ys => exact z
      obtain ⟨a, b⟩ := ih e (fun d hd => h d (by simp [hd])) (.inr hx)
      have b0 : 0 < valOf xs := b fun z => hx (by rw [z]; rfl)
      rw [val_snoc]
      refine ⟨?_, fun _ => by omega⟩
      rw [numL_step (by omega), show (valOf xs * 10 + (c - 48)) / 10 = valOf xs by omega, show (valOf xs * 10 + (c - 48)) % 10 = c - 48 by omega, a, show 48 + (c - 48) = c by omega]
theorem canon_iff {l : List Nat} : canon l = true ↔ l ≠ [] ∧ NumText.AllDigits l ∧ l.length ≤ 60 ∧ (l = [48] ∨ l.head? ≠ some 48) := by
  unfold canon
  rw [Bool.and_eq_true, Bool.and_eq_true, Bool.and_eq_true, all_dig]
  simp [and_assoc]
theorem canon_back {l : List Nat} (h : canon l = true) : numL (valOf l) = l := by
  obtain ⟨a, b, _, d⟩ := canon_iff.mp h
  exact (num_back l a b d).1
theorem canon_low {l : List Nat} (h : canon l = true) : valOf l < 10 ^ 60 := by
  obtain ⟨a, b, c, d⟩ := canon_iff.mp h
  exact Nat.lt_of_lt_of_le (val_low l b) (Nat.pow_le_pow_right (by decide) c)
theorem num_canon {n : Nat} (h : n < 10 ^ 60) : canon (numL n) = true := by
  refine canon_iff.mpr ⟨numL_ne n, numL_digits n, numL_len (by decide) h, ?_⟩
  clear h
  induction n using Nat.strongRecOn with
  | _ n ih =>
    by_cases h : n < 10
    · rw [numL_lt h]
      by_cases z : n = 0
      · exact .inl (by rw [z])
      · refine .inr fun e => ?_
        have := Option.some.inj e
        omega
    · rw [numL_step (by omega)]
      refine .inr fun e => ?_
      have ne := numL_ne (n / 10)
      cases q : numL (n / 10) with
      | nil => exact ne q
      | cons y ys =>
        rw [q] at e
        have ey : y = 48 := Option.some.inj e
        rcases ih (n / 10) (by omega) with z | z
        · have := numL_val (n / 10)
          rw [z] at this
          have : n / 10 = 0 := by rw [← this]; rfl
          omega
        · rw [q] at z
          exact z (by rw [ey]; rfl)
/-! words with one blank between -/
theorem pre32 (c : Nat) (r : List Nat) : pre [32] (c :: r) = decide (c = 32) := by
  show (([c] : List Nat) == [32]) = _
  by_cases h : c = 32
  · rw [h]
    rfl
  · rw [decide_eq_false h]
    exact beq_false_of_ne fun e => h (List.head_eq_of_cons_eq e)
theorem spl_ne : ∀ (l acc : List Nat), spl [32] 0 acc l ≠ []
  | [], acc => by simp [spl]
  | c :: r, acc => by
    by_cases h : c = 32
    · rw [TL.spl_hit (by rw [pre32, decide_eq_true h])]
      simp
    · rw [TL.spl_miss (by rw [pre32, decide_eq_false h])]
      exact spl_ne r _
theorem join_cons (S p : List Nat) {r : List (List Nat)} (h : r ≠ []) : joinL S (p :: r) = p ++ (S ++ joinL S r) := by
  cases r with
  | nil => exact absurd rfl h
  | cons q r => rfl
theorem join_spl : ∀ (l acc : List Nat), joinL [32] (spl [32] 0 acc l) = acc ++ l
  | [], acc => by
    show acc = _
    rw [List.append_nil]
  | c :: r, acc => by
    by_cases h : c = 32
    · rw [TL.spl_hit (by rw [pre32, decide_eq_true h]), h]
      show joinL [32] (acc :: spl [32] 0 [] r) = _
      rw [join_cons _ _ (spl_ne r []), join_spl r []]
      rfl
    · rw [TL.spl_miss (by rw [pre32, decide_eq_false h]), join_spl r, List.append_assoc]
      rfl
theorem spl_mem {P : Nat → Prop} : ∀ (l acc : List Nat), (∀ c ∈ l, P c) → (∀ c ∈ acc, P c) → ∀ w ∈ spl [32] 0 acc l, ∀ c ∈ w, P c
  | [], acc, _, ha, w, hw => by
    have : w = acc := by simpa [spl] using hw
    rw [this]
    exact ha
  | c :: r, acc, hl, ha, w, hw => by
    by_cases h : c = 32
    · rw [TL.spl_hit (by rw [pre32, decide_eq_true h])] at hw
      rcases List.mem_cons.mp hw with e | hw
      · rw [e]
        exact ha
      · exact spl_mem r [] (fun d hd => hl d (by simp [hd])) (fun _ z => nomatch z) w hw
    · rw [TL.spl_miss (by rw [pre32, decide_eq_false h])] at hw
      refine spl_mem r _ (fun d hd => hl d (by simp [hd])) (fun d hd => ?_) w hw
      rcases List.mem_append.mp hd with z | z
      · exact ha d z
      · rw [List.mem_singleton.mp z]
        exact hl c (by simp)
theorem spl_len : ∀ (l acc : List Nat), (spl [32] 0 acc l).length ≤ l.length + 1
  | [], acc => by simp [spl]
  | c :: r, acc => by
    by_cases h : c = 32
    · rw [TL.spl_hit (by rw [pre32, decide_eq_true h])]
      have := spl_len r []
      show (spl [32] 0 [] r).length + 1 ≤ _
      rw [List.length_cons]
      omega
    · rw [TL.spl_miss (by rw [pre32, decide_eq_false h])]
      have := spl_len r (acc ++ [c])
      rw [List.length_cons]
      omega
theorem spl_word : ∀ (l acc : List Nat), ∀ w ∈ spl [32] 0 acc l, w.length ≤ acc.length + l.length
  | [], acc, w, hw => by
    have : w = acc := by simpa [spl] using hw
    rw [this]
    simp
  | c :: r, acc, w, hw => by
    by_cases h : c = 32
    · rw [TL.spl_hit (by rw [pre32, decide_eq_true h])] at hw
      rcases List.mem_cons.mp hw with e | hw
      · rw [e]
        omega
      · have := spl_word r [] w hw
        simp at *
        omega
    · rw [TL.spl_miss (by rw [pre32, decide_eq_false h])] at hw
      have := spl_word r _ w hw
      simp at *
      omega
/-! what a text's signs write -/
def wordsOf (l : List Nat) : List (List Nat) := spl [32] 0 [] l
def heights (l : List Nat) : List Int := (wordsOf l).map fun w => (valOf w : Int)
/-- it writes stairs of some columns -/
def Writes (l : List Nat) : Prop := (∀ w ∈ wordsOf l, canon w = true) ∧ (heights l).Pairwise (· ≤ ·)
instance (l : List Nat) : Decidable (Writes l) := inferInstanceAs (Decidable (_ ∧ _))
theorem writes_join {l : List Nat} (h : ∀ w ∈ wordsOf l, canon w = true) : joinL [32] ((wordsOf l).map fun w => numL (valOf w)) = l := by
  have e : (wordsOf l).map (fun w => numL (valOf w)) = wordsOf l := by
    exact (List.map_congr_left (g := id) fun w hw => canon_back (h w hw)).trans (List.map_id _)
  rw [e]
  exact join_spl l []
theorem words_ne (l : List Nat) : wordsOf l ≠ [] := spl_ne l []
/-! the signs of one text -/
theorem digit_text {x : Str} (h : ∀ c ∈ TL.tl x, c < 128) : Txt.isdigit x = (!(TL.tl x).isEmpty && (TL.tl x).all isDig) := by
  show (decide (x.length > 0) && x.cps.all Unicode.isDigit) = _
  have a : decide (x.length > 0) = !(TL.tl x).isEmpty := by
    rw [TL.len_tl]
    cases TL.tl x <;> rfl
  have b : x.cps.all Unicode.isDigit = (TL.tl x).all isDig := by
    rw [← Array.all_toList]
    show (TL.tl x).all _ = _
    have key : ∀ c, c < 128 → Unicode.isDigit c = isDig c := by decide +kernel
    rw [Bool.eq_iff_iff, List.all_eq_true, List.all_eq_true]
    exact ⟨fun g c hc => by rw [← key c (h c hc)]; exact g c hc, fun g c hc => by rw [key c (h c hc)]; exact g c hc⟩
  rw [a, b]
theorem ascii_text {x : Str} (h : ∀ c ∈ TL.tl x, c < 128) : Txt.isascii x = true := by
  show x.cps.all (· < 128) = true
  rw [← Array.all_toList, List.all_eq_true]
  intro c hc
  exact decide_eq_true (h c hc)
theorem starts_nought (x : Str) : Txt.startswith x "0" = decide ((TL.tl x).head? = some 48) := by
  show (decide (0 + ("0" : Str).length ≤ x.length) && PySem.Builtin.Str.subAt x "0" 0) = _
  rw [PySem.StrLaws.subAt_eq, TL.len_tl x]
  show (decide (0 + 1 ≤ (TL.tl x).length) && (((TL.tl x).drop 0).take 1 == [48])) = _
  cases TL.tl x with
  | nil => rfl
  | cons c r =>
    rw [decide_eq_true (by simp)]
    by_cases h : c = 48
    · rw [h]
      rfl
    · rw [decide_eq_false (by simpa using h)]
      exact beq_false_of_ne fun e => h (List.head_eq_of_cons_eq e)
end TS
namespace TS
open PySem PySem.Spec PyProof.Rows
theorem strip_none (goes : Nat → Bool) (x : Str) : TL.tl (Txt.stripBy goes true true x) = [] ↔ (TL.tl x).all goes = true := by
  obtain ⟨a1, a2, a3⟩ := lo_facts goes x
  obtain ⟨b1, b2, b3, b4⟩ := hi_facts goes x _ a1
  have gd : ∀ (k : Nat) (c : Nat), (TL.tl x)[k]? = some c → x.cps.getD k 0 = c := fun k c e => by
    rw [← getD_list]
    show (TL.tl x).getD k 0 = c
    rw [List.getD_eq_getElem?_getD, e]
    rfl
  rw [stripBy_eq, TL.tl_strSub]
  have hl := TL.len_tl x
  constructor
  · intro e
    have l := congrArg List.length e
    rw [List.length_take, List.length_drop, List.length_nil] at l
    have same : stripHi goes true x (stripLo goes true x) = stripLo goes true x := by omega
    have all : ∀ k, k < x.length → goes (x.cps.getD k 0) = true := by
      intro k hk
      by_cases c : k < stripLo goes true x
      · exact a2 k c
      · exact b3 k (by omega) hk
    rw [List.all_eq_true]
    intro c hc
    obtain ⟨k, hk⟩ := List.mem_iff_getElem?.mp hc
    have kl := (List.getElem?_eq_some_iff.mp hk).1
    rw [← gd k c hk]
    exact all k (by omega)
  · intro h
    rw [List.all_eq_true] at h
    have lo : stripLo goes true x = x.length := by
      rcases a3 with z | z
      · exact z
      · by_cases c : stripLo goes true x < x.length
        · obtain ⟨d, hd⟩ : ∃ d, (TL.tl x)[stripLo goes true x]? = some d := ⟨_, List.getElem?_eq_getElem (by omega)⟩
          rw [gd _ d hd, h d (List.mem_of_getElem? hd)] at z
          cases z
        · omega
    rw [lo, hl, List.drop_length, List.take_nil]
theorem strip_digits (x : Str) : (Txt.stripChars x "0123456789" = "") ↔ (TL.tl x).all isDig = true := by
  have e : ∀ c, ("0123456789" : Str).cps.contains c = isDig c := by
    intro c
    show (#[48, 49, 50, 51, 52, 53, 54, 55, 56, 57] : Array Nat).contains c = _
    unfold isDig
    rw [Bool.eq_iff_iff]
    simp
    omega
  have f : ("0123456789" : Str).cps.contains = isDig := funext e
  have g := strip_none ("0123456789" : Str).cps.contains x
  rw [f] at g
  refine Iff.trans ⟨fun h => ?_, fun h => ?_⟩ g
  · have := congrArg TL.tl h
    rw [← f]
    exact this
  · refine TL.ext_tl ?_
    rw [← f] at h
    exact h
/-- what stands in a text's words -/
theorem split_words (t : Str) : (Txt.split t " ").map TL.tl = wordsOf (TL.tl t) := TL.split_spl t " " (by decide) (TL.kind_ok (y := " ") (by decide +kernel))
theorem dash_iff {t : Str} : t = "-" ↔ TL.tl t = [45] := ⟨fun e => by rw [e]; rfl, fun e => TL.ext_tl e⟩
theorem empty_iff {t : Str} : t = "" ↔ TL.tl t = [] := ⟨fun e => by rw [e]; rfl, fun e => TL.ext_tl e⟩
theorem nought_iff {t : Str} : t = "0" ↔ TL.tl t = [48] := ⟨fun e => by rw [e]; rfl, fun e => TL.ext_tl e⟩
/-- all signs below 128 -/
def Asc (t : Str) : Prop := ∀ c ∈ TL.tl t, c < 128
theorem asc_word {t w : Str} (h : Asc t) (hw : w ∈ Txt.split t " ") : Asc w ∧ w.length ≤ t.length := by
  have m : TL.tl w ∈ wordsOf (TL.tl t) := by
    rw [← split_words]
    exact List.mem_map.mpr ⟨w, hw, rfl⟩
  refine ⟨spl_mem (P := fun c => c < 128) _ _ h (fun d z => (List.not_mem_nil z).elim) _ m, ?_⟩
  have := spl_word _ _ _ m
  rw [TL.len_tl, TL.len_tl]
  simpa using this
theorem split_len (t : Str) : (Txt.split t " ").length ≤ t.length + 1 := by
  have e := congrArg List.length (split_words t)
  rw [List.length_map] at e
  rw [e, TL.len_tl]
  exact spl_len _ _
theorem split_back (t : Str) : Txt.join " " (Txt.split t " ") = t := by
  refine TL.ext_tl ?_
  rw [TL.join_eq, TL.tl_join, split_words]
  exact join_spl _ []
end TS
namespace TS
open PySem PySem.Spec PyProof.Rows L2
/-! one sign, many times -/
def signs1 (c n : Nat) : Str := ⟨(List.replicate n c).toArray⟩
theorem fold_one (c : Nat) : ∀ (n : Nat) (acc : Array Nat), (List.replicate n #[c]).foldl (· ++ ·) acc = acc ++ (List.replicate n c).toArray
  | 0, acc => by simp
  | n + 1, acc => by
    rw [List.replicate_succ, List.foldl_cons, fold_one c n, List.replicate_succ, Array.append_assoc]
    congr 1
    apply Array.toList_inj.mp
    simp
theorem op_rep1 {X : Cx} : OpR X (binaryOp .Mult) (fun x y H Q => ∃ (c k : Nat), x = .str ⟨#[c]⟩ ∧ y = .int (k : Int) ∧ 2 ≤ k ∧ k ≤ 100000 ∧ Q (.str (signs1 c k)) H) := by
  intro pins s σ H x y v u Q I rx ry h
  obtain ⟨c, k, rfl, rfl, h2, hk, q⟩ := h
  obtain ⟨t, rfl⟩ := rx
  obtain ⟨t', rfl⟩ := ry
  have l1 : (⟨#[c]⟩ : Str).length = 1 := rfl
  have n1 : ¬ ((k : Nat) : Int) < 1 := by omega
  have b1 : ((((k : Nat) : Int) == 1) || ((⟨#[c]⟩ : Str).length == 0)) = false := by
    have : (((k : Nat) : Int) == 1) = false := beq_false_of_ne (by omega)
    rw [this]
    rfl
  have hs : sizeLine = 16777216 := sizeLine_eq
  refine P.mul_str ?_ (fun _ _ => ?_) (fun _ _ => ?_) ?_
  · rw [decide_eq_false (by omega), decide_eq_false (by omega)]
    rfl
  · rw [l1]
    have : (2 ^ 63 - 1 : Int) / 100000 ≤ (2 ^ 63 - 1) / (k : Int) := by
      refine Int.le_ediv_of_mul_le (by omega) ?_
      have e : (2 ^ 63 - 1 : Int) / 100000 * (k : Int) ≤ (2 ^ 63 - 1) / 100000 * 100000 := Int.mul_le_mul_of_nonneg_left (by omega) (by decide)
      exact Int.le_trans e (by decide)
    have : (1 : Int) ≤ (2 ^ 63 - 1) / 100000 := by decide
    omega
  · rw [l1, Int.toNat_natCast]
    show decide (1 * k > sizeLine) = false
    exact decide_eq_false (by omega)
  · rw [if_neg n1, if_neg (by rw [b1]; exact Bool.false_ne_true), Int.toNat_natCast, show (⟨#[c]⟩ : Str).cps = #[c] from rfl, fold_one, show #[] ++ (List.replicate k c).toArray = (List.replicate k c).toArray by simp]
    refine ⟨?_, ?_⟩
    · show (List.replicate k c).toArray.size ≤ sizeLine
      simp
      omega
    · exact ⟨.str (signs1 c k), H, I.tok _, ⟨_, rfl⟩, q⟩
end TS
namespace TS
open PySem PySem.Spec PyProof.Rows L2 L2H HotX
/-! any of a list while an error is held -/
section
variable {prog : Program} {w : World} {A : Around} {E : Value → Shared → Prop} {s : Shared}
theorem list_over_hot {it l x1 : Addr} {i : Nat} {items : Array Value} {Q : Option Value → Shared → Prop} (hot : HotAt A x1 s.heap) (hit : s.heap.IsListIter it l i) (hl : s.heap.IsList l items) (hx : items[i]? = none)
    (hQ : ∀ h', (∀ b o, b ≠ it → s.heap.get? b = some o → h'.get? b = some o) → Q none { s with heap := h' }) : wpAny (model prog w) A (pyNext (.ref it)) Q E s := by
  obtain ⟨o, ho, hc, hd⟩ := id hit
  obtain ⟨ol, hol, _, nl, hdl⟩ := hl
  obtain ⟨hh, o1, vs1, h1, d1, c1⟩ := hot
  have x1i : x1 ≠ it := by
    rintro rfl
    rw [ho] at h1
    cases h1
    rw [hd] at d1
    cases d1
    cases c1
  unfold pyNext
  refine wpAny_bind (wpAny_attempt (wpAny_callSpecial?_slot (name := Str.ofString "__next__") hit.typeIs slot_listiter_next
    (wpAny_call_entry slot_listiter_next hit.typeIs entry_listiter_next ?_ (args_listiter_next _))))
  show wpAny _ _ (field (.ref it) 0 >>= _) _ _ s
  refine wpAny_bind (wpAny_field ho hd (x := .ref l) rfl ?_)
  show wpAny _ _ (if (Value.ref l == Value.none) = true then _ else _) _ _ s
  rw [if_neg (show ¬ ((Value.ref l == Value.none) = true) from Bool.false_ne_true)]
  show wpAny _ _ (field (.ref it) 1 >>= _) _ _ s
  refine wpAny_bind (wpAny_field ho hd (x := .int i 0) rfl ?_)
  show wpAny _ _ (seqItems? (.ref l) >>= _) _ _ s
  refine wpAny_bind (wpAny_seqItems hol hdl ?_)
  simp only [Int.toNat_natCast, hx]
  refine wpAny_bind (wpAny_rule (wpAny_bind (wpAny_setField ho hd (by simp) ?_)))
  show wpAny _ _ (newExc (.type "StopIteration") [] >>= _) _ _ _
  refine wpAny_bind ?_
  simp only [newExc, newTuple]
  refine wpAny_bind (wpAny_newObj_type ?_ (by size_fits))
  refine wpAny_bind (m := firstArgMember _ _) (wpAny_of_eq (a := Value.none) (by first | rfl | (simp only [firstArgMember]; rfl)) ?_)
  refine wpAny_newObj_type ?_ (by size_fits)
  have up : ∀ (b : Addr) (u : Obj) (f : Obj → Obj), b ≠ it → s.heap.get? b = some u → (s.heap.update it f).get? b = some u := fun b u f nb e => by
    first
      | rw [Heap.get?_update_other _ _ nb]; exact e
      | rw [Heap.get?_update_other _ _ nb.symm]; exact e
  refine raiseNew_hot ⟨hh, o1, vs1, Heap.get?_push_of_some _ (Heap.get?_push_of_some _ (up x1 o1 _ x1i h1)), d1, c1⟩ (Nat.ne_of_lt (Heap.lt_size (Heap.get?_push_of_some _ (up x1 o1 _ x1i h1)))) (Heap.get?_push_size _ rfl) rfl (by first | (simp; done) | (simp; omega) | (simp only [Array.size_append]; simp; omega)) ?_
  refine wpAny_bind (wpAny_isInstance (T := "StopIteration") (b := true) ⟨_, Heap.get?_update_self _ (Heap.get?_push_size _ rfl) rfl, rfl⟩ isSubtype_stop ?_)
  refine wpAny_pure (hQ _ fun b u nb e => ?_)
  rw [Heap.get?_update_other _ _ (Nat.ne_of_gt (Heap.lt_size (Heap.get?_push_of_some _ (up b u _ nb e))))]
  exact Heap.get?_push_of_some _ (Heap.get?_push_of_some _ (up b u _ nb e))
theorem walks_hot {x1 : Addr} (I ax : Addr) (hne : ax ≠ I) (items : Array Value) :
    Walks prog w A I [I, ax, x1] [I] items.size (fun i v => items[i]? = some v) (fun i h => h.IsListIter I ax i ∧ h.IsList ax items ∧ HotAt A x1 h) where
  sub := fun b hb => by simp at hb; simp [hb]
  frame := fun _ _ _ st hk => ⟨st.1.at fun o e => hk I (by simp) o e, st.2.1.at fun o e => hk ax (by simp) o e, let ⟨a, o, vs, b, c⟩ := st.2.2; ⟨a, o, vs, hk x1 (by simp) o b, c⟩⟩
  item := fun i s Q E hi st hQ => by
    have ni : x1 ≠ I := by
      obtain ⟨o, ho, hc, hd⟩ := st.1
      obtain ⟨_, o1, vs1, h1, d1, c1⟩ := st.2.2
      rintro rfl
      rw [ho] at h1
      cases h1
      rw [hd] at d1
      cases d1
      cases c1
    refine wpAny_pyNext_list_item st.1 st.2.1 (x := items[i]) (by simp [hi]) fun h' hit' hs' => ?_
    exact hQ _ h' s.toks (by simp [hi]) ⟨hit', st.2.1.extBut hs'.extBut hne, let ⟨a, o, vs, b, c⟩ := st.2.2; ⟨a, o, vs, hs'.extBut x1 o ni b, c⟩⟩ fun b o hb e => hs'.extBut b o (fun h => hb (by simp [h])) e
  done := fun s Q E st hQ => list_over_hot st.2.2 st.1 st.2.1 (by simp) fun h' he' => hQ h' s.toks fun b o hb e => he' b o (fun h => hb (by simp [h])) e
  self := fun _ _ _ _ st hQ => wpAny_pyIter_listiter st.1 hQ
end
section
variable {X : Cx}
theorem cr_anyH (hc : HotC X) : CallR X (.builtin "any") (rAny X.K) := by
  rintro pins s σ H vs us Q I r ⟨a, bs, rfl, at_a, q⟩
  obtain ⟨its, rv, hl, _⟩ := I.list at_a
  rw [Vals.ref1 r]
  have hb := rv.bls
  obtain ⟨x1, hot⟩ := hc.at I
  refine call_any_walk (iter_any hl.isList fun s₂ e2 st hne => ?_)
  subst e2
  have hot2 : HotAt X.A.in1 x1 (s.heap.push { cls := .type "list_iterator", data := .fields #[.ref a, .int 0 0] }) := by
    obtain ⟨e1, o1, vs1, g1, d1, c1⟩ := hot
    exact ⟨e1, o1, vs1, Heap.get?_push_of_some _ g1, d1, c1⟩
  refine ⟨_, _, _, _, _, _, _, rfl, walks_hot (A := X.A.in1) (x1 := x1) _ a hne its.toArray, ⟨st.1, st.2, hot2⟩, truth_bools hb, fun h' tk hk => ?_⟩
  refine ⟨.bl _, H, I.kept fun b o eo => hk b o (fun hmem => ?_) (Heap.get?_push_of_some _ eo), ?_, q⟩
  · rcases List.mem_cons.mp hmem with rfl | hmem
    · exact absurd (Heap.lt_size eo) (Nat.lt_irrefl _)
    · cases hmem
  · show Value.bool _ = Value.bool _
    rw [← L2.any_range, hb, List.size_toArray, List.length_map]
end
section
variable {P : Program} {w : World} {K : PySem.W.Frag} {mg : Str → Option Value} {base : Heap}
/-- a def that may raise, nothing being handled: its errors have no context -/
theorem okN {x qual : Str} {st : Stmt} {f : Addr} {fd : FuncData} {N ps : List Str} {k : Nat} {sp : Sp} (F : Fun K x qual st f fd) (S : FnScope N ps (defScope st)) (len : ∀ vs H Q E, sp vs H Q E → vs.length = ps.length)
    (body : ∀ (cdv : Value) (A : Around) (outer : List Env) (s : Shared) (H : Hp) (vs : List V) (Q : VK) (E : XK), Room k (A.deeper (envOfC qual (defScope st) s.heap.objs.size f cdv)) → sp vs H Q E →
      ∃ t, PSs (cxOf (L2N.CX P w) P w K mg base N qual (defScope st) f cdv A outer s H E) (defBody st) t ∧ t { nx := fun _ H' => Q .non H', rt := Q } (L2.start N vs) H) : FnOk P w K mg base (L2N.CX P w) (k + 1) f fd ps sp := by
  obtain ⟨a1, a2, a3, a4, a5, a6, a7, a8, a9, rfl, lk, hcd⟩ := F.ex
  exact fn_of lk hcd S len fun A outer s H vs Q E hr q => body a7 A outer s H vs Q E hr q
theorem fnOk_calmN {k : Nat} {f : Addr} {fd : FuncData} {ps : List Str} {sp sp' : Sp} (F : FnOk P w K mg base (L2N.CX P w) k f fd ps sp)
    (h : ∀ vs H Q E, sp' vs H Q E → sp vs H Q fun _ _ _ => False) : FnOk P w K mg base CX0 k f fd ps sp' :=
  ⟨fun vs H Q E q => F.len vs H Q _ (h vs H Q E q), fun A outer s H args us vs Q E hr e0 bi ve q => codeAny_mono (F.run A outer s H args us vs Q _ hr e0 bi ve (h vs H Q E q)) fun r s' c => by
    cases r with
    | ok v => cases v <;> exact c
    | error e =>
      obtain ⟨_, _, _, _, _, _, _, _, _, _, _, _, z⟩ := c
      exact z.elim⟩
end
theorem pss_when {X : Cx} {sts : List Stmt} {t : TS} {p : Prop} (h : p → PSs X sts t) : PSs X sts (fun D σ H => p ∧ t D σ H) := ⟨fun pins s σ H D I q => (h q.1).run pins s σ H D I q.2⟩
/-- the suite holds an error that has no context -/
theorem hot_suite {X : Cx} {a : Addr} {oe : Obj} {cls : Value} {d : Option Addr} {pn : List (Addr × Obj)} (hz : L2N.Zn cls d oe) (hf : ∃ vs, oe.data = .fields vs) : HotC (X.suite a ((a, oe) :: pn)) := by
  obtain ⟨vs, e⟩ := hf
  exact ⟨(a, oe), ⟨rfl, vs, e, hz.2.2 vs e⟩, List.mem_cons_self⟩
end TS
namespace TS
open PySem PySem.Spec PyProof.Rows L2
/-- the module's constants -/
structure Cn (mg : Str → Option Value) : Prop where
  high : ∃ t, mg "TOO_HIGH" = some (.int (10 ^ 60) t)
  none : ∃ t, mg "NO_COLUMNS" = some (.str "-" t)
  figs : ∃ t, mg "MOST_FIGURES" = some (.int 60 t)
theorem take_snocG {α : Type} {hs : List α} {j : Nat} {y : α} (e : hs[j]? = some y) : hs.take (j + 1) = hs.take j ++ [y] := by rw [List.take_succ, e] <;> rfl
theorem mapS_get {ns : List Str} {i : Nat} {x : V} (h : (ns.map V.str)[i]? = some x) : ∃ n, x = .str n ∧ ns[i]? = some n := by
  rw [List.getElem?_map] at h
  cases e : ns[i]? with
  | none => rw [e] at h; cases h
  | some n => rw [e] at h; exact ⟨n, (Option.some.inj h).symm, rfl⟩
section
variable {P : Program} {w : World} {K : PySem.W.Frag} {mg : Str → Option Value} {base : Heap}
def spHeight : Sp := fun vs H Q _ => ∃ x, vs = [.str x] ∧ Asc x ∧ x.length ≤ sizeLine ∧ Q (.bl (canon (TL.tl x))) H
theorem ok__is_height {f : Addr} {fd : FuncData} {m : Nat} (B : Bl mg) (N : Cn mg) (F : Fun K "_is_height" "_is_height" s__is_height f fd) : FnOk P w K mg base CX0 (m + 1) f fd ["word"] spHeight := by
  refine F.ok sc__is_height (fun vs H Q E h => ?_) (fun cdv A outer s H vs Q E hr h => ?_)
  · obtain ⟨x, rfl, _⟩ := h
    rfl
  · obtain ⟨x, rfl, ha, hl, q⟩ := h
    obtain ⟨t1, n1⟩ := N.figs
    refine ⟨_, (pss_cons (ps_if (PW.pt (pw_or (pt_not (pt_val (pe_bm0 PySem.F.plainAttrs_str PySem.F.slot_str_isascii PySem.F.type_str_isascii mt_isascii (pv 0)))) (pw_or (pt_not (pt_val (pe_bm0 PySem.F.plainAttrs_str PySem.F.slot_str_isdigit PySem.F.type_str_isdigit mt_isdigit (pv 0)))) (pw_or1 (pt_cmpR op_gt (pe_callB call_len (by rfl) B.len PySem.boot_len (pa_cons (pv 0) pa_nil)) (pe_glob (v := .int 60) (by rfl) n1 ⟨_, rfl⟩) (nomark _))))))
  (pss_one (ps_ret pe_bl))
  pss_nil)
 (pss_one (ps_ret (pe_or (pe_cmpR op_eq (pv 0) pe_str (nomark _)) (pe_one (pe_not (pe_bm PySem.F.plainAttrs_str PySem.F.slot_str_startswith PySem.F.type_str_startswith mt_startswith (pv 0) (pa_cons pe_str pa_nil)))))))), ?_⟩
    refine ⟨_, rfl, rfl, x, rfl, rfl, trivial, true, by rw [ascii_text ha], iteF ?_⟩
    refine ⟨_, rfl, rfl, x, rfl, rfl, trivial, _, rfl, ?_⟩
    rw [digit_text ha]
    by_cases hd : (!(TL.tl x).isEmpty && (TL.tl x).all isDig) = true
    · rw [hd]
      refine iteF ⟨_, rfl, .str x, _, rfl, ⟨hl, rfl⟩, _, _, rfl, rfl, _, rfl, ?_⟩
      have lx := TL.len_tl x
      by_cases h60 : (TL.tl x).length ≤ 60
      · rw [decide_eq_false (by omega)]
        refine iteF ⟨_, rfl, rfl, _, rfl, ?_⟩
        have hd2 := (Bool.and_eq_true _ _).mp hd
        have cn : canon (TL.tl x) = (decide (x = "0") || !decide ((TL.tl x).head? = some 48)) := by
          unfold canon
          rw [hd2.1, hd2.2, decide_eq_true h60, Bool.true_and, Bool.true_and, Bool.true_and]
          congr 1
          · exact decide_eq_decide.mpr nought_iff.symm
          · exact decide_not
        rw [cn] at q
        by_cases z : x = "0"
        · rw [decide_eq_true z, Bool.true_or] at q
          rw [show decide (V.str x = V.str "0") = true from decide_eq_true (by rw [z])]
          exact iteT q
        · rw [decide_eq_false z, Bool.false_or] at q
          rw [show decide (V.str x = V.str "0") = false from decide_eq_false fun e => z (V.str.inj e)]
          refine iteF ⟨_, rfl, rfl, x, "0", rfl, rfl, _, rfl, ?_⟩
          rw [starts_nought]
          exact q
      · rw [decide_eq_true (by omega)]
        refine iteT ?_
        have : canon (TL.tl x) = false := by
          unfold canon
          rw [decide_eq_false h60, Bool.and_false, Bool.false_and]
        rw [this] at q
        exact q
    · rw [Bool.not_eq_true] at hd
      rw [hd]
      refine iteT (iteT ?_)
      have : canon (TL.tl x) = false := by
        unfold canon
        rw [hd, Bool.false_and, Bool.false_and]
      rw [this] at q
      exact q
end
end TS
namespace TS
open PySem PySem.Spec PyProof.Rows L2
theorem bad_from {K : PySem.W.Frag} {H : Hp} : ∀ (hs : List Int) (z : Int), ¬ (z :: hs).Pairwise (· ≤ ·) → BadFrom K H z (hs.map V.int)
  | [], z, h => (h (List.pairwise_cons.mpr ⟨fun _ m => (List.not_mem_nil m).elim, List.Pairwise.nil⟩)).elim
  | y :: r, z, h => by
    refine .inr ⟨y, rfl, ?_⟩
    by_cases c : y < z
    · exact .inr (.inl c)
    · refine .inr (.inr (bad_from r y fun p => h ?_))
      refine List.pairwise_cons.mpr ⟨fun a ha => ?_, p⟩
      rcases List.mem_cons.mp ha with e | ha
      · rw [e]
        omega
      · have := (List.pairwise_cons.mp p).1 a ha
        omega
theorem pw_zero {hs : List Int} (p : Pos0 hs) : (0 :: hs).Pairwise (· ≤ ·) ↔ hs.Pairwise (· ≤ ·) :=
  ⟨fun h => (List.pairwise_cons.mp h).2, fun h => List.pairwise_cons.mpr ⟨p, h⟩⟩
theorem heights_pos (l : List Nat) : Pos0 (heights l) := fun x hx => by
  obtain ⟨w, _, rfl⟩ := List.mem_map.mp hx
  omega
theorem heights_len (l : List Nat) : (heights l).length ≤ l.length + 1 := by
  unfold heights
  rw [List.length_map]
  exact spl_len l []
theorem canon_int {x : Str} (h : canon (TL.tl x) = true) : intText? x = some (valOf (TL.tl x) : Int) ∧ x.length ≤ 60 := by
  obtain ⟨a, b, c, _⟩ := canon_iff.mp h
  have l : x.length ≤ 60 := by rw [TL.len_tl]; exact c
  exact ⟨PySem.intText_digits b a (by omega), l⟩
theorem all_canon (t : Str) : ((Txt.split t " ").map fun w => canon (TL.tl w)).all id = true ↔ ∀ w ∈ wordsOf (TL.tl t), canon w = true := by
  rw [← split_words, List.all_map, List.all_eq_true]
  constructor
  · intro h w hw
    obtain ⟨u, hu, rfl⟩ := List.mem_map.mp hw
    exact h u hu
  · intro h u hu
    exact h _ (List.mem_map.mpr ⟨u, hu, rfl⟩)
theorem heights_split (t : Str) : heights (TL.tl t) = (Txt.split t " ").map fun w => (valOf (TL.tl w) : Int) := by
  unfold heights
  rw [← split_words, List.map_map]
  rfl
section
variable {P : Program} {w : World} {K : PySem.W.Frag} {mg : Str → Option Value} {base : Heap}
/-- a text that read is asked of -/
structure Txt7 (t : Str) : Prop where
  asc : Asc t
  len : t.length ≤ 10000
/-- what a text writes -/
def Means (t : Str) (hs : List Int) : Prop := (t = "-" ∧ hs = []) ∨ (t ≠ "-" ∧ Writes (TL.tl t) ∧ hs = heights (TL.tl t))
def MeansNo (t : Str) : Prop := t ≠ "-" ∧ ¬ Writes (TL.tl t)
theorem means_or (t : Str) : (∃ hs, Means t hs) ∨ MeansNo t := by
  by_cases a : t = "-"
  · exact .inl ⟨[], .inl ⟨a, rfl⟩⟩
  · by_cases b : Writes (TL.tl t)
    · exact .inl ⟨_, .inr ⟨a, b, rfl⟩⟩
    · exact .inr ⟨a, b⟩
/-- read: no text is refused; a text by what it writes -/
def spReadX (K : PySem.W.Frag) (C : Addr) : Sp := fun vs H Q E => ∃ x, vs = [x] ∧ ((NoTy K "str" H x ∧ E (.ref C) none H) ∨
  ∃ t, x = .str t ∧ Txt7 t ∧ ((∃ hs, Means t hs ∧ ∀ H' p, Same H H' → H p = none → H' p = some (.lst (hs.map V.int)) → Q (.ref p) H') ∨ (MeansNo t ∧ ∀ H', Same H H' → E (.ref C) none H')))
theorem okX_read {f f1 f2 C : Addr} {fd d1 d2 : FuncData} {m : Nat} (B : Bl mg) (N : Cn mg) (X : Er K mg "BadText" C) (D_is_height : Df P w K mg base "_is_height" (m + 2) ["word"] spHeight f1 d1) (Dis_stairs : Df P w K mg base "is_stairs" (m + 2) ["stairs"] (spIsSt K) f2 d2)
    (F : Fun K "read" "read" s_read f fd) : FnOk P w K mg base (L2N.CX P w) (m + 2 + 1) f fd ["text"] (spReadX K C) := by
  refine okN F sc_read (fun vs H Q E h => ?_) (fun cdv A outer s H vs Q E hr h => ?_)
  · obtain ⟨x, rfl, _⟩ := h
    rfl
  · obtain ⟨x, rfl, h⟩ := h
    obtain ⟨t2, n2⟩ := N.none
    refine ⟨_, (pss_cons (ps_if (pt_not (pt_val (pe_callB call_isi (by rfl) B.isinstance (by decide +kernel) (pa_cons (pv 0) (pa_cons (pe_bltn (v := .ty "str") (by rfl) B.str PyProof.Rows.boot_str rfl) pa_nil)))))
  (pss_one (L2N.ps_raise rfl (L2N.takes_of rfl rfl rfl rfl) (L2N.pmk_own PySem.F.excBase_ValueError X.e X.g X.k (raises_own X.b X.t) (by rfl))))
  pss_nil)
 (pss_cons (ps_if (pt_cmpR op_eq (pv 0) (pe_glob (v := .str "-") (by rfl) n2 ⟨_, rfl⟩) (nomark _))
  (pss_one (ps_ret (pe_lst pa_nil)))
  pss_nil)
 (pss_cons (ps_set (i := 1) sc_read.nd rfl (.inl rfl) (pe_bm PySem.F.plainAttrs_str PySem.F.slot_str_split PySem.F.type_str_split mt_split (pv 0) (pa_cons pe_str pa_nil)))
 (pss_cons (ps_if (pt_not (pt_val (pe_callB (cr_all rfl) (by rfl) B.all (by decide +kernel) (pa_cons (pe_lc (own := [("word", 3)]) (g := gName 3) (tt := tYes) rfl sc_read.nd (pi_list (pv 1)) (blkOk_by (N := N_read) (sc := defScope s_read) (by decide +kernel)) (fun _ _ _ _ _ => pg_name (i := 3) sc_read.nd rfl (Or.inl rfl)) (fun _ _ _ _ _ => pts_nil) (fun _ _ _ _ _ => (pe_call D_is_height.ok (hr.mono (Nat.le_refl _)) (by rfl) D_is_height.g D_is_height.kp D_is_height.b .nil pass0 (pa_cons (pv 3) pa_nil)))) pa_nil))))
  (pss_one (L2N.ps_raise rfl (L2N.takes_of rfl rfl rfl rfl) (L2N.pmk_own PySem.F.excBase_ValueError X.e X.g X.k (raises_own X.b X.t) (by rfl))))
  pss_nil)
 (pss_cons (ps_setLc (i := 2) (own := [("word", 3)]) (g := gName 3) (tt := tYes) rfl sc_read.nd rfl rfl (sw_true rfl rfl rfl (by decide +kernel)) (pi_list (pv 1)) (blkOk_by (N := N_read) (sc := defScope s_read) (by decide +kernel)) (fun _ _ _ _ _ => pg_name (i := 3) sc_read.nd rfl (Or.inl rfl)) (fun _ _ _ _ _ => pts_nil) (fun _ _ _ _ _ => (pe_callTy call_int_str (by rfl) B.int (by decide +kernel) (pa_cons (pv 3) pa_nil))))
 (pss_cons (ps_if (pt_not (pt_val (pe_call Dis_stairs.ok (hr.mono (Nat.le_refl _)) (by rfl) Dis_stairs.g Dis_stairs.kp Dis_stairs.b .nil pass0 (pa_cons (pv 2) pa_nil))))
  (pss_one (L2N.ps_raise rfl (L2N.takes_of rfl rfl rfl rfl) (L2N.pmk_own PySem.F.excBase_ValueError X.e X.g X.k (raises_own X.b X.t) (by rfl))))
  pss_nil)
 (pss_one (ps_ret (pv 2))))))))), ?_⟩
    rcases h with ⟨⟨ty, ht, hk⟩, q⟩ | ⟨t, rfl, T7, h⟩
    · exact ⟨_, rfl, _, _, _, _, false, rfl, .ty _, ht, hk, false, rfl, iteT q⟩
    refine ⟨_, rfl, _, _, _, _, true, rfl, .ty _, .base (.str t), kit_ty (by decide +kernel), true, rfl, iteF ?_⟩
    have t16 : (10000 : Nat) + 1000 ≤ sizeLine := by decide
    have tlen := T7.len
    by_cases ne : t = "-"
    · subst ne
      refine ⟨_, rfl, rfl, _, rfl, iteT ⟨Nat.zero_le _, fun p np => ?_⟩⟩
      rcases h with ⟨hs, ⟨_, rfl⟩ | ⟨z, _⟩, q⟩ | ⟨⟨z, _⟩, _⟩
      · exact q _ p (same_upd np) np upd_same
      · exact absurd rfl z
      · exact absurd rfl z
    refine ⟨_, rfl, rfl, _, rfl, ?_⟩
    rw [show decide (V.str t = V.str "-") = false from decide_eq_false fun e => ne (V.str.inj e)]
    refine iteF ?_
    refine ⟨_, rfl, rfl, t, " ", rfl, rfl, rfl, by omega, fun p np => ?_⟩
    have sl := split_len t
    have s1 : Same H (upd H p (.lst ((Txt.split t " ").map V.str))) := same_upd np
    have hp : (upd H p (.lst ((Txt.split t " ").map V.str))) p = some (.lst ((Txt.split t " ").map V.str)) := upd_same
    revert s1 hp
    generalize upd H p (.lst ((Txt.split t " ").map V.str)) = H1
    intro s1 hp
    refine ⟨_, rfl, p, rfl, ⟨_, SqL.of hp⟩, fun D nD => lc_list (K := K) (a := p) (xs := (Txt.split t " ").map V.str) (fun j H' => Same H1 H' ∧ H' D = some (.lst ((((Txt.split t " ").take j).map fun w => canon (TL.tl w)).map V.bl))) ⟨same_upd nD, upd_same⟩ (fun j H' _ e => SqL.of (e.1 _ _ hp)) ?_ ?_⟩
    · rintro j x H' hj ⟨sm, hD⟩
      obtain ⟨w, rfl, hw⟩ := mapS_get hj
      obtain ⟨aw, lw⟩ := asc_word T7.asc (List.mem_of_getElem? hw)
      refine ⟨rfl, _, rfl, w, rfl, aw, by omega, _, hD, ?_, same_mut sm nD, ?_⟩
      · rw [List.length_map, List.length_map, List.length_take]
        omega
      · rw [upd_same, take_snocG hw, List.map_append, List.map_append]
        rfl
    rintro H2 ⟨s2, hD⟩
    rw [List.length_map, List.take_length] at hD
    refine ⟨D, _, rfl, SqL.of hD, _, rfl, ?_⟩
    have s02 := s1.trans s2
    have ac := all_canon t
    by_cases hc : ((Txt.split t " ").map fun w => canon (TL.tl w)).all id = true
    · have hc' := ac.mp hc
      rw [hc]
      refine iteF ?_
      have hp2 := s2 _ _ hp
      refine ⟨_, rfl, p, rfl, ⟨_, SqL.of hp2⟩, fun D2 nD2 => lc_list (K := K) (a := p) (xs := (Txt.split t " ").map V.str) (fun j H' => Same H2 H' ∧ H' D2 = some (.lst ((((Txt.split t " ").take j).map fun w => (valOf (TL.tl w) : Int)).map V.int))) ⟨same_upd nD2, upd_same⟩ (fun j H' _ e => SqL.of (e.1 _ _ hp2)) ?_ ?_⟩
      · rintro j x H' hj ⟨sm, hD'⟩
        obtain ⟨w, rfl, hw⟩ := mapS_get hj
        have cw : canon (TL.tl w) = true := hc' _ (by rw [← split_words]; exact List.mem_map.mpr ⟨w, List.mem_of_getElem? hw, rfl⟩)
        obtain ⟨iw, lw⟩ := canon_int cw
        refine ⟨rfl, _, rfl, w, _, rfl, iw, by omega, _, hD', ?_, same_mut sm nD2, ?_⟩
        · rw [List.length_map, List.length_map, List.length_take]
          omega
        · rw [upd_same, take_snocG hw, List.map_append, List.map_append]
          rfl
      rintro H3 ⟨s3, hD2⟩
      rw [List.length_map, List.take_length, ← heights_split] at hD2
      have s03 := s02.trans s3
      by_cases hw : Writes (TL.tl t)
      · refine ⟨_, rfl, _, rfl, .inl ⟨⟨heights (TL.tl t), D2, rfl, hD2, rise_of_pw hw.2, heights_pos _⟩, true, rfl, iteF ⟨_, rfl, ?_⟩⟩⟩
        rcases h with ⟨hs, ⟨z, _⟩ | ⟨_, _, rfl⟩, q⟩ | ⟨⟨_, z⟩, _⟩
        · exact absurd z ne
        · exact q _ D2 s03 (s02.free nD2) hD2
        · exact absurd hw z
      · refine ⟨_, rfl, _, rfl, .inr ⟨.inr ⟨D2, _, rfl, hD2, bad_from _ _ fun z => hw ⟨hc', (pw_zero (heights_pos _)).mp z⟩⟩, false, rfl, iteT ?_⟩⟩
        rcases h with ⟨hs, ⟨z, _⟩ | ⟨_, z, _⟩, q⟩ | ⟨_, q⟩
        · exact absurd z ne
        · exact absurd z hw
        · exact q _ s03
    · have hw : ¬ Writes (TL.tl t) := fun z => hc (ac.mpr z.1)
      rw [Bool.not_eq_true] at hc
      rw [hc]
      refine iteT ?_
      rcases h with ⟨hs, ⟨z, _⟩ | ⟨_, z, _⟩, q⟩ | ⟨_, q⟩
      · exact absurd z ne
      · exact absurd z hw
      · exact q _ s02
end
end TS
namespace TS
open PySem PySem.Spec PyProof.Rows L2 L2H
/-! stairs as a text -/
def textW (hs : List Int) : Str := if hs = [] then "-" else Txt.join " " (hs.map fun h => (toString h : Str))
theorem txt_len {h : Int} (h0 : 0 ≤ h) (h1 : h < 10 ^ 60) : (toString h : Str).length ≤ 60 := toString_length_le h0 (by decide) h1
theorem log_low {h : Int} (h0 : 0 ≤ h) (h1 : h < 10 ^ 60) : h.natAbs.log2 < 1920 := by
  have b : h.natAbs < 2 ^ 1920 := Nat.lt_of_lt_of_le (m := 10 ^ 60) (by omega) (by decide)
  by_cases z : h.natAbs = 0
  · rw [z]
    decide
  · exact (Nat.log2_lt z).mpr b
theorem lst_last {hs : List Int} {h : Int} (e : hs.getLast? = some h) : atI (hs.map V.int) (-1) = some (.int h) := by
  obtain ⟨a, ha⟩ := List.getLast?_eq_some_iff.mp e
  rw [ha, List.map_append]
  exact atI_last _ _
/-- what is written and read -/
structure Wr (hs : List Int) : Prop where
  rise : Rise hs
  pos : Pos0 hs
  low : ∀ h ∈ hs, h < 10 ^ 60
  len : hs.length ≤ 20000
theorem means_text {t : Str} {hs : List Int} (T7 : Txt7 t) (h : Means t hs) : Wr hs ∧ textW hs = t := by
  rcases h with ⟨rfl, rfl⟩ | ⟨ne, w, rfl⟩
  · exact ⟨⟨fun i j x y _ hx _ => (by simp at hx), fun x hx => (by simp at hx), fun x hx => (by simp at hx), by decide⟩, rfl⟩
  · have hl := heights_len (TL.tl t)
    have tl := T7.len
    rw [TL.len_tl] at tl
    have mem : ∀ x ∈ heights (TL.tl t), x < 10 ^ 60 := fun x hx => by
      obtain ⟨u, hu, rfl⟩ := List.mem_map.mp hx
      have := canon_low (w.1 u hu)
      have e : (10 : Int) ^ 60 = ((10 ^ 60 : Nat) : Int) := by decide
      rw [e]
      exact Int.ofNat_lt.mpr this
    refine ⟨⟨rise_of_pw w.2, heights_pos _, mem, by omega⟩, ?_⟩
    have hne : heights (TL.tl t) ≠ [] := fun z => words_ne (TL.tl t) (List.map_eq_nil_iff.mp z)
    unfold textW
    rw [if_neg hne, heights_split, List.map_map]
    have e : ((Txt.split t " ").map ((fun h => (toString h : Str)) ∘ fun w => (valOf (TL.tl w) : Int))) = Txt.split t " " := by
      refine (List.map_congr_left (g := id) fun u hu => ?_).trans (List.map_id _)
      have cu : canon (TL.tl u) = true := w.1 _ (by rw [← split_words]; exact List.mem_map.mpr ⟨u, hu, rfl⟩)
      exact TL.ext_tl ((TL.tl_num _).trans (canon_back cu))
    rw [e, split_back]
section
variable {P : Program} {w : World} {K : PySem.W.Frag} {mg : Str → Option Value} {base : Heap}
def spWritten : Sp := fun vs H Q _ => ∃ x hs, vs = [x] ∧ Stairs H x hs ∧ Wr hs ∧ ∀ H', Same H H' → Q (.str (textW hs)) H'
theorem ok_written {f f1 : Addr} {fd d1 : FuncData} {m : Nat} {C : Addr} (B : Bl mg) (N : Cn mg) (Dcheck_stairs : Df P w K mg base "check_stairs" (m + 3) ["stairs"] (fun vs H Q _ => ∃ x, vs = [x] ∧ (∃ hs, Stairs H x hs) ∧ Q .non H) f1 d1) (F : Fun K "written" "written" s_written f fd) :
    FnOk P w K mg base CX0 (m + 3 + 1) f fd ["stairs"] spWritten := by
  refine F.ok sc_written (fun vs H Q E h => ?_) (fun cdv A outer s H vs Q E hr h => ?_)
  · obtain ⟨x, hs, rfl, _⟩ := h
    rfl
  · obtain ⟨x, hs, rfl, st, wr, q⟩ := h
    obtain ⟨t1, n1⟩ := N.high
    obtain ⟨t2, n2⟩ := N.none
    refine ⟨_, (pss_cons (ps_expr (pe_call Dcheck_stairs.ok (hr.mono (Nat.le_refl _)) (by rfl) Dcheck_stairs.g Dcheck_stairs.kp Dcheck_stairs.b .nil pass0 (pa_cons (pv 0) pa_nil)))
 (pss_cons (ps_if (pt_not (pt_truth (pv 0) (fun _ => rfl)))
  (pss_one (ps_ret (pe_glob (v := .str "-") (by rfl) n2 ⟨_, rfl⟩)))
  pss_nil)
 (pss_cons (ps_if (pt_cmpR op_ge (pe_ix ix_list (pv 0) (pe_un un_neg pe_int) (fun _ _ => rfl)) (pe_glob (v := .int (10 ^ 60)) (by rfl) n1 ⟨_, rfl⟩) (nomark _))
  (pss_one ps_never)
  pss_nil)
 (pss_one (ps_ret (pe_bm PySem.F.plainAttrs_str PySem.F.slot_str_join PySem.F.type_str_join mt_join pe_str (pa_cons (pe_lc (own := [("height", 1)]) (g := gName 1) (tt := tYes) rfl sc_written.nd (pi_list (pv 0)) (blkOk_by (N := N_written) (sc := defScope s_written) (by decide +kernel)) (fun _ _ _ _ _ => pg_name (i := 1) sc_written.nd rfl (Or.inl rfl)) (fun _ _ _ _ _ => pts_nil) (fun _ _ _ _ _ => (pe_callTy call_str_int (by rfl) B.str (by decide +kernel) (pa_cons (pv 1) pa_nil)))) pa_nil))))))), ?_⟩
    refine ⟨_, rfl, x, rfl, ⟨hs, st⟩, ?_⟩
    obtain ⟨a, rfl, hA, rise, pos⟩ := st
    by_cases ne : hs = []
    · subst ne
      exact ⟨_, rfl, false, .inl ⟨_, SqL.of hA, rfl⟩, iteT (q _ (Same.refl _))⟩
    obtain ⟨h, hl⟩ : ∃ h, hs.getLast? = some h := ⟨hs.getLast ne, List.getLast?_eq_some_getLast ne⟩
    have hlo := wr.low h (List.mem_of_getLast? hl)
    refine ⟨_, rfl, true, .inl ⟨_, SqL.of hA, ?_⟩, iteF ?_⟩
    · cases hs with
      | nil => exact absurd rfl ne
      | cons y ys => rfl
    refine ⟨_, rfl, _, rfl, a, _, _, _, rfl, rfl, SqL.of hA, lst_last hl, _, _, rfl, rfl, _, rfl, ?_⟩
    rw [decide_eq_false (by omega)]
    refine iteF ?_
    have len := wr.len
    refine ⟨rfl, _, rfl, a, rfl, ⟨_, SqL.of hA⟩, fun D nD => lc_list (K := K) (a := a) (xs := hs.map V.int) (fun j H' => Same H H' ∧ H' D = some (.lst (((hs.take j).map fun h => (toString h : Str)).map V.str))) ⟨same_upd nD, upd_same⟩ (fun j H' _ e => SqL.of (e.1 _ _ hA)) ?_ ?_⟩
    · rintro j x H' hj ⟨sm, hD⟩
      obtain ⟨y, rfl, hy⟩ := mapI_get hj
      have hm := List.mem_of_getElem? hy
      refine ⟨rfl, _, rfl, y, rfl, log_low (pos y hm) (wr.low y hm), _, hD, ?_, same_mut sm nD, ?_⟩
      · rw [List.length_map, List.length_map, List.length_take]
        exact Nat.lt_of_le_of_lt (m := 20000) (by omega) (by decide)
      · rw [upd_same, take_snocG hy, List.map_append, List.map_append]
        rfl
    rintro H1 ⟨s1, hD1⟩
    rw [List.length_map, List.take_length] at hD1
    refine ⟨" ", D, hs.map fun h => (toString h : Str), rfl, rfl, .inl (SqL.of hD1), ?_, ?_⟩
    · have b1 := sumLen_le_of_bound (fun h => (toString h : Str)) 60 hs fun y hy => txt_len (pos y hy) (wr.low y hy)
      have b2 : (" " : Str).length = 1 := rfl
      rw [List.length_map, b2]
      omega
    · have e : textW hs = Txt.join " " (hs.map fun h => (toString h : Str)) := if_neg ne
      rw [← e]
      exact q _ s1
/-! the law's own reading -/
def numV (x : Str) : V := if canon (TL.tl x) = true then .int (valOf (TL.tl x) : Int) else .non
def spNumber : Sp := fun vs H Q _ => ∃ x, vs = [.str x] ∧ Asc x ∧ x.length ≤ sizeLine ∧ Q (numV x) H
theorem ok_l_number {f : Addr} {fd : FuncData} {m : Nat} (B : Bl mg) (F : Fun K "_law_number" "_law_number" s_l_number f fd) : FnOk P w K mg base CX0 (m + 1) f fd ["_law_text"] spNumber := by
  refine F.ok sc_l_number (fun vs H Q E h => ?_) (fun cdv A outer s H vs Q E hr h => ?_)
  · obtain ⟨x, rfl, _⟩ := h
    rfl
  · obtain ⟨x, rfl, ha, hl, q⟩ := h
    refine ⟨_, (pss_cons (ps_if (PW.pt (pw_or (pt_cmpR op_eq (pv 0) pe_str (nomark _)) (pw_or (pt_cmpR op_gt (pe_callB call_len (by rfl) B.len PySem.boot_len (pa_cons (pv 0) pa_nil)) pe_int (nomark _)) (pw_or (pt_cmpR op_ne (pe_bm PySem.F.plainAttrs_str PySem.F.slot_str_strip PySem.F.type_str_strip mt_stripChars (pv 0) (pa_cons pe_str pa_nil)) pe_str (nomark _)) (pw_or1 (PW.pt (pw_and (pt_cmpR op_eq (pe_ix ix_str (pv 0) pe_int (fun _ _ => rfl)) pe_str (nomark _)) (pw_and1 (pt_cmpR op_ne (pv 0) pe_str (nomark _))))))))))
  (pss_one (ps_ret pe_non))
  pss_nil)
 (pss_one (ps_ret (pe_callTy call_int_str (by rfl) B.int (by decide +kernel) (pa_cons (pv 0) pa_nil))))), ?_⟩
    have no : canon (TL.tl x) = false → numV x = .non := fun e => if_neg (by rw [e]; exact Bool.false_ne_true)
    have lx := TL.len_tl x
    by_cases e0 : x = ""
    · refine ⟨_, rfl, rfl, _, rfl, ?_⟩
      rw [show decide (V.str x = V.str "") = true from decide_eq_true (by rw [e0])]
      refine iteT (iteT ?_)
      rw [no (by rw [e0]; rfl)] at q
      exact q
    refine ⟨_, rfl, rfl, _, rfl, ?_⟩
    rw [show decide (V.str x = V.str "") = false from decide_eq_false fun z => e0 (V.str.inj z)]
    refine iteF ⟨_, rfl, .str x, _, rfl, ⟨hl, rfl⟩, _, _, rfl, rfl, _, rfl, ?_⟩
    by_cases h60 : (TL.tl x).length ≤ 60
    · rw [decide_eq_false (by omega)]
      refine iteF ⟨_, rfl, rfl, x, _, rfl, rfl, hl, rfl, _, rfl, ?_⟩
      by_cases hd : (TL.tl x).all isDig = true
      · rw [show decide (V.str (Txt.stripChars x "0123456789") = V.str "") = true from decide_eq_true (by rw [(strip_digits x).mpr hd])]
        refine iteF ?_
        obtain ⟨c, r, hc⟩ : ∃ c r, TL.tl x = c :: r := by
          cases e : TL.tl x with
          | nil => exact absurd (empty_iff.mpr e) e0
          | cons c r => exact ⟨c, r, rfl⟩
        have hat : atI x.cps.toList 0 = some c := atI_nat (j := 0) (by show (TL.tl x)[0]? = some c; rw [hc]; rfl)
        refine ⟨_, rfl, x, 0, c, rfl, rfl, hl, hat, rfl, _, rfl, ?_⟩
        by_cases h48 : c = 48
        · rw [show decide (V.str ⟨#[c]⟩ = V.str "0") = true from decide_eq_true (by rw [h48]; rfl)]
          refine iteT ⟨_, rfl, rfl, _, rfl, ?_⟩
          by_cases z : x = "0"
          · rw [show decide (V.str x = V.str "0") = true from decide_eq_true (by rw [z])]
            refine iteF ?_
            subst z
            exact ⟨_, rfl, "0", 0, rfl, by decide +kernel, by decide, q⟩
          · rw [show decide (V.str x = V.str "0") = false from decide_eq_false fun e => z (V.str.inj e)]
            refine iteT ?_
            have : canon (TL.tl x) = false := by
              rw [Bool.eq_false_iff]
              intro e
              rcases (canon_iff.mp e).2.2.2 with u | u
              · exact z (nought_iff.mpr u)
              · rw [hc, h48] at u
                exact u rfl
            rw [no this] at q
            exact q
        · have cn : canon (TL.tl x) = true := canon_iff.mpr ⟨by rw [hc]; simp, all_dig.mp hd, h60, .inr (by rw [hc]; intro e; exact h48 (Option.some.inj e))⟩
          have e1 : numV x = .int (valOf (TL.tl x) : Int) := if_pos cn
          rw [e1] at q
          obtain ⟨iw, lw⟩ := canon_int cn
          rw [show decide (V.str ⟨#[c]⟩ = V.str "0") = false from decide_eq_false fun e => h48 (by
            have := congrArg TL.tl (V.str.inj e)
            exact List.head_eq_of_cons_eq this)]
          exact iteF (iteF ⟨_, rfl, x, _, rfl, iw, by omega, q⟩)
      · rw [show decide (V.str (Txt.stripChars x "0123456789") = V.str "") = false from decide_eq_false fun e => hd ((strip_digits x).mp (V.str.inj e))]
        refine iteT (iteT ?_)
        have : canon (TL.tl x) = false := by
          rw [Bool.eq_false_iff]
          exact fun e => hd (all_dig.mpr (canon_iff.mp e).2.1)
        rw [no this] at q
        exact q
    · rw [decide_eq_true (by omega)]
      refine iteT (iteT ?_)
      have : canon (TL.tl x) = false := by
        rw [Bool.eq_false_iff]
        exact fun e => h60 (canon_iff.mp e).2.2.1
      rw [no this] at q
      exact q
end
end TS
namespace TS
open PySem PySem.Spec PyProof.Rows L2 L2H
theorem numV_flat (x : Str) : flatV (numV x) = true := by
  unfold numV
  split <;> rfl
theorem none_in (ws : List Str) : inV .non (ws.map numV) = !((ws.map fun w => canon (TL.tl w)).all id) := by
  induction ws with
  | nil => rfl
  | cons x r ih =>
    show (eqV (numV x) .non || inV .non (r.map numV)) = !(canon (TL.tl x) && (r.map fun w => canon (TL.tl w)).all id)
    rw [ih]
    unfold numV
    cases canon (TL.tl x) <;> rfl
section
variable {P : Program} {w : World} {K : PySem.W.Frag} {mg : Str → Option Value} {base : Heap}
def spIn : Sp := fun vs H Q _ => ∃ t, vs = [.str t] ∧ Txt7 t ∧ ((∃ hs, Means t hs ∧ ∀ H' p, Same H H' → H p = none → H' p = some (.lst (hs.map V.int)) → Q (.ref p) H') ∨ (MeansNo t ∧ ∀ H', Same H H' → Q .non H'))
theorem ok_l_in {f f1 : Addr} {fd d1 : FuncData} {m : Nat} (B : Bl mg) (Dl_number : Df P w K mg base "_law_number" (m + 1) ["_law_text"] spNumber f1 d1) (F : Fun K "_law_in" "_law_in" s_l_in f fd) : FnOk P w K mg base CX0 (m + 1 + 1) f fd ["_law_text"] spIn := by
  refine F.ok sc_l_in (fun vs H Q E h => ?_) (fun cdv A outer s H vs Q E hr h => ?_)
  · obtain ⟨t, rfl, _⟩ := h
    rfl
  · obtain ⟨t, rfl, T7, h⟩ := h
    refine ⟨_, (pss_cons (ps_if (pt_cmpR op_eq (pv 0) pe_str (nomark _))
  (pss_one (ps_ret (pe_lst pa_nil)))
  pss_nil)
 (pss_cons (ps_setLc (i := 1) (own := [("_law_word", 2)]) (g := gName 2) (tt := tYes) rfl sc_l_in.nd rfl rfl (sw_true rfl rfl rfl (by decide +kernel)) (pi_list (pe_bm PySem.F.plainAttrs_str PySem.F.slot_str_split PySem.F.type_str_split mt_split (pv 0) (pa_cons pe_str pa_nil))) (blkOk_by (N := N_l_in) (sc := defScope s_l_in) (by decide +kernel)) (fun _ _ _ _ _ => pg_name (i := 2) sc_l_in.nd rfl (Or.inl rfl)) (fun _ _ _ _ _ => pts_nil) (fun _ _ _ _ _ => (pe_call Dl_number.ok (hr.mono (Nat.le_refl _)) (by rfl) Dl_number.g Dl_number.kp Dl_number.b .nil pass0 (pa_cons (pv 2) pa_nil))))
 (pss_one (ps_ret (pe_ifExp (PW.pt (pw_or (pt_cmpR op_in_seq pe_non (pv 1) (by rfl)) (pw_or1 (pt_cmpR (op_neD hr.units) (pv 1) (pe_callB cr_sortedI (by rfl) B.sorted (by decide +kernel) (pa_cons (pv 1) pa_nil)) (nomark _))))) pe_non (pv 1)))))), ?_⟩
    have t16 : (10000 : Nat) + 1000 ≤ sizeLine := by decide
    have tlen := T7.len
    by_cases ne : t = "-"
    · subst ne
      refine ⟨_, rfl, rfl, _, rfl, iteT ⟨Nat.zero_le _, fun p np => ?_⟩⟩
      rcases h with ⟨hs, ⟨_, rfl⟩ | ⟨z, _⟩, q⟩ | ⟨⟨z, _⟩, _⟩
      · exact q _ p (same_upd np) np upd_same
      · exact absurd rfl z
      · exact absurd rfl z
    refine ⟨_, rfl, rfl, _, rfl, ?_⟩
    rw [show decide (V.str t = V.str "-") = false from decide_eq_false fun e => ne (V.str.inj e)]
    refine iteF ?_
    refine ⟨_, rfl, rfl, t, " ", rfl, rfl, rfl, by omega, fun p np => ?_⟩
    have sl := split_len t
    have s1 : Same H (upd H p (.lst ((Txt.split t " ").map V.str))) := same_upd np
    have hp : (upd H p (.lst ((Txt.split t " ").map V.str))) p = some (.lst ((Txt.split t " ").map V.str)) := upd_same
    revert s1 hp
    generalize upd H p (.lst ((Txt.split t " ").map V.str)) = H1
    intro s1 hp
    refine ⟨p, rfl, ⟨_, SqL.of hp⟩, fun D nD => lc_list (K := K) (a := p) (xs := (Txt.split t " ").map V.str) (fun j H' => Same H1 H' ∧ H' D = some (.lst (((Txt.split t " ").take j).map numV))) ⟨same_upd nD, upd_same⟩ (fun j H' _ e => SqL.of (e.1 _ _ hp)) ?_ ?_⟩
    · rintro j x H' hj ⟨sm, hD⟩
      obtain ⟨w, rfl, hw⟩ := mapS_get hj
      obtain ⟨aw, lw⟩ := asc_word T7.asc (List.mem_of_getElem? hw)
      refine ⟨rfl, _, rfl, w, rfl, aw, by omega, _, hD, ?_, same_mut sm nD, ?_⟩
      · rw [List.length_map, List.length_take]
        omega
      · rw [upd_same, take_snocG hw, List.map_append]
        rfl
    rintro H2 ⟨s2, hD⟩
    rw [List.length_map, List.take_length] at hD
    have s02 := s1.trans s2
    have ac := all_canon t
    refine ⟨_, rfl, D, _, rfl, .inl (SqL.of hD), rfl, ?_, _, rfl, ?_⟩
    · rw [List.all_eq_true]
      intro x hx
      obtain ⟨u, _, rfl⟩ := List.mem_map.mp hx
      exact numV_flat u
    rw [if_neg Bool.false_ne_true, none_in]
    by_cases hc : ((Txt.split t " ").map fun w => canon (TL.tl w)).all id = true
    · rw [hc]
      refine iteF ?_
      have hc' := ac.mp hc
      have ev : (Txt.split t " ").map numV = (heights (TL.tl t)).map V.int := by
        rw [heights_split, List.map_map]
        refine List.map_congr_left fun u hu => ?_
        exact if_pos (hc' _ (by rw [← split_words]; exact List.mem_map.mpr ⟨u, hu, rfl⟩))
      rw [ev] at hD
      refine ⟨_, rfl, _, rfl, D, _, rfl, SqL.of hD, fun ns' p2 pm pw np2 => ?_⟩
      refine ⟨_, _, dp_il (il_of ((same_upd np2) _ _ hD)), dp_il (il_of upd_same), shaped_ints _, shaped_ints _, _, rfl, ?_⟩
      rw [eqv_ints]
      by_cases hw : (heights (TL.tl t)).Pairwise (· ≤ ·)
      · have e := sorted_same pm pw hw
        subst e
        rw [decide_eq_true rfl]
        refine iteF ⟨_, rfl, ?_⟩
        rcases h with ⟨hs, ⟨z, _⟩ | ⟨_, _, rfl⟩, q⟩ | ⟨⟨_, z⟩, _⟩
        · exact absurd z ne
        · exact q _ D (s02.trans (same_upd np2)) (s1.free nD) ((same_upd np2) _ _ hD)
        · exact absurd ⟨hc', hw⟩ z
      · rw [decide_eq_false fun e => hw (by rw [e]; exact pw)]
        refine iteT ?_
        rcases h with ⟨hs, ⟨z, _⟩ | ⟨_, z, _⟩, q⟩ | ⟨_, q⟩
        · exact absurd z ne
        · exact absurd z.2 hw
        · exact q _ (s02.trans (same_upd np2))
    · have hw : ¬ Writes (TL.tl t) := fun z => hc (ac.mpr z.1)
      rw [Bool.not_eq_true] at hc
      rw [hc]
      refine iteT (iteT ?_)
      rcases h with ⟨hs, ⟨z, _⟩ | ⟨_, z, _⟩, q⟩ | ⟨_, q⟩
      · exact absurd z ne
      · exact absurd z hw
      · exact q _ s02
end
end TS
namespace TS
open PySem PySem.Spec PyProof.Rows L2 L2H
theorem takes0N {X : Cx} : L2N.Takes X (fun _ _ _ _ => False) := fun _ _ x => by
  obtain ⟨_, _, _, _, _, _, _, _, _, _, _, _, _, _, _, _, z⟩ := x
  exact z.elim
/-- the own classes: StairError at S, those under it -/
structure Cs (K : PySem.W.Frag) (mg : Str → Option Value) (S : Addr) (c : Nat → Addr) : Prop where
  gS : mg "StairError" = some (.ref S)
  g0 : mg "BadStairs" = some (.ref (c 0))
  g1 : mg "BadCount" = some (.ref (c 1))
  g2 : mg "BadNumber" = some (.ref (c 2))
  g3 : mg "BadTowers" = some (.ref (c 3))
  g4 : mg "BadText" = some (.ref (c 4))
/-- what the errors of the j-th class are -/
structure Kind (K : PySem.W.Frag) (S : Addr) (c : Nat → Addr) (j : Nat) : Prop where
  x : ExcC K (c j)
  i0 : PySem.W.kitOne K (.ref (c j)) (.ref (c 0)) = some (decide (j = 0))
  i1 : PySem.W.kitOne K (.ref (c j)) (.ref (c 1)) = some (decide (j = 1))
  i2 : PySem.W.kitOne K (.ref (c j)) (.ref (c 2)) = some (decide (j = 2))
  i3 : PySem.W.kitOne K (.ref (c j)) (.ref (c 3)) = some (decide (j = 3))
  i4 : PySem.W.kitOne K (.ref (c j)) (.ref (c 4)) = some (decide (j = 4))
  iV : PySem.W.kitOne K (.ref (c j)) (.type "ValueError") = some true
  te : PySem.W.exmOne K (.ref (c j)) (.ref S) = some true
section
variable {P : Program} {w : World} {K : PySem.W.Frag} {mg : Str → Option Value} {base : Heap}
def spRefused (K : PySem.W.Frag) : Sp := fun vs H Q _ => ∃ x, vs = [x] ∧ (NoTy K "str" H x ∨ ∃ t, x = .str t ∧ Txt7 t ∧ MeansNo t) ∧ ∀ H', Same H H' → Q (.bl true) H'
theorem run_of {X : Cx} {sts : List Stmt} {pins : List (Addr × Obj)} {s : Shared} {σ : L2.St} {H : Hp} {D : Ends} (I : Inv X pins σ H s) (h : ∃ t, PSs X sts t ∧ t D σ H) : wpAny (model X.prog X.w) X.A (execs sts X.env) (SP X pins D) X.xe s :=
  let ⟨_, a, b⟩ := h
  a.run pins s σ H D I b
/-- what the suite reads -/
def tRefuse (C a : Addr) (cls : Value) (d : Option Addr) : TS := fun D σ H => (cls = .ref C ∧ d = none) ∧ (∃ v, σ = [v, some (.ref a), none]) ∧ ∀ H', Same H H' → D.rt (.bl true) H'
theorem ok_l_refused {S f f1 : Addr} {c : Nat → Addr} {fd d1 : FuncData} {m : Nat} (B : Bl mg) (T : Cs K mg S c) (kd : Kind K S c 4) (Rd : FnOk P w K mg base (L2N.CX P w) (m + 1) f1 d1 ["text"] (spReadX K (c 4))) (gR : mg "read" = some (.ref f1)) (kR : PySem.W.keepIn K (.ref f1) = true) (bR : Binds K d1 ["text"] [])
    (F : Fun K "_law_refused" "_law_refused" s_l_refused f fd) : FnOk P w K mg base CX0 (m + 1 + 1) f fd ["_law_text"] (spRefused K) := by
  refine F.ok sc_l_refused (fun vs H Q E h => ?_) (fun cdv A outer s H vs Q E hr h => ?_)
  · obtain ⟨x, rfl, _⟩ := h
    rfl
  · obtain ⟨x, rfl, h, q⟩ := h
    refine ⟨_, (pss_cons (L2N.ps_try_as (i := 1) (ts := fun a cls d => tRefuse (c 4) a cls d) rfl rfl sc_l_refused.nd rfl rfl ⟨rfl, by decide, .inl T.gS⟩ takes0N
      (fun W pn xe tk _ => pss_one (ps_expr (pe_callS Rd hr (by rfl) gR kR bR (fun σ => L2N.passAt tk σ) (by exact pa_cons (pv 0) pa_nil))))
      (fun a oe cls d pn hz hf => ?_))
 (pss_one (ps_ret pe_bl))), ?_⟩
    · constructor
      rintro pins s σ H D I ⟨⟨rfl, rfl⟩, ⟨v, rfl⟩, k⟩
      have cg : Caught (c 4) (a, oe) := ⟨hz.zc, hf⟩
      refine run_of I ⟨_, pss_cons (ps_set (i := 2) sc_l_refused.nd rfl (.inl rfl) (pe_lst (pa_cons (pe_callB (isi_err (p := (a, oe)) kd.x (by exact List.mem_cons_self) cg) (by rfl) B.isinstance (by decide +kernel) (pa_cons (pv 1) (pa_cons (pe_glob (v := .ref (c 1)) (by rfl) T.g1 rfl) pa_nil))) (pa_cons (pe_callB (isi_err (p := (a, oe)) kd.x (by exact List.mem_cons_self) cg) (by rfl) B.isinstance (by decide +kernel) (pa_cons (pv 1) (pa_cons (pe_glob (v := .ref (c 2)) (by rfl) T.g2 rfl) pa_nil))) (pa_cons (pe_callB (isi_err (p := (a, oe)) kd.x (by exact List.mem_cons_self) cg) (by rfl) B.isinstance (by decide +kernel) (pa_cons (pv 1) (pa_cons (pe_glob (v := .ref (c 0)) (by rfl) T.g0 rfl) pa_nil))) pa_nil)))))
          (pss_cons (ps_expr (pe_bm PySem.F.plainAttrs_list PySem.F.slot_list_append PySem.F.type_list_append mt_append (pv 2) (pa_cons (pe_callB (isi_err (p := (a, oe)) kd.x (by exact List.mem_cons_self) cg) (by rfl) B.isinstance (by decide +kernel) (pa_cons (pv 1) (pa_cons (pe_glob (v := .ref (c 3)) (by rfl) T.g3 rfl) pa_nil))) pa_nil)))
          (pss_one (ps_ret (pe_and (pe_callB (isi_err (p := (a, oe)) kd.x (by exact List.mem_cons_self) cg) (by rfl) B.isinstance (by decide +kernel) (pa_cons (pv 1) (pa_cons (pe_glob (v := .ref (c 4)) (by rfl) T.g4 rfl) pa_nil))) (pe_and (pe_callB (isi_err (p := (a, oe)) kd.x (by exact List.mem_cons_self) cg) (by rfl) B.isinstance (by decide +kernel) (pa_cons (pv 1) (pa_cons (pe_bltn (v := .ty "ValueError") (by rfl) B.valueError (by decide +kernel) rfl) pa_nil))) (pe_one (pe_not (pe_callB (cr_anyH (hot_suite hz hf)) (by rfl) B.any (by decide +kernel) (pa_cons (pv 2) pa_nil))))))))), ?_⟩
      refine ⟨_, rfl, .ref (c 1), .ref (c 1), _, rfl, fun _ e => e, kd.i1, _, rfl, .ref (c 2), .ref (c 2), _, rfl, fun _ e => e, kd.i2, _, rfl, .ref (c 0), .ref (c 0), _, rfl, fun _ e => e, kd.i0, by show 3 ≤ sizeLine; decide, fun l nl => ?_⟩
      have s1 : Same H (upd H l (.lst [.bl false, .bl false, .bl false])) := same_upd nl
      refine ⟨_, rfl, .inl ⟨rfl, _, SqL.of upd_same⟩, _, rfl, .ref (c 3), .ref (c 3), _, rfl, fun _ e => e, kd.i3, l, _, _, rfl, rfl, upd_same, by show 3 < sizeLine; decide, ?_⟩
      have s2 : Same H (upd (upd H l (.lst [.bl false, .bl false, .bl false])) l (.lst [.bl false, .bl false, .bl false, .bl false])) := same_mut s1 nl
      refine ⟨_, rfl, .ref (c 4), .ref (c 4), _, rfl, fun _ e => e, kd.i4, true, rfl, iteT ?_⟩
      refine ⟨_, rfl, .ty "ValueError", .type "ValueError", _, rfl, fun _ e => e, kd.iV, true, rfl, iteT ?_⟩
      exact ⟨_, rfl, l, [false, false, false, false], rfl, SqL.of upd_same, _, rfl, k _ s2⟩
    · refine ⟨_, rfl, x, rfl, ?_⟩
      have fin : ∀ H1, Same H H1 → Q (.bl true) H1 := q
      rcases h with hn | ⟨t, rfl, T7, no⟩
      · exact .inl ⟨hn, true, kd.te, fun _ a ha => ⟨⟨rfl, rfl⟩, ⟨_, rfl⟩, fun H' s' => q _ s'⟩, fun z => Bool.noConfusion z⟩
      · exact .inr ⟨t, rfl, T7, .inr ⟨no, fun H1 s1 => ⟨true, kd.te, fun _ a ha => ⟨⟨rfl, rfl⟩, ⟨_, rfl⟩, fun H' s' => q _ (s1.trans s')⟩, fun z => Bool.noConfusion z⟩⟩⟩
end
end TS
namespace TS
open PySem PySem.Spec PyProof.Rows L2
theorem Means.uniq {t : Str} {a b : List Int} (x : Means t a) (y : Means t b) : a = b := by
  rcases x with ⟨p, rfl⟩ | ⟨p, _, rfl⟩ <;> rcases y with ⟨q, rfl⟩ | ⟨q, _, rfl⟩
  · rfl
  · exact absurd p q
  · exact absurd q p
  · rfl
section
variable {P : Program} {w : World} {K : PySem.W.Frag} {mg : Str → Option Value} {base : Heap}
def spReadC : Sp := fun vs H Q _ => ∃ t hs, vs = [.str t] ∧ Txt7 t ∧ Means t hs ∧ ∀ H' p, Same H H' → H p = none → H' p = some (.lst (hs.map V.int)) → Q (.ref p) H'
def spRight : Sp := fun vs H Q _ => ∃ t, vs = [.str t] ∧ Txt7 t ∧ ∀ H', Same H H' → Q (.bl true) H'
theorem ok_l_right {f f1 f2 f3 f4 : Addr} {fd d1 d2 d3 d4 : FuncData} {m : Nat} (B : Bl mg) (Dl_in : Df P w K mg base "_law_in" (m + 1) ["_law_text"] spIn f1 d1) (Dl_refused : Df P w K mg base "_law_refused" (m + 1) ["_law_text"] (spRefused K) f2 d2)
    (Dread : Df P w K mg base "read" (m + 1) ["text"] spReadC f3 d3) (Dwritten : Df P w K mg base "written" (m + 1) ["stairs"] spWritten f4 d4)
    (F : Fun K "_law_right" "_law_right" s_l_right f fd) : FnOk P w K mg base CX0 (m + 1 + 1) f fd ["_law_text"] spRight := by
  refine F.ok sc_l_right (fun vs H Q E h => ?_) (fun cdv A outer s H vs Q E hr h => ?_)
  · obtain ⟨t, rfl, _⟩ := h
    rfl
  · obtain ⟨t, rfl, T7, q⟩ := h
    refine ⟨_, (pss_cons (ps_set (i := 1) sc_l_right.nd rfl (.inl rfl) (pe_call Dl_in.ok (hr.mono (Nat.le_refl _)) (by rfl) Dl_in.g Dl_in.kp Dl_in.b .nil pass0 (pa_cons (pv 0) pa_nil)))
 (pss_cons (ps_if (pt_cmpR op_isN (pv 1) pe_non (nomark _))
  (pss_one (ps_ret (pe_call Dl_refused.ok (hr.mono (Nat.le_refl _)) (by rfl) Dl_refused.g Dl_refused.kp Dl_refused.b .nil pass0 (pa_cons (pv 0) pa_nil))))
  pss_nil)
 (pss_cons (ps_set (i := 2) sc_l_right.nd rfl (.inl rfl) (pe_call Dread.ok (hr.mono (Nat.le_refl _)) (by rfl) Dread.g Dread.kp Dread.b .nil pass0 (pa_cons (pv 0) pa_nil)))
 (pss_cons (ps_if (PW.pt (pw_or (pt_not (pt_val (pe_callB call_isi (by rfl) B.isinstance (by decide +kernel) (pa_cons (pv 2) (pa_cons (pe_bltn (v := .ty "list") (by rfl) B.list PyProof.Rows.boot_list rfl) pa_nil))))) (pw_or (pt_cmpR (op_neD hr.units) (pv 2) (pv 1) (nomark _)) (pw_or1 (pt_cmpR op_ne (pe_call Dwritten.ok (hr.mono (Nat.le_refl _)) (by rfl) Dwritten.g Dwritten.kp Dwritten.b .nil pass0 (pa_cons (pv 2) pa_nil)) (pv 0) (nomark _))))))
  (pss_one (ps_ret pe_bl))
  pss_nil)
 (pss_cons (ps_expr (pe_bm PySem.F.plainAttrs_list PySem.F.slot_list_append PySem.F.type_list_append mt_append (pv 2) (pa_cons pe_int pa_nil)))
 (pss_one (ps_ret (pe_cmpR (op_eqD hr.units) (pe_call Dread.ok (hr.mono (Nat.le_refl _)) (by rfl) Dread.g Dread.kp Dread.b .nil pass0 (pa_cons (pv 0) pa_nil)) (pv 1) (nomark _))))))))), ?_⟩
    rcases means_or t with ⟨hs, me⟩ | no
    · obtain ⟨wr, tx⟩ := means_text T7 me
      refine ⟨_, rfl, t, rfl, T7, .inl ⟨hs, me, fun H1 p s1 np hp => ?_⟩⟩
      refine ⟨_, rfl, rfl, false, rfl, iteF ?_⟩
      refine ⟨_, rfl, t, hs, rfl, T7, me, fun H2 p2 s2 np2 hp2 => ?_⟩
      have hp' := s2 _ _ hp
      refine ⟨_, rfl, _, _, _, _, true, rfl, .ty _, .base (.lst hp2), kit_ty (by decide +kernel), true, rfl, iteF ?_⟩
      refine ⟨_, rfl, _, rfl, _, _, dp_il (il_of hp2), dp_il (il_of hp'), shaped_ints _, shaped_ints _, _, rfl, ?_⟩
      rw [eqv_ints, decide_eq_true rfl]
      refine iteF ?_
      refine ⟨_, rfl, .ref p2, hs, rfl, ⟨p2, rfl, hp2, wr.rise, wr.pos⟩, wr, fun H3 s3 => ?_⟩
      rw [tx]
      refine ⟨_, rfl, rfl, _, rfl, ?_⟩
      rw [show decide (V.str t = V.str t) = true from decide_eq_true rfl]
      refine iteF ?_
      have hp3 := s3 _ _ hp2
      have len := wr.len
      refine ⟨_, rfl, .inl ⟨rfl, _, SqL.of hp3⟩, p2, _, _, rfl, rfl, hp3, by rw [List.length_map]; exact Nat.lt_of_le_of_lt len (by decide), ?_⟩
      have npp : p ≠ p2 := ne_of_none hp np2
      have s4 : Same H1 (upd H3 p2 (.lst (hs.map V.int ++ [V.int 0]))) := same_mut (s2.trans s3) np2
      refine ⟨_, rfl, t, hs, rfl, T7, me, fun H5 p5 s5 np5 hp5 => ?_⟩
      refine ⟨_, rfl, _, _, dp_il (il_of hp5), dp_il (il_of (s5 _ _ (s4 _ _ hp))), shaped_ints _, shaped_ints _, ?_⟩
      rw [eqv_ints, decide_eq_true rfl]
      exact q _ (s1.trans (s4.trans s5))
    · refine ⟨_, rfl, t, rfl, T7, .inr ⟨no, fun H1 s1 => ?_⟩⟩
      refine ⟨_, rfl, rfl, true, rfl, iteT ?_⟩
      exact ⟨_, rfl, .str t, rfl, .inr ⟨t, rfl, T7, no⟩, fun H2 s2 => q _ (s1.trans s2)⟩
def asc7 (t : Str) : Bool := (TL.tl t).all (fun c => decide (c < 128)) && decide (t.length ≤ 4100)
theorem asc7_ok {t : Str} (h : asc7 t = true) : Txt7 t := by
  obtain ⟨a, b⟩ := (Bool.and_eq_true _ _).mp h
  rw [List.all_eq_true] at a
  have := of_decide_eq_true b
  exact ⟨fun c hc => of_decide_eq_true (a c hc), by omega⟩
theorem signs_len (c n : Nat) : (signs1 c n).length = n := by
  show (List.replicate n c).toArray.size = n
  simp
theorem nine_ok {n : Nat} (h : n ≤ 4000) : asc7 (signs1 57 n) = true := by
  unfold asc7
  rw [signs_len, decide_eq_true (by omega), Bool.and_true, List.all_eq_true]
  intro c hc
  have : c = 57 := (List.mem_replicate.mp hc).2
  rw [this]
  rfl
def few1 : List Str := ["", "-", " ", "--", "0", "1 2", "2 1", "1 1", "0 0", "00", "01", "1 02", "1  2", " 1", "1 ", "-1", "-0"]
def few2 : List Str := ["1,2", "1\n", "1\t2", "+1", "1_0", "x", "1 x", "- 1", "1 -", "1.0", "0 5 9", "\n1", "1:2"]
def few3 : List Str := [signs1 57 60, signs1 57 61, "1 " ++ signs1 57 60, signs1 57 4000]
theorem few_ok : (few1 ++ few2).all asc7 = true := by decide +kernel
def spFew : Sp := fun vs H Q _ => vs = [] ∧ ∀ H' p (ts : List Str), Same H H' → H p = none → H' p = some (.lst (ts.map V.str)) → (∀ t ∈ ts, asc7 t = true) → ts.length = 34 → Q (.ref p) H'
theorem ok_l_few {f : Addr} {fd : FuncData} {m : Nat} (B : Bl mg) (F : Fun K "_law_few" "_law_few" s_l_few f fd) : FnOk P w K mg base CX0 (m + 1) f fd [] spFew := by
  refine F.ok sc_l_few (fun vs H Q E h => ?_) (fun cdv A outer s H vs Q E hr h => ?_)
  · obtain ⟨rfl, _⟩ := h
    rfl
  · obtain ⟨rfl, q⟩ := h
    refine ⟨_, (pss_cons (ps_set (i := 0) sc_l_few.nd rfl (.inl rfl) (pe_lst (pa_cons pe_str (pa_cons pe_str (pa_cons pe_str (pa_cons pe_str (pa_cons pe_str (pa_cons pe_str (pa_cons pe_str (pa_cons pe_str (pa_cons pe_str (pa_cons pe_str (pa_cons pe_str (pa_cons pe_str (pa_cons pe_str (pa_cons pe_str (pa_cons pe_str (pa_cons pe_str (pa_cons pe_str pa_nil)))))))))))))))))))
 (pss_cons (ps_set (i := 0) sc_l_few.nd rfl (.inl rfl) (pe_op op_cat (pv 0) (pe_lst (pa_cons pe_str (pa_cons pe_str (pa_cons pe_str (pa_cons pe_str (pa_cons pe_str (pa_cons pe_str (pa_cons pe_str (pa_cons pe_str (pa_cons pe_str (pa_cons pe_str (pa_cons pe_str (pa_cons pe_str (pa_cons pe_str pa_nil))))))))))))))))
 (pss_one (ps_ret (pe_op op_cat (pv 0) (pe_lst (pa_cons (pe_op op_rep1 pe_str pe_int) (pa_cons (pe_op op_rep1 pe_str pe_int) (pa_cons (pe_op op_add_str pe_str (pe_op op_rep1 pe_str pe_int)) (pa_cons (pe_op op_rep1 pe_str pe_int) pa_nil)))))))))), ?_⟩
    refine ⟨by show 17 ≤ sizeLine; decide, fun p1 n1 => ?_⟩
    refine ⟨_, rfl, by show 13 ≤ sizeLine; decide, fun p2 n2 => ?_⟩
    refine ⟨p1, p2, _, _, rfl, rfl, (same_upd n2) _ _ upd_same, upd_same, by show 30 ≤ sizeLine; decide, fun p3 n3 => ?_⟩
    refine ⟨_, rfl, 57, 60, rfl, rfl, by decide, by decide, 57, 61, rfl, rfl, by decide, by decide, 57, 60, rfl, rfl, by decide, by decide, _, _, rfl, rfl, ?_, 57, 4000, rfl, rfl, by decide, by decide, by show 4 ≤ sizeLine; decide, fun p4 n4 => ?_⟩
    · rw [signs_len]
      decide
    refine ⟨p3, p4, _, _, rfl, rfl, (same_upd n4) _ _ upd_same, upd_same, by show 34 ≤ sizeLine; decide, fun p5 n5 => ?_⟩
    refine q _ p5 _ ?s0 ?f0 (upd_same.trans (congrArg (fun z => some (HO.lst z)) (?e0 : _ = ((few1 ++ few2) ++ few3).map V.str))) ?_ ?_
    case s0 => exact ((((same_upd n1).trans (same_upd n2)).trans (same_upd n3)).trans (same_upd n4)).trans (same_upd n5)
    case f0 => exact Same.free ((((same_upd n1).trans (same_upd n2)).trans (same_upd n3)).trans (same_upd n4)) n5
    case e0 => rfl
    · intro t ht
      rcases List.mem_append.mp ht with h | h
      · exact List.all_eq_true.mp few_ok t h
      · simp only [few3, List.mem_cons, List.not_mem_nil, or_false] at h
        rcases h with rfl | rfl | rfl | rfl
        · exact nine_ok (by decide)
        · exact nine_ok (by decide)
        · decide +kernel
        · exact nine_ok (by decide)
    · rfl
end
end TS
namespace TS
open PySem PySem.Spec PyProof.Rows L2
theorem asc_app {a b : Str} (ha : Asc a) (hb : Asc b) : Asc (a ++ b) := fun c hc => by
  rw [TL.tl_append] at hc
  rcases List.mem_append.mp hc with h | h
  · exact ha c h
  · exact hb c h
theorem asc_cut {a : Str} (ha : Asc a) (lo hi : Option Int) : Asc (cutS a lo hi) := fun c hc => by
  have h : c ∈ ((a.cps.toList.drop (HT.sIx a.length 0 lo)).take (HT.sIx a.length a.length hi - HT.sIx a.length 0 lo)) := hc
  exact ha c (List.mem_of_mem_drop (List.mem_of_mem_take h))
theorem len_app (a b : Str) : (a ++ b).length = a.length + b.length := by
  rw [TL.len_tl, TL.tl_append, List.length_append, ← TL.len_tl, ← TL.len_tl]
/-- what stands in a joined text of heights -/
theorem join_asc : ∀ (hs : List Int), Pos0 hs → Asc (Txt.join " " (hs.map fun h => (toString h : Str))) := by
  intro hs pos
  have key : ∀ (ps : List (List Nat)), (∀ p ∈ ps, ∀ c ∈ p, c < 128) → ∀ c ∈ TL.joinL [32] ps, c < 128 := by
    intro ps
    induction ps with
    | nil => intro _ c hc; cases hc
    | cons p r ih =>
      intro h c hc
      by_cases e : r = []
      · subst e
        exact h p (by simp) c hc
      · rw [join_cons _ _ e] at hc
        rcases List.mem_append.mp hc with z | z
        · exact h p (by simp) c z
        · rcases List.mem_append.mp z with z | z
          · rw [List.mem_singleton.mp z]
            decide
          · exact ih (fun q hq => h q (by simp [hq])) c z
  intro c hc
  rw [TL.join_eq, TL.tl_join] at hc
  refine key _ (fun p hp d hd => ?_) c hc
  obtain ⟨u, hu, rfl⟩ := List.mem_map.mp hp
  obtain ⟨h, hh, rfl⟩ := List.mem_map.mp hu
  obtain ⟨n, rfl⟩ := Int.eq_ofNat_of_zero_le (pos h hh)
  have e : TL.tl (Str.ofString (toString ((n : Nat) : Int))) = TL.numL n := TL.tl_num n
  have hd' : d ∈ TL.numL n := by rw [← e]; exact hd
  have := TL.numL_digits n d hd'
  omega
theorem join_len : ∀ (hs : List Int), (∀ h ∈ hs, 0 ≤ h ∧ h < 10 ^ 60) → (Txt.join " " (hs.map fun h => (toString h : Str))).length ≤ 61 * hs.length
  | [], _ => by
    rw [TL.join_eq]
    exact Nat.le_refl _
  | h :: r, hb => by
    have b := hb h (by simp)
    have l := txt_len b.1 b.2
    have ih := join_len r fun x hx => hb x (by simp [hx])
    rw [TL.join_eq] at ih ⊢
    cases r with
    | nil =>
      show (Str.ofString (toString h)).length ≤ _
      have : (toString h : Str).length = (Str.ofString (toString h)).length := rfl
      simp only [List.length_cons, List.length_nil]
      omega
    | cons y r =>
      show ((Str.ofString (toString h)) ++ " " ++ Str.join " " ((y :: r).map fun h => (toString h : Str))).length ≤ _
      rw [len_app, len_app]
      have : (toString h : Str).length = (Str.ofString (toString h)).length := rfl
      have s1 : (" " : Str).length = 1 := rfl
      rw [List.length_cons]
      omega
theorem textW_ok {hs : List Int} (w : Wr hs) (h63 : hs.length ≤ 63) : Txt7 (textW hs) ∧ (textW hs).length ≤ 4000 := by
  unfold textW
  by_cases e : hs = []
  · rw [if_pos e]
    exact ⟨asc7_ok (by decide +kernel), by decide⟩
  · rw [if_neg e]
    have l := join_len hs fun h hh => ⟨w.pos h hh, w.low h hh⟩
    exact ⟨⟨join_asc hs w.pos, by omega⟩, by omega⟩
theorem wr_of {n : Nat} {hs : List Int} (g : GoodS n hs) : Wr hs := by
  have b : (10 : Int) ^ 59 ≤ 10 ^ 60 := by decide
  refine ⟨g.rise, g.pos, fun x hx => ?_, ?_⟩
  · have := g.low x hx
    omega
  · have := g.len
    omega
def menu : Str := "0123456789 -x\n"
theorem menu_at {i : Nat} (h : i < 14) : ∃ c, c < 128 ∧ menu.cps.toList[i]? = some c := by
  have e : menu.cps.toList = [48, 49, 50, 51, 52, 53, 54, 55, 56, 57, 32, 45, 120, 10] := by decide +kernel
  rw [e]
  have all : ∀ i, i < 14 → ∃ c, c < 128 ∧ ([48, 49, 50, 51, 52, 53, 54, 55, 56, 57, 32, 45, 120, 10] : List Nat)[i]? = some c := by
    intro i hi
    refine ⟨_, ?_, List.getElem?_eq_getElem hi⟩
    have m : ([48, 49, 50, 51, 52, 53, 54, 55, 56, 57, 32, 45, 120, 10] : List Nat)[i] ∈ ([48, 49, 50, 51, 52, 53, 54, 55, 56, 57, 32, 45, 120, 10] : List Nat) := List.getElem_mem _
    have q : ∀ x ∈ ([48, 49, 50, 51, 52, 53, 54, 55, 56, 57, 32, 45, 120, 10] : List Nat), x < 128 := by decide
    exact q _ m
  exact all i h
theorem asc_sign {c : Nat} (h : c < 128) : Asc (⟨#[c]⟩ : Str) := fun d hd => by
  have : d = c := List.mem_singleton.mp hd
  omega
def spLaw (K : PySem.W.Frag) : Sp := fun vs H Q _ => ∃ (a : Addr) (ns : List Int), vs = [.ref a] ∧ SqL K H a (ns.map V.int) ∧ ns.length ≤ 63 ∧ ∀ H', Q (.bl true) H'
section
variable {P : Program} {w : World} {K : PySem.W.Frag} {mg : Str → Option Value} {base : Heap}
theorem ok_law {f f1 f2 f3 f4 f5 f6 f7 : Addr} {fd d1 d2 d3 d4 d5 d6 d7 : FuncData} (B : Bl mg) (Dl_cell_at : Df P w K mg base "_law_cell_at" 1 ["_law_script", "_law_k"] (spCellAt K) f1 d1) (Dl_draw : Df P w K mg base "_law_draw" 1 ["_law_cell", "_law_k", "_law_many"] spDraw f2 d2) (Dl_stairs : Df P w K mg base "_law_stairs" 2 ["_law_script"] (spStairs K) f3 d3)
    (Dl_few : Df P w K mg base "_law_few" 1 [] spFew f4 d4) (Dl_refused : Df P w K mg base "_law_refused" 4 ["_law_text"] (spRefused K) f5 d5) (Dl_right : Df P w K mg base "_law_right" 5 ["_law_text"] spRight f6 d6) (Dwritten : Df P w K mg base "written" 4 ["stairs"] spWritten f7 d7)
    (F : Fun K "law" "law" s_law f fd) : FnOk P w K mg base CX0 6 f fd ["_law_script"] (spLaw K) := by
  refine F.ok sc_law (fun vs H Q E h => ?_) (fun cdv A' outer s H vs Q E hr h => ?_)
  · obtain ⟨a, ns, rfl, _⟩ := h
    rfl
  · obtain ⟨a, ns, rfl, hS, hl, q⟩ := h
    refine ⟨_, (pss_cons (ps_set (i := 1) sc_law.nd rfl (.inl rfl) (pe_call Dl_stairs.ok (hr.mono (by decide)) (by rfl) Dl_stairs.g Dl_stairs.kp Dl_stairs.b .nil pass0 (pa_cons (pv 0) pa_nil)))
 (Evl.pss_cut (ps_set (i := 2) sc_law.nd rfl (.inl rfl) (pe_ifExp (pt_cmpR (op_neD hr.units) (pv 1) (pe_lst pa_nil) (nomark _)) (pe_bm PySem.F.plainAttrs_str PySem.F.slot_str_join PySem.F.type_str_join mt_join pe_str (pa_cons (pe_lc (own := [("_law_height", 8)]) (g := gName 8) (tt := tYes) rfl sc_law.nd (pi_list (pv 1)) (blkOk_by (N := N_law) (sc := defScope s_law) (by decide +kernel)) (fun _ _ _ _ _ => pg_name (i := 8) sc_law.nd rfl (Or.inl rfl)) (fun _ _ _ _ _ => pts_nil) (fun _ _ _ _ _ => (pe_callTy call_str_int (by rfl) B.str (by decide +kernel) (pa_cons (pv 8) pa_nil)))) pa_nil)) pe_str))
 (pss_cons (ps_set (i := 3) sc_law.nd rfl (.inl rfl) (pe_callTy call_list_of (by rfl) B.list (by decide +kernel) (pa_cons (pv 1) pa_nil)))
 (pss_cons (ps_if (PW.pt (pw_or (pt_cmpR op_ne (pe_call Dwritten.ok (hr.mono (by decide)) (by rfl) Dwritten.g Dwritten.kp Dwritten.b .nil pass0 (pa_cons (pv 3) pa_nil)) (pv 2) (nomark _)) (pw_or (pt_cmpR (op_neD hr.units) (pv 3) (pv 1) (nomark _)) (pw_or1 (pt_not (pt_val (pe_call Dl_right.ok (hr.mono (by decide)) (by rfl) Dl_right.g Dl_right.kp Dl_right.b .nil pass0 (pa_cons (pv 2) pa_nil))))))))
  (pss_one (ps_ret pe_bl))
  pss_nil)
 (pss_cons (ps_set (i := 4) sc_law.nd rfl (.inl rfl) (pe_op op_add (pe_call Dl_cell_at.ok (hr.mono (by decide)) (by rfl) Dl_cell_at.g Dl_cell_at.kp Dl_cell_at.b .nil pass0 (pa_cons (pv 0) (pa_cons pe_int pa_nil))) (pe_op op_mul pe_int (pe_call Dl_cell_at.ok (hr.mono (by decide)) (by rfl) Dl_cell_at.g Dl_cell_at.kp Dl_cell_at.b .nil pass0 (pa_cons (pv 0) (pa_cons pe_int pa_nil))))))
 (pss_cons (ps_for PassesOwn.never rfl (pi_range1 rfl B.range (pa_cons pe_int pa_nil)) (pg_name (i := 5) sc_law.nd rfl (.inl rfl))
  (pss_cons (ps_set (i := 6) sc_law.nd rfl (.inl rfl) (pe_call Dl_draw.ok (hr.mono (by decide)) (by rfl) Dl_draw.g Dl_draw.kp Dl_draw.b .nil pass0 (pa_cons (pe_op op_add (pv 4) (pv 5)) (pa_cons pe_int (pa_cons (pe_op op_add (pe_callB call_len (by rfl) B.len PySem.boot_len (pa_cons (pv 2) pa_nil)) pe_int) pa_nil)))))
 (pss_cons (ps_set (i := 7) sc_law.nd rfl (.inl rfl) (pe_ix ix_tup (pe_tup (pa_cons pe_str (pa_cons (pe_ix ix_str pe_str (pe_call Dl_draw.ok (hr.mono (by decide)) (by rfl) Dl_draw.g Dl_draw.kp Dl_draw.b .nil pass0 (pa_cons (pe_op op_add (pv 4) (pv 5)) (pa_cons pe_int (pa_cons pe_int pa_nil)))) (fun _ _ => rfl)) pa_nil))) (pe_call Dl_draw.ok (hr.mono (by decide)) (by rfl) Dl_draw.g Dl_draw.kp Dl_draw.b .nil pass0 (pa_cons (pe_op op_add (pv 4) (pv 5)) (pa_cons pe_int (pa_cons pe_int pa_nil)))) (fun _ _ => rfl)))
 (pss_one (ps_if (pt_not (pt_val (pe_call Dl_right.ok (hr.mono (by decide)) (by rfl) Dl_right.g Dl_right.kp Dl_right.b .nil pass0 (pa_cons (pe_op op_add_str (pe_op op_add_str (pe_slice sl_str (pv 2) po_none (po_some (pv 6))) (pv 7)) (pe_slice sl_str (pv 2) (po_some (pe_op op_add (pv 6) (pe_call Dl_draw.ok (hr.mono (by decide)) (by rfl) Dl_draw.g Dl_draw.kp Dl_draw.b .nil pass0 (pa_cons (pe_op op_add (pv 4) (pv 5)) (pa_cons pe_int (pa_cons pe_int pa_nil)))))) po_none)) pa_nil))))
  (pss_one (ps_ret pe_bl))
  pss_nil)))))
 (pss_cons (ps_if (pt_not (pt_val (pe_callB (cr_all rfl) (by rfl) B.all (by decide +kernel) (pa_cons (pe_lc (own := [("_law_other", 9)]) (g := gName 9) (tt := tYes) rfl sc_law.nd (pi_list (pe_call0 Dl_few.ok (hr.mono (by decide)) (by rfl) Dl_few.g Dl_few.kp Dl_few.b .nil pass0)) (blkOk_by (N := N_law) (sc := defScope s_law) (by decide +kernel)) (fun _ _ _ _ _ => pg_name (i := 9) sc_law.nd rfl (Or.inl rfl)) (fun _ _ _ _ _ => pts_nil) (fun _ _ _ _ _ => (pe_call Dl_right.ok (hr.mono (by decide)) (by rfl) Dl_right.g Dl_right.kp Dl_right.b .nil pass0 (pa_cons (pv 9) pa_nil)))) pa_nil))))
  (pss_one (ps_ret pe_bl))
  pss_nil)
 (pss_one (ps_ret (pe_callB (cr_all rfl) (by rfl) B.all (by decide +kernel) (pa_cons (pe_lc (own := [("_law_thing", 10)]) (g := gName 10) (tt := tYes) rfl sc_law.nd (pi_list (pe_lst (pa_cons pe_non (pa_cons pe_int (pa_cons (pe_lst (pa_cons pe_str pa_nil)) (pa_cons pe_bl pa_nil)))))) (blkOk_by (N := N_law) (sc := defScope s_law) (by decide +kernel)) (fun _ _ _ _ _ => pg_name (i := 10) sc_law.nd rfl (Or.inl rfl)) (fun _ _ _ _ _ => pts_nil) (fun _ _ _ _ _ => (pe_call Dl_refused.ok (hr.mono (by decide)) (by rfl) Dl_refused.g Dl_refused.kp Dl_refused.b .nil pass0 (pa_cons (pv 10) pa_nil)))) pa_nil))))))))))), ?_⟩
    refine ⟨_, rfl, a, ns, rfl, hS, fun hs H1 p gs s1 np hp => ?_⟩
    have wr := wr_of gs
    have h63 : hs.length ≤ 63 := by have := gs.len; omega
    obtain ⟨T7, tl4⟩ := textW_ok wr h63
    refine ⟨fun σ H' => σ = [some (.ref a), some (.ref p), some (.str (textW hs)), none, none, none, none, none, none, none, none] ∧ Same H1 H', ?_, ?_⟩
    · refine ⟨_, rfl, Nat.zero_le _, fun e ne => ?_⟩
      refine ⟨_, _, dp_il (il_of ((same_upd ne) _ _ hp)), dp_il (il_of (ns := []) upd_same), shaped_ints _, shaped_ints _, _, rfl, ?_⟩
      rw [eqv_ints]
      have se : Same H1 (upd H1 e (.lst [])) := same_upd ne
      have hpe := se _ _ hp
      by_cases z : hs = []
      · rw [decide_eq_true z]
        exact iteF ⟨by rw [z]; rfl, se⟩
      · rw [decide_eq_false z]
        refine iteT ⟨rfl, _, rfl, p, rfl, ⟨_, SqL.of hpe⟩, fun D nD => lc_list (K := K) (a := p) (xs := hs.map V.int) (fun j H' => Same (upd H1 e (.lst [])) H' ∧ H' D = some (.lst (((hs.take j).map fun h => (toString h : Str)).map V.str))) ⟨same_upd nD, upd_same⟩ (fun j H' _ e => SqL.of (e.1 _ _ hpe)) ?_ ?_⟩
        · rintro j x H' hj ⟨sm, hD⟩
          obtain ⟨y, rfl, hy⟩ := mapI_get hj
          have hm := List.mem_of_getElem? hy
          refine ⟨rfl, _, rfl, y, rfl, log_low (wr.pos y hm) (wr.low y hm), _, hD, ?_, same_mut sm nD, ?_⟩
          · rw [List.length_map, List.length_map, List.length_take]
            exact Nat.lt_of_le_of_lt (m := 20000) (by omega) (by decide)
          · rw [upd_same, take_snocG hy, List.map_append, List.map_append]
            rfl
        rintro H2 ⟨s2, hD2⟩
        rw [List.length_map, List.take_length] at hD2
        refine ⟨" ", D, hs.map fun h => (toString h : Str), rfl, rfl, .inl (SqL.of hD2), ?_, ?_, se.trans s2⟩
        · have b1 := sumLen_le_of_bound (fun h => (toString h : Str)) 60 hs fun y hy => txt_len (wr.pos y hy) (wr.low y hy)
          have b2 : (" " : Str).length = 1 := rfl
          rw [List.length_map, b2]
          omega
        · have e : textW hs = Txt.join " " (hs.map fun h => (toString h : Str)) := if_neg z
          rw [e]
          rfl
    · rintro _ H2 ⟨rfl, s2⟩
      have hp2 := s2 _ _ hp
      refine ⟨_, rfl, p, _, rfl, .inl (SqL.of hp2), fun k nk => ?_⟩
      have hk : (upd H2 k (.lst (hs.map V.int))) k = some (.lst (hs.map V.int)) := upd_same
      have hpk := (same_upd (o := .lst (hs.map V.int)) nk) _ _ hp2
      have s1k := s2.trans (same_upd (o := .lst (hs.map V.int)) nk)
      revert hk hpk s1k
      generalize upd H2 k (.lst (hs.map V.int)) = H3
      intro hk hp3 s13
      refine ⟨_, rfl, .ref k, hs, rfl, ⟨k, rfl, hk, wr.rise, wr.pos⟩, wr, fun H4 s4 => ?_⟩
      refine ⟨_, rfl, rfl, _, rfl, ?_⟩
      rw [show decide (V.str (textW hs) = V.str (textW hs)) = true from decide_eq_true rfl]
      refine iteF ?_
      refine ⟨_, rfl, _, rfl, _, _, dp_il (il_of (s4 _ _ hk)), dp_il (il_of (s4 _ _ hp3)), shaped_ints _, shaped_ints _, _, rfl, ?_⟩
      rw [eqv_ints, decide_eq_true rfl]
      refine iteF ?_
      refine ⟨_, rfl, _, rfl, T7, fun H5 s5 => ⟨true, rfl, iteF ?_⟩⟩
      have s15 := s13.trans (s4.trans s5)
      have hS5 := (s1.trans s15).seq hS
      refine ⟨_, rfl, a, ns, 3, rfl, hS5, _, rfl, a, ns, 0, rfl, hS5, _, _, rfl, rfl, .inl ⟨by decide, by decide⟩, _, _, rfl, rfl, ?_⟩
      refine ⟨3, rfl, by decide, by decide, for_range (lo := 0) (n := 3) (fun i σ H' => ∃ (x5 x6 x7 : Option V), σ = [some (.ref a), some (.ref p), some (.str (textW hs)), some (.ref k), some (.int (ns.getD 3 0 + 7 * ns.getD 0 0)), x5, x6, x7, none, none, none] ∧ Same H5 H') ⟨none, none, none, rfl, Same.refl _⟩ ?_ ?_⟩
      · rintro i σ H6 hi ⟨x5, x6, x7, rfl, s6⟩
        have t16 : (10000 : Nat) + 1000 ≤ sizeLine := by decide
        refine ⟨_, rfl, _, rfl, _, _, rfl, rfl, _, rfl, .str (textW hs), _, rfl, ⟨by omega, rfl⟩, _, _, rfl, rfl, _, _, 1, rfl, by omega, by decide, fun H7 s7 => ?_⟩
        refine ⟨_, rfl, _, rfl, _, _, rfl, rfl, _, _, 2, rfl, by decide, by decide, fun H8 s8 => ?_⟩
        obtain ⟨n, hn⟩ := Int.eq_ofNat_of_zero_le (draw_nonneg (c := ns.getD 3 0 + 7 * ns.getD 0 0 + (0 + (i : Int))) (k := 2) (m := 14) (by decide))
        have hn14 := draw_lt (c := ns.getD 3 0 + 7 * ns.getD 0 0 + (0 + (i : Int))) (k := 2) (m := 14) (by decide)
        obtain ⟨cp, hcp, hat⟩ := menu_at (i := n) (by omega)
        refine ⟨menu, _, cp, rfl, rfl, by decide, by rw [hn]; exact atI_nat hat, by show 2 ≤ sizeLine; decide, fun tt nt => ?_⟩
        refine ⟨_, rfl, _, rfl, _, _, rfl, rfl, _, _, 3, rfl, by decide, by decide, fun H9 s9 => ?_⟩
        obtain ⟨b, hb⟩ := Int.eq_ofNat_of_zero_le (draw_nonneg (c := ns.getD 3 0 + 7 * ns.getD 0 0 + (0 + (i : Int))) (k := 3) (m := 2) (by decide))
        have hb2 := draw_lt (c := ns.getD 3 0 + 7 * ns.getD 0 0 + (0 + (i : Int))) (k := 3) (m := 2) (by decide)
        obtain ⟨sg, hsg, asg, lsg⟩ : ∃ sg : Str, ([V.str "", V.str ⟨#[cp]⟩] : List V)[b]? = some (.str sg) ∧ Asc sg ∧ sg.length ≤ 1 := by
          match b, hb, hb2 with
          | 0, _, _ => exact ⟨"", rfl, fun c hc => (List.not_mem_nil hc).elim, by decide⟩
          | 1, _, _ => exact ⟨⟨#[cp]⟩, rfl, asc_sign hcp, Nat.le_refl _⟩
          | m + 2, e, l => omega
        have htt := s9 _ _ (upd_same (H := H8) (a := tt) (o := .tup [V.str "", V.str ⟨#[cp]⟩]))
        refine ⟨tt, _, _, _, rfl, rfl, SqT.of htt, by rw [hb]; exact atI_nat hsg, ?_⟩
        have c1 := cutS_length (textW hs) none (some (draw (ns.getD 3 0 + 7 * ns.getD 0 0 + (0 + (i : Int))) 1 (((textW hs).length : Nat) + 1)))
        have la := len_app (cutS (textW hs) none (some (draw (ns.getD 3 0 + 7 * ns.getD 0 0 + (0 + (i : Int))) 1 (((textW hs).length : Nat) + 1)))) sg
        refine ⟨_, rfl, _, rfl, _, rfl, textW hs, rfl, by omega, _, rfl, _, _, rfl, rfl, by omega, ?_⟩
        refine ⟨_, rfl, _, rfl, _, rfl, _, rfl, _, _, rfl, rfl, _, _, 4, rfl, by decide, by decide, fun H10 s10 => ?_⟩
        refine ⟨_, _, rfl, rfl, _, rfl, textW hs, rfl, by omega, ?_⟩
        generalize hlo : draw (ns.getD 3 0 + 7 * ns.getD 0 0 + (0 + (i : Int))) 1 (((textW hs).length : Nat) + 1) + draw (ns.getD 3 0 + 7 * ns.getD 0 0 + (0 + (i : Int))) 4 2 = lo
        have c2 := cutS_length (textW hs) (some lo) none
        refine ⟨_, _, rfl, rfl, by omega, ?_⟩
        refine ⟨_, rfl, ⟨asc_app (asc_app (asc_cut T7.asc _ _) asg) (asc_cut T7.asc _ _), ?_⟩, fun H11 s11 => ⟨true, rfl, iteF ?_⟩⟩
        · rw [len_app]
          omega
        · exact ⟨_, _, _, rfl, s6.trans (s7.trans (s8.trans ((same_upd nt).trans (s9.trans (s10.trans s11)))))⟩
      · rintro σ H6 ⟨x5, x6, x7, rfl, s6⟩
        refine ⟨rfl, fun H7 pf ts s7 npf hpf asc lts => ?_⟩
        refine ⟨pf, rfl, ⟨_, SqL.of hpf⟩, fun D nD => lc_list (K := K) (a := pf) (xs := ts.map V.str) (fun j H' => Same H7 H' ∧ H' D = some (.lst ((List.replicate j true).map V.bl))) ⟨same_upd nD, upd_same⟩ (fun j H' _ e => SqL.of (e.1 _ _ hpf)) ?_ ?_⟩
        · rintro j x H' hj ⟨sm, hD⟩
          obtain ⟨u, rfl, hu⟩ := mapS_get hj
          have hjl : j < ts.length := (List.getElem?_eq_some_iff.mp hu).1
          refine ⟨rfl, _, rfl, u, rfl, asc7_ok (asc u (List.mem_of_getElem? hu)), fun H8 s8 => ⟨_, s8 _ _ hD, ?_, same_mut (sm.trans s8) nD, ?_⟩⟩
          · rw [List.length_map, List.length_replicate]
            exact sz63' (by omega)
          · rw [upd_same, List.replicate_succ', List.map_append]
            rfl
        rintro H8 ⟨s8, hD⟩
        refine ⟨D, _, rfl, SqL.of hD, true, by simp, iteF ?_⟩
        refine ⟨by show 1 ≤ sizeLine; decide, fun l1 nl1 => ⟨by show 4 ≤ sizeLine; decide, fun l2 nl2 => ?_⟩⟩
        have hl2 : (upd (upd H8 l1 (.lst [.str "1"])) l2 (.lst [.non, .int 5, .ref l1, .bl true])) l2 = some (.lst [.non, .int 5, .ref l1, .bl true]) := upd_same
        have hl1 : (upd (upd H8 l1 (.lst [.str "1"])) l2 (.lst [.non, .int 5, .ref l1, .bl true])) l1 = some (.lst [.str "1"]) := (same_upd nl2) _ _ upd_same
        revert hl1 hl2
        generalize upd (upd H8 l1 (.lst [.str "1"])) l2 (.lst [.non, .int 5, .ref l1, .bl true]) = H9
        intro hl2 hl1
        refine ⟨l2, rfl, ⟨_, SqL.of hl2⟩, fun D2 nD2 => lc_list (K := K) (a := l2) (xs := [.non, .int 5, .ref l1, .bl true]) (fun j H' => Same H9 H' ∧ H' D2 = some (.lst ((List.replicate j true).map V.bl))) ⟨same_upd nD2, upd_same⟩ (fun j H' _ e => SqL.of (e.1 _ _ hl2)) ?_ ?_⟩
        · rintro j x H' hj ⟨sm, hD'⟩
          have hjl : j < 4 := (List.getElem?_eq_some_iff.mp hj).1
          have hx : NoTy K "str" H' x := by
            have := List.mem_of_getElem? hj
            simp only [List.mem_cons, List.not_mem_nil, or_false] at this
            rcases this with rfl | rfl | rfl | rfl
            · exact noTy_non (by decide +kernel)
            · exact noTy_int _ (by decide +kernel)
            · exact noTy_lst (sm _ _ hl1) (by decide +kernel)
            · exact noTy_bl _ (by decide +kernel)
          refine ⟨rfl, _, rfl, x, rfl, .inl hx, fun H10 s10 => ⟨_, s10 _ _ hD', ?_, same_mut (sm.trans s10) nD2, ?_⟩⟩
          · rw [List.length_map, List.length_replicate]
            exact sz63' (by omega)
          · rw [upd_same, List.replicate_succ', List.map_append]
            rfl
        rintro H10 ⟨s10, hD2⟩
        refine ⟨D2, _, rfl, SqL.of hD2, ?_⟩
        have e4 : (List.replicate ([V.non, .int 5, .ref l1, .bl true] : List V).length true).all id = true := by simp
        rw [e4]
        exact q _
end
end TS
namespace TS
open PySem PySem.Spec PyProof.Rows L2
/-- the own classes' places -/
def clsAt (c0 c1 c2 c3 c4 : Addr) : Nat → Addr
  | 0 => c0
  | 1 => c1
  | 2 => c2
  | 3 => c3
  | _ => c4
theorem all_mk {l : PySem.W.OpenLaw} {w : World} {K : PySem.W.Frag} {h : Heap} {mg : Str → Option Value} {fa f1 f2 f3 f4 f5 f6 f7 f8 f9 f10 f11 f12 f13 f14 f15 : Addr} {S y0 y1 y2 y3 y4 : Addr} {vH vN vF : Value} (X : K.In h) (G : h.Ns mainGlobals mg) (hfa : mg "law" = some (.ref fa))
    {od1 an1 od2 an2 od3 an3 od4 an4 od5 an5 od6 an6 od7 an7 od8 an8 od9 an9 od10 an10 od11 an11 od12 an12 od13 an13 od14 an14 od15 an15 : Option Addr} {sl1 sl2 sl3 sl4 sl5 sl6 sl7 sl8 sl9 sl10 sl11 sl12 sl13 sl14 sl15 : Array (Option Value)} {oc1 kV1 dc1 pm1 cd1 ct1 oc2 kV2 dc2 pm2 cd2 ct2 oc3 kV3 dc3 pm3 cd3 ct3 oc4 kV4 dc4 pm4 cd4 ct4 oc5 kV5 dc5 pm5 cd5 ct5 oc6 kV6 dc6 pm6 cd6 ct6 oc7 kV7 dc7 pm7 cd7 ct7 oc8 kV8 dc8 pm8 cd8 ct8 oc9 kV9 dc9 pm9 cd9 ct9 oc10 kV10 dc10 pm10 cd10 ct10 oc11 kV11 dc11 pm11 cd11 ct11 oc12 kV12 dc12 pm12 cd12 ct12 oc13 kV13 dc13 pm13 cd13 ct13 oc14 kV14 dc14 pm14 cd14 ct14 oc15 kV15 dc15 pm15 cd15 ct15 : Value}
    (a1 : PySem.W.nsIn K mainGlobals "is_count" = some (some (.ref f1))) (l1 : K.lookup f1 = some ⟨oc1, od1, .func (PySem.W.fnOf "is_count" "is_count" (defArgs s_is_count) (defBody s_is_count) (defScope s_is_count) .none kV1 dc1 pm1 an1 cd1 ct1), sl1⟩) (c1 : PySem.W.codeIn K cd1 "is_count" = true) (k1 : PySem.W.keepIn K (.ref f1) = true)
    (a2 : PySem.W.nsIn K mainGlobals "is_stairs" = some (some (.ref f2))) (l2 : K.lookup f2 = some ⟨oc2, od2, .func (PySem.W.fnOf "is_stairs" "is_stairs" (defArgs s_is_stairs) (defBody s_is_stairs) (defScope s_is_stairs) .none kV2 dc2 pm2 an2 cd2 ct2), sl2⟩) (c2 : PySem.W.codeIn K cd2 "is_stairs" = true) (k2 : PySem.W.keepIn K (.ref f2) = true)
    (a3 : PySem.W.nsIn K mainGlobals "check_stairs" = some (some (.ref f3))) (l3 : K.lookup f3 = some ⟨oc3, od3, .func (PySem.W.fnOf "check_stairs" "check_stairs" (defArgs s_check_stairs) (defBody s_check_stairs) (defScope s_check_stairs) .none kV3 dc3 pm3 an3 cd3 ct3), sl3⟩) (c3 : PySem.W.codeIn K cd3 "check_stairs" = true) (k3 : PySem.W.keepIn K (.ref f3) = true)
    (a4 : PySem.W.nsIn K mainGlobals "written" = some (some (.ref f4))) (l4 : K.lookup f4 = some ⟨oc4, od4, .func (PySem.W.fnOf "written" "written" (defArgs s_written) (defBody s_written) (defScope s_written) .none kV4 dc4 pm4 an4 cd4 ct4), sl4⟩) (c4 : PySem.W.codeIn K cd4 "written" = true) (k4 : PySem.W.keepIn K (.ref f4) = true)
    (a5 : PySem.W.nsIn K mainGlobals "read" = some (some (.ref f5))) (l5 : K.lookup f5 = some ⟨oc5, od5, .func (PySem.W.fnOf "read" "read" (defArgs s_read) (defBody s_read) (defScope s_read) .none kV5 dc5 pm5 an5 cd5 ct5), sl5⟩) (c5 : PySem.W.codeIn K cd5 "read" = true) (k5 : PySem.W.keepIn K (.ref f5) = true)
    (a6 : PySem.W.nsIn K mainGlobals "_is_height" = some (some (.ref f6))) (l6 : K.lookup f6 = some ⟨oc6, od6, .func (PySem.W.fnOf "_is_height" "_is_height" (defArgs s__is_height) (defBody s__is_height) (defScope s__is_height) .none kV6 dc6 pm6 an6 cd6 ct6), sl6⟩) (c6 : PySem.W.codeIn K cd6 "_is_height" = true) (k6 : PySem.W.keepIn K (.ref f6) = true)
    (a7 : PySem.W.nsIn K mainGlobals "_law_cell_at" = some (some (.ref f7))) (l7 : K.lookup f7 = some ⟨oc7, od7, .func (PySem.W.fnOf "_law_cell_at" "_law_cell_at" (defArgs s_l_cell_at) (defBody s_l_cell_at) (defScope s_l_cell_at) .none kV7 dc7 pm7 an7 cd7 ct7), sl7⟩) (c7 : PySem.W.codeIn K cd7 "_law_cell_at" = true) (k7 : PySem.W.keepIn K (.ref f7) = true)
    (a8 : PySem.W.nsIn K mainGlobals "_law_draw" = some (some (.ref f8))) (l8 : K.lookup f8 = some ⟨oc8, od8, .func (PySem.W.fnOf "_law_draw" "_law_draw" (defArgs s_l_draw) (defBody s_l_draw) (defScope s_l_draw) .none kV8 dc8 pm8 an8 cd8 ct8), sl8⟩) (c8 : PySem.W.codeIn K cd8 "_law_draw" = true) (k8 : PySem.W.keepIn K (.ref f8) = true)
    (a9 : PySem.W.nsIn K mainGlobals "_law_stairs" = some (some (.ref f9))) (l9 : K.lookup f9 = some ⟨oc9, od9, .func (PySem.W.fnOf "_law_stairs" "_law_stairs" (defArgs s_l_stairs) (defBody s_l_stairs) (defScope s_l_stairs) .none kV9 dc9 pm9 an9 cd9 ct9), sl9⟩) (c9 : PySem.W.codeIn K cd9 "_law_stairs" = true) (k9 : PySem.W.keepIn K (.ref f9) = true)
    (a10 : PySem.W.nsIn K mainGlobals "_law_number" = some (some (.ref f10))) (l10 : K.lookup f10 = some ⟨oc10, od10, .func (PySem.W.fnOf "_law_number" "_law_number" (defArgs s_l_number) (defBody s_l_number) (defScope s_l_number) .none kV10 dc10 pm10 an10 cd10 ct10), sl10⟩) (c10 : PySem.W.codeIn K cd10 "_law_number" = true) (k10 : PySem.W.keepIn K (.ref f10) = true)
    (a11 : PySem.W.nsIn K mainGlobals "_law_in" = some (some (.ref f11))) (l11 : K.lookup f11 = some ⟨oc11, od11, .func (PySem.W.fnOf "_law_in" "_law_in" (defArgs s_l_in) (defBody s_l_in) (defScope s_l_in) .none kV11 dc11 pm11 an11 cd11 ct11), sl11⟩) (c11 : PySem.W.codeIn K cd11 "_law_in" = true) (k11 : PySem.W.keepIn K (.ref f11) = true)
    (a12 : PySem.W.nsIn K mainGlobals "_law_refused" = some (some (.ref f12))) (l12 : K.lookup f12 = some ⟨oc12, od12, .func (PySem.W.fnOf "_law_refused" "_law_refused" (defArgs s_l_refused) (defBody s_l_refused) (defScope s_l_refused) .none kV12 dc12 pm12 an12 cd12 ct12), sl12⟩) (c12 : PySem.W.codeIn K cd12 "_law_refused" = true) (k12 : PySem.W.keepIn K (.ref f12) = true)
    (a13 : PySem.W.nsIn K mainGlobals "_law_right" = some (some (.ref f13))) (l13 : K.lookup f13 = some ⟨oc13, od13, .func (PySem.W.fnOf "_law_right" "_law_right" (defArgs s_l_right) (defBody s_l_right) (defScope s_l_right) .none kV13 dc13 pm13 an13 cd13 ct13), sl13⟩) (c13 : PySem.W.codeIn K cd13 "_law_right" = true) (k13 : PySem.W.keepIn K (.ref f13) = true)
    (a14 : PySem.W.nsIn K mainGlobals "_law_few" = some (some (.ref f14))) (l14 : K.lookup f14 = some ⟨oc14, od14, .func (PySem.W.fnOf "_law_few" "_law_few" (defArgs s_l_few) (defBody s_l_few) (defScope s_l_few) .none kV14 dc14 pm14 an14 cd14 ct14), sl14⟩) (c14 : PySem.W.codeIn K cd14 "_law_few" = true) (k14 : PySem.W.keepIn K (.ref f14) = true)
    (a15 : PySem.W.nsIn K mainGlobals "law" = some (some (.ref f15))) (l15 : K.lookup f15 = some ⟨oc15, od15, .func (PySem.W.fnOf "law" "law" (defArgs s_law) (defBody s_law) (defScope s_law) .none kV15 dc15 pm15 an15 cd15 ct15), sl15⟩) (c15 : PySem.W.codeIn K cd15 "law" = true) (k15 : PySem.W.keepIn K (.ref f15) = true)
    (z_len : PySem.W.nsIn K mainGlobals "len" = some none) (z_isinstance : PySem.W.nsIn K mainGlobals "isinstance" = some none) (z_sorted : PySem.W.nsIn K mainGlobals "sorted" = some none) (z_range : PySem.W.nsIn K mainGlobals "range" = some none) (z_enumerate : PySem.W.nsIn K mainGlobals "enumerate" = some none) (z_reversed : PySem.W.nsIn K mainGlobals "reversed" = some none) (z_min : PySem.W.nsIn K mainGlobals "min" = some none) (z_all : PySem.W.nsIn K mainGlobals "all" = some none) (z_list : PySem.W.nsIn K mainGlobals "list" = some none) (z_int : PySem.W.nsIn K mainGlobals "int" = some none) (z_bool : PySem.W.nsIn K mainGlobals "bool" = some none) (z_tuple : PySem.W.nsIn K mainGlobals "tuple" = some none) (z_dict : PySem.W.nsIn K mainGlobals "dict" = some none) (z_set : PySem.W.nsIn K mainGlobals "set" = some none) (z_divmod : PySem.W.nsIn K mainGlobals "divmod" = some none) (z_sum : PySem.W.nsIn K mainGlobals "sum" = some none) (z_any : PySem.W.nsIn K mainGlobals "any" = some none) (z_str : PySem.W.nsIn K mainGlobals "str" = some none) (z_ValueError : PySem.W.nsIn K mainGlobals "ValueError" = some none)
    (a_S : PySem.W.nsIn K mainGlobals "StairError" = some (some (.ref S)))
    (sb_S : PySem.W.subIn K (.ref S) (.type "BaseException") = some true)
    (sd_S : PySem.W.hasDictIn K S = true)
    (st_S : PySem.W.typeIn K (.ref S) = some (.type "type"))
    (a_y0 : PySem.W.nsIn K mainGlobals "BadStairs" = some (some (.ref y0)))
    (kp_y0 : PySem.W.keepIn K (.ref y0) = true)
    (ex_y0 : PySem.W.excIn K y0 [.type "ValueError", .type "Exception", .type "BaseException", .type "object"] "ValueError.__new__" = true)
    (sb_y0 : PySem.W.subIn K (.ref y0) (.type "BaseException") = some true)
    (ty_y0 : PySem.W.typeIn K (.ref y0) = some (.type "type"))
    (a_y1 : PySem.W.nsIn K mainGlobals "BadCount" = some (some (.ref y1)))
    (kp_y1 : PySem.W.keepIn K (.ref y1) = true)
    (ex_y1 : PySem.W.excIn K y1 [.type "ValueError", .type "Exception", .type "BaseException", .type "object"] "ValueError.__new__" = true)
    (sb_y1 : PySem.W.subIn K (.ref y1) (.type "BaseException") = some true)
    (ty_y1 : PySem.W.typeIn K (.ref y1) = some (.type "type"))
    (a_y2 : PySem.W.nsIn K mainGlobals "BadNumber" = some (some (.ref y2)))
    (kp_y2 : PySem.W.keepIn K (.ref y2) = true)
    (ex_y2 : PySem.W.excIn K y2 [.type "ValueError", .type "Exception", .type "BaseException", .type "object"] "ValueError.__new__" = true)
    (sb_y2 : PySem.W.subIn K (.ref y2) (.type "BaseException") = some true)
    (ty_y2 : PySem.W.typeIn K (.ref y2) = some (.type "type"))
    (a_y3 : PySem.W.nsIn K mainGlobals "BadTowers" = some (some (.ref y3)))
    (kp_y3 : PySem.W.keepIn K (.ref y3) = true)
    (ex_y3 : PySem.W.excIn K y3 [.type "ValueError", .type "Exception", .type "BaseException", .type "object"] "ValueError.__new__" = true)
    (sb_y3 : PySem.W.subIn K (.ref y3) (.type "BaseException") = some true)
    (ty_y3 : PySem.W.typeIn K (.ref y3) = some (.type "type"))
    (a_y4 : PySem.W.nsIn K mainGlobals "BadText" = some (some (.ref y4)))
    (kp_y4 : PySem.W.keepIn K (.ref y4) = true)
    (ex_y4 : PySem.W.excIn K y4 [.type "ValueError", .type "Exception", .type "BaseException", .type "object"] "ValueError.__new__" = true)
    (sb_y4 : PySem.W.subIn K (.ref y4) (.type "BaseException") = some true)
    (ty_y4 : PySem.W.typeIn K (.ref y4) = some (.type "type"))
    (fg_y4 : PySem.W.findIn K (.ref y4) "__getattribute__" = some (some (.builtin "BaseException.__getattribute__")))
    (fk_y4 : PySem.W.findIn K (.ref y4) "__getattr__" = some none)
    (hd_y4 : PySem.W.hasDictIn K y4 = true)
    (fc_y4 : PySem.W.findIn K (.ref y4) "__class__" = some (some (.builtin "object.__class__")))
    (mr_y4 : PySem.W.mroIn K y4 (.type "object") = some true)
    (su_y4 : PySem.W.subIn K (.ref y4) (.ref S) = some true)
    (iv_y4 : PySem.W.kitOne K (.ref y4) (.type "ValueError") = some true)
    (i_y4_y0 : PySem.W.kitOne K (.ref y4) (.ref y0) = some false)
    (i_y4_y1 : PySem.W.kitOne K (.ref y4) (.ref y1) = some false)
    (i_y4_y2 : PySem.W.kitOne K (.ref y4) (.ref y2) = some false)
    (i_y4_y3 : PySem.W.kitOne K (.ref y4) (.ref y3) = some false)
    (i_y4_y4 : PySem.W.kitOne K (.ref y4) (.ref y4) = some true)
    (sp_cls : PySem.W.specialIn K (.builtin "object.__class__") "__get__" = some (some (.builtin "getset_descriptor.__get__")))
    (tk_cls : PySem.W.takesIn K (.builtin "object.__class__") = some true)
    (n_high : PySem.W.nsIn K mainGlobals "TOO_HIGH" = some (some vH))
    (e_high : ∃ t, vH = .int (10 ^ 60) t)
    (n_none : PySem.W.nsIn K mainGlobals "NO_COLUMNS" = some (some vN))
    (e_none : ∃ t, vN = .str "-" t)
    (n_figs : PySem.W.nsIn K mainGlobals "MOST_FIGURES" = some (some vF))
    (e_figs : ∃ t, vF = .int 60 t)
    : ∃ fd : FuncData, (∀ (s : Shared) (v : Value), BindsTo s fd ⟨[v], []⟩ [("_law_script", v)]) ∧ ∀ base : Heap, K.In base → base.Ns mainGlobals mg → FnOk l.prog w K mg base CX0 6 fa fd ["_law_script"] (spLaw K) := by
  have e := hfa.symm.trans (PySem.W.mg_of X G a15)
  cases e
  have B : Bl mg := ⟨PySem.W.mg_none_of X G z_len, PySem.W.mg_none_of X G z_isinstance, PySem.W.mg_none_of X G z_sorted, PySem.W.mg_none_of X G z_range, PySem.W.mg_none_of X G z_enumerate, PySem.W.mg_none_of X G z_reversed, PySem.W.mg_none_of X G z_min, PySem.W.mg_none_of X G z_all, PySem.W.mg_none_of X G z_list, PySem.W.mg_none_of X G z_int, PySem.W.mg_none_of X G z_bool, PySem.W.mg_none_of X G z_tuple, PySem.W.mg_none_of X G z_dict, PySem.W.mg_none_of X G z_set, PySem.W.mg_none_of X G z_divmod, PySem.W.mg_none_of X G z_sum, PySem.W.mg_none_of X G z_any, PySem.W.mg_none_of X G z_str, PySem.W.mg_none_of X G z_ValueError⟩
  have F_is_count := fun_mk (st := s_is_count) l1 c1 k1
  have b_is_count := F_is_count.binds (ps := ["value"]) fun _ _ _ _ _ _ us hl => match us, hl with | [_], _ => rfl
  have g_is_count := PySem.W.mg_of X G a1
  have k_is_count := k1
  have F_is_stairs := fun_mk (st := s_is_stairs) l2 c2 k2
  have b_is_stairs := F_is_stairs.binds (ps := ["stairs"]) fun _ _ _ _ _ _ us hl => match us, hl with | [_], _ => rfl
  have g_is_stairs := PySem.W.mg_of X G a2
  have k_is_stairs := k2
  have F_check_stairs := fun_mk (st := s_check_stairs) l3 c3 k3
  have b_check_stairs := F_check_stairs.binds (ps := ["stairs"]) fun _ _ _ _ _ _ us hl => match us, hl with | [_], _ => rfl
  have g_check_stairs := PySem.W.mg_of X G a3
  have k_check_stairs := k3
  have F_written := fun_mk (st := s_written) l4 c4 k4
  have b_written := F_written.binds (ps := ["stairs"]) fun _ _ _ _ _ _ us hl => match us, hl with | [_], _ => rfl
  have g_written := PySem.W.mg_of X G a4
  have k_written := k4
  have F_read := fun_mk (st := s_read) l5 c5 k5
  have b_read := F_read.binds (ps := ["text"]) fun _ _ _ _ _ _ us hl => match us, hl with | [_], _ => rfl
  have g_read := PySem.W.mg_of X G a5
  have k_read := k5
  have F__is_height := fun_mk (st := s__is_height) l6 c6 k6
  have b__is_height := F__is_height.binds (ps := ["word"]) fun _ _ _ _ _ _ us hl => match us, hl with | [_], _ => rfl
  have g__is_height := PySem.W.mg_of X G a6
  have k__is_height := k6
  have F_l_cell_at := fun_mk (st := s_l_cell_at) l7 c7 k7
  have b_l_cell_at := F_l_cell_at.binds (ps := ["_law_script", "_law_k"]) fun _ _ _ _ _ _ us hl => match us, hl with | [_, _], _ => rfl
  have g_l_cell_at := PySem.W.mg_of X G a7
  have k_l_cell_at := k7
  have F_l_draw := fun_mk (st := s_l_draw) l8 c8 k8
  have b_l_draw := F_l_draw.binds (ps := ["_law_cell", "_law_k", "_law_many"]) fun _ _ _ _ _ _ us hl => match us, hl with | [_, _, _], _ => rfl
  have g_l_draw := PySem.W.mg_of X G a8
  have k_l_draw := k8
  have F_l_stairs := fun_mk (st := s_l_stairs) l9 c9 k9
  have b_l_stairs := F_l_stairs.binds (ps := ["_law_script"]) fun _ _ _ _ _ _ us hl => match us, hl with | [_], _ => rfl
  have g_l_stairs := PySem.W.mg_of X G a9
  have k_l_stairs := k9
  have F_l_number := fun_mk (st := s_l_number) l10 c10 k10
  have b_l_number := F_l_number.binds (ps := ["_law_text"]) fun _ _ _ _ _ _ us hl => match us, hl with | [_], _ => rfl
  have g_l_number := PySem.W.mg_of X G a10
  have k_l_number := k10
  have F_l_in := fun_mk (st := s_l_in) l11 c11 k11
  have b_l_in := F_l_in.binds (ps := ["_law_text"]) fun _ _ _ _ _ _ us hl => match us, hl with | [_], _ => rfl
  have g_l_in := PySem.W.mg_of X G a11
  have k_l_in := k11
  have F_l_refused := fun_mk (st := s_l_refused) l12 c12 k12
  have b_l_refused := F_l_refused.binds (ps := ["_law_text"]) fun _ _ _ _ _ _ us hl => match us, hl with | [_], _ => rfl
  have g_l_refused := PySem.W.mg_of X G a12
  have k_l_refused := k12
  have F_l_right := fun_mk (st := s_l_right) l13 c13 k13
  have b_l_right := F_l_right.binds (ps := ["_law_text"]) fun _ _ _ _ _ _ us hl => match us, hl with | [_], _ => rfl
  have g_l_right := PySem.W.mg_of X G a13
  have k_l_right := k13
  have F_l_few := fun_mk (st := s_l_few) l14 c14 k14
  have b_l_few := F_l_few.binds (ps := []) fun _ _ _ _ _ _ us hl => match us, hl with | [], _ => rfl
  have g_l_few := PySem.W.mg_of X G a14
  have k_l_few := k14
  have F_law := fun_mk (st := s_law) l15 c15 k15
  obtain ⟨tH, rfl⟩ := e_high
  obtain ⟨tN, rfl⟩ := e_none
  obtain ⟨tF, rfl⟩ := e_figs
  have N : Cn mg := ⟨⟨tH, PySem.W.mg_of X G n_high⟩, ⟨tN, PySem.W.mg_of X G n_none⟩, ⟨tF, PySem.W.mg_of X G n_figs⟩⟩
  have T : Cs K mg S (clsAt y0 y1 y2 y3 y4) := ⟨PySem.W.mg_of X G a_S, PySem.W.mg_of X G a_y0, PySem.W.mg_of X G a_y1, PySem.W.mg_of X G a_y2, PySem.W.mg_of X G a_y3, PySem.W.mg_of X G a_y4⟩
  have X_y0 : Er K mg "BadStairs" y0 := ⟨PySem.W.mg_of X G a_y0, kp_y0, ex_y0, sb_y0, ty_y0⟩
  have X_y4 : Er K mg "BadText" y4 := ⟨PySem.W.mg_of X G a_y4, kp_y4, ex_y4, sb_y4, ty_y4⟩
  have kd_y4 : Kind K S (clsAt y0 y1 y2 y3 y4) 4 := ⟨⟨fg_y4, fk_y4, sb_y4, hd_y4, fc_y4, sp_cls, tk_cls, mr_y4⟩, i_y4_y0, i_y4_y1, i_y4_y2, i_y4_y3, i_y4_y4, iv_y4, PySem.W.exm_ref sb_S sd_S st_S su_y4⟩
  refine ⟨PySem.W.fnOf "law" "law" (defArgs s_law) (defBody s_law) (defScope s_law) .none kV15 dc15 pm15 an15 cd15 ct15, fun s v => .of_eq rfl, fun base _ _ => ?_⟩
  have D_is_count : Df l.prog w K mg base "is_count" 1 ["value"] (spCount K) _ _ := ⟨okG_is_count (m := 0) B F_is_count, g_is_count, k_is_count, b_is_count⟩
  have D_is_stairs : Df l.prog w K mg base "is_stairs" 2 ["stairs"] (spIsSt K) _ _ := ⟨okG_is_stairs (m := 0) B D_is_count F_is_stairs, g_is_stairs, k_is_stairs, b_is_stairs⟩
  have D_check_stairs : Df l.prog w K mg base "check_stairs" 3 ["stairs"] (fun vs H Q _ => ∃ x, vs = [x] ∧ (∃ hs, Stairs H x hs) ∧ Q .non H) _ _ := ⟨fnOk_calm (okG_check_stairs (m := 1) (C := y0) B X_y0 ⟨D_is_stairs.ok, D_is_stairs.g, D_is_stairs.kp, D_is_stairs.b⟩ F_check_stairs) fun vs H Q E q => let ⟨x, e, hs, r⟩ := q; ⟨x, e, .inl ⟨hs, r⟩⟩, g_check_stairs, k_check_stairs, b_check_stairs⟩
  have D_written : Df l.prog w K mg base "written" 4 ["stairs"] spWritten _ _ := ⟨ok_written (m := 0) (C := y0) B N D_check_stairs F_written, g_written, k_written, b_written⟩
  have D__is_height : Df l.prog w K mg base "_is_height" 1 ["word"] spHeight _ _ := ⟨ok__is_height (m := 0) B N F__is_height, g__is_height, k__is_height, b__is_height⟩
  have R_read := okX_read (P := l.prog) (w := w) (base := base) (m := 0) B N X_y4 ⟨D__is_height.ok.mono (by decide), D__is_height.g, D__is_height.kp, D__is_height.b⟩ D_is_stairs F_read
  have D_read : Df l.prog w K mg base "read" 4 ["text"] spReadC _ _ := ⟨fnOk_calmN (R_read.mono (by decide)) fun vs H Q E q => let ⟨t, hs, e, T7, me, r⟩ := q; ⟨.str t, e, .inr ⟨t, rfl, T7, .inl ⟨hs, me, r⟩⟩⟩, g_read, k_read, b_read⟩
  have D_l_cell_at : Df l.prog w K mg base "_law_cell_at" 1 ["_law_script", "_law_k"] (spCellAt K) _ _ := ⟨ok_l_cell_at (n := 0) B F_l_cell_at, g_l_cell_at, k_l_cell_at, b_l_cell_at⟩
  have D_l_draw : Df l.prog w K mg base "_law_draw" 1 ["_law_cell", "_law_k", "_law_many"] spDraw _ _ := ⟨ok_l_draw (n := 0) B F_l_draw, g_l_draw, k_l_draw, b_l_draw⟩
  have D_l_stairs : Df l.prog w K mg base "_law_stairs" 2 ["_law_script"] (spStairs K) _ _ := ⟨ok_l_stairs (m := 0) B D_l_cell_at D_l_draw F_l_stairs, g_l_stairs, k_l_stairs, b_l_stairs⟩
  have D_l_number : Df l.prog w K mg base "_law_number" 3 ["_law_text"] spNumber _ _ := ⟨ok_l_number (m := 2) B F_l_number, g_l_number, k_l_number, b_l_number⟩
  have D_l_in : Df l.prog w K mg base "_law_in" 4 ["_law_text"] spIn _ _ := ⟨ok_l_in (m := 2) B D_l_number F_l_in, g_l_in, k_l_in, b_l_in⟩
  have D_l_refused : Df l.prog w K mg base "_law_refused" 4 ["_law_text"] (spRefused K) _ _ := ⟨ok_l_refused (m := 2) B T kd_y4 R_read g_read k_read b_read F_l_refused, g_l_refused, k_l_refused, b_l_refused⟩
  have D_l_right : Df l.prog w K mg base "_law_right" 5 ["_law_text"] spRight _ _ := ⟨ok_l_right (m := 3) B D_l_in D_l_refused D_read D_written F_l_right, g_l_right, k_l_right, b_l_right⟩
  have D_l_few : Df l.prog w K mg base "_law_few" 1 [] spFew _ _ := ⟨ok_l_few (m := 0) B F_l_few, g_l_few, k_l_few, b_l_few⟩
  exact ok_law B D_l_cell_at D_l_draw D_l_stairs D_l_few D_l_refused D_l_right D_written F_law
end TS
open PySem PySem.W PyProof.Rows
set_option maxRecDepth 100000 in
set_option maxHeartbeats 0 in
theorem PySem.Challenge.cw_towerstair_k06_written_holds : PySem.Challenge.rw_towerstair_k06_written.Holds := by
  w_on; o_law; k_head; (case hw => w_witness2)
  k_fill
  refine L2.walk_of (l := PySem.Challenge.rw_towerstair_k06_written) (n := 63) (k := 6) (x := "_law_script") (CX := fun _ => L2.CX0) (sp := fun w => TS.spLaw _) rfl (by decide) rfl ⟨rfl, by decide, by decide⟩ (fun w h Y => PySem.W.kIn_of Y) ?F (fun _ _ a ns hl _ hS => ⟨a, ns, rfl, hS, hl, fun _ => rfl⟩) (fun _ _ _ _ _ h => h)
  case F =>
    intro w mg fa h KX G hmg
    refine' TS.all_mk KX G hmg ?a1 ?l1 ?c1 ?k1 ?a2 ?l2 ?c2 ?k2 ?a3 ?l3 ?c3 ?k3 ?a4 ?l4 ?c4 ?k4 ?a5 ?l5 ?c5 ?k5 ?a6 ?l6 ?c6 ?k6 ?a7 ?l7 ?c7 ?k7 ?a8 ?l8 ?c8 ?k8 ?a9 ?l9 ?c9 ?k9 ?a10 ?l10 ?c10 ?k10 ?a11 ?l11 ?c11 ?k11 ?a12 ?l12 ?c12 ?k12 ?a13 ?l13 ?c13 ?k13 ?a14 ?l14 ?c14 ?k14 ?a15 ?l15 ?c15 ?k15 ?z_len ?z_isinstance ?z_sorted ?z_range ?z_enumerate ?z_reversed ?z_min ?z_all ?z_list ?z_int ?z_bool ?z_tuple ?z_dict ?z_set ?z_divmod ?z_sum ?z_any ?z_str ?z_ValueError ?a_S ?sb_S ?sd_S ?st_S ?a_y0 ?kp_y0 ?ex_y0 ?sb_y0 ?ty_y0 ?a_y1 ?kp_y1 ?ex_y1 ?sb_y1 ?ty_y1 ?a_y2 ?kp_y2 ?ex_y2 ?sb_y2 ?ty_y2 ?a_y3 ?kp_y3 ?ex_y3 ?sb_y3 ?ty_y3 ?a_y4 ?kp_y4 ?ex_y4 ?sb_y4 ?ty_y4 ?fg_y4 ?fk_y4 ?hd_y4 ?fc_y4 ?mr_y4 ?su_y4 ?iv_y4 ?i_y4_y0 ?i_y4_y1 ?i_y4_y2 ?i_y4_y3 ?i_y4_y4 ?sp_cls ?tk_cls ?n_high ?e_high ?n_none ?e_none ?n_figs ?e_figs
    (case a1 => k_is); (case l1 => k_is); (case c1 => k_is); (case k1 => k_is); (case a2 => k_is); (case l2 => k_is)
    (case c2 => k_is); (case k2 => k_is); (case a3 => k_is); (case l3 => k_is); (case c3 => k_is); (case k3 => k_is)
    (case a4 => k_is); (case l4 => k_is); (case c4 => k_is); (case k4 => k_is); (case a5 => k_is); (case l5 => k_is)
    (case c5 => k_is); (case k5 => k_is); (case a6 => k_is); (case l6 => k_is); (case c6 => k_is); (case k6 => k_is)
    (case a7 => k_is); (case l7 => k_is); (case c7 => k_is); (case k7 => k_is); (case a8 => k_is); (case l8 => k_is)
    (case c8 => k_is); (case k8 => k_is); (case a9 => k_is); (case l9 => k_is); (case c9 => k_is); (case k9 => k_is)
    (case a10 => k_is); (case l10 => k_is); (case c10 => k_is); (case k10 => k_is); (case a11 => k_is); (case l11 => k_is)
    (case c11 => k_is); (case k11 => k_is); (case a12 => k_is); (case l12 => k_is); (case c12 => k_is); (case k12 => k_is)
    (case a13 => k_is); (case l13 => k_is); (case c13 => k_is); (case k13 => k_is); (case a14 => k_is); (case l14 => k_is)
    (case c14 => k_is); (case k14 => k_is); (case a15 => k_is); (case l15 => k_is); (case c15 => k_is); (case k15 => k_is)
    (case z_len => k_is); (case z_isinstance => k_is); (case z_sorted => k_is); (case z_range => k_is); (case z_enumerate => k_is); (case z_reversed => k_is)
    (case z_min => k_is); (case z_all => k_is); (case z_list => k_is); (case z_int => k_is); (case z_bool => k_is); (case z_tuple => k_is)
    (case z_dict => k_is); (case z_set => k_is); (case z_divmod => k_is); (case z_sum => k_is); (case z_any => k_is); (case z_str => k_is)
    (case z_ValueError => k_is); (case a_S => k_is); (case sb_S => k_is); (case sd_S => k_is); (case st_S => k_is); (case a_y0 => k_is)
    (case kp_y0 => k_is); (case ex_y0 => k_exc); (case sb_y0 => k_is); (case ty_y0 => k_is); (case a_y1 => k_is); (case kp_y1 => k_is)
    (case ex_y1 => k_exc); (case sb_y1 => k_is); (case ty_y1 => k_is); (case a_y2 => k_is); (case kp_y2 => k_is); (case ex_y2 => k_exc)
    (case sb_y2 => k_is); (case ty_y2 => k_is); (case a_y3 => k_is); (case kp_y3 => k_is); (case ex_y3 => k_exc); (case sb_y3 => k_is)
    (case ty_y3 => k_is); (case a_y4 => k_is); (case kp_y4 => k_is); (case ex_y4 => k_exc); (case sb_y4 => k_is); (case ty_y4 => k_is)
    (case fg_y4 => k_is); (case fk_y4 => k_is); (case hd_y4 => k_is); (case fc_y4 => k_is); (case mr_y4 => k_is); (case su_y4 => first | rfl | k_is)
    (case iv_y4 => first | rfl | k_is); (case i_y4_y0 => first | rfl | k_is); (case i_y4_y1 => first | rfl | k_is); (case i_y4_y2 => first | rfl | k_is); (case i_y4_y3 => first | rfl | k_is); (case i_y4_y4 => first | rfl | k_is)
    (case sp_cls => first | rfl | k_is); (case tk_cls => first | rfl | k_is); (case n_high => k_is); (case e_high => exact ⟨_, rfl⟩); (case n_none => k_is); (case e_none => exact ⟨_, rfl⟩)
    (case n_figs => k_is); (case e_figs => exact ⟨_, rfl⟩)
