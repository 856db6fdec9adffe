import PyProof.Rows.All
import Wide.All
import OpenK.AllK
import Wide.FinOn
import HandS.Base
import HandS.Call
import HandS.List
import HandS.Comp
import HandS.Ends
import HandS.Dict
import HandS.Iter
import HandS.Text
import HandS.Words
import HandS.WordsList
import HandS.WordsDict
import HandS.Wide
import HandS.IsInst
import PySem.Challenge.RW_wordsapart_k01_all_words
set_option Elab.async false
set_option linter.all false
set_option maxRecDepth 100000
set_option maxHeartbeats 4000000
/-! words by their figures; walks by a count; heaps -/
namespace Wa
open PySem PySem.Spec PyProof.Rows L2
/-- the text of a word, by its figures -/
def wd (ds : List Nat) : Str := ⟨(ds.map (48 + ·)).toArray⟩
/-- the values of a list of words -/
def vws (ws : List (List Nat)) : List V := ws.map fun w => V.str (wd w)
theorem str_ext {x y : Str} (h : x.cps.toList = y.cps.toList) : x = y := by
  cases x with
  | mk a =>
    cases y with
    | mk b =>
      cases a with
      | mk l =>
        cases b with
        | mk m =>
          have e : l = m := h
          rw [e]
theorem str_app (x y : Str) : (x ++ y).cps.toList = x.cps.toList ++ y.cps.toList := by
  show (x.cps ++ y.cps).toList = _
  exact Array.toList_append ..
theorem wd_list (ds : List Nat) : (wd ds).cps.toList = ds.map (48 + ·) := rfl
theorem wd_app (a b : List Nat) : wd a ++ wd b = wd (a ++ b) := by
  apply str_ext
  rw [str_app, wd_list, wd_list, wd_list, List.map_append]
theorem wd_len (a : List Nat) : (wd a).length = a.length := by
  show (a.map (48 + ·)).toArray.size = _
  rw [List.size_toArray, List.length_map]
theorem map48_inj : ∀ {a b : List Nat}, a.map (48 + ·) = b.map (48 + ·) → a = b
  | [], [], _ => rfl
  | [], _ :: _, h => by cases h
  | _ :: _, [], h => by cases h
  | x :: a, y :: b, h => by
    have h1 : 48 + x = 48 + y := (List.cons.inj h).1
    have h2 := map48_inj (List.cons.inj h).2
    have e : x = y := by omega
    rw [e, h2]
theorem wd_inj {a b : List Nat} (h : wd a = wd b) : a = b := map48_inj (by rw [← wd_list, ← wd_list, h])
theorem wd_one (c : Nat) : wd [c] = ⟨#[48 + c]⟩ := rfl
theorem vws_len (ws : List (List Nat)) : (vws ws).length = ws.length := List.length_map ..
theorem vws_get (ws : List (List Nat)) (i : Nat) : (vws ws)[i]? = (ws[i]?).map fun w => V.str (wd w) := List.getElem?_map ..
theorem vws_app (a b : List (List Nat)) : vws (a ++ b) = vws a ++ vws b := List.map_append ..
theorem vws_snoc (a : List (List Nat)) (b : List Nat) : vws (a ++ [b]) = vws a ++ [V.str (wd b)] := vws_app a [b]
theorem sz {n : Nat} (h : n ≤ 16000000) : n ≤ sizeLine := Nat.le_trans h (by decide)
theorem sz' {n : Nat} (h : n < 16000000) : n < sizeLine := Nat.lt_of_lt_of_le h (by decide)

/-- a new object leaves what stood -/
theorem same_upd {H : Hp} {p : Addr} {o : HO} (h : H p = none) : Same H (upd H p o) := fun b x e => by
  rw [upd_ne (ne_of_none e h)]
  exact e
/-- a change at an address that was free at the start -/
theorem same_over {H H1 : Hp} {p : Addr} {o : HO} (s : Same H H1) (h : H p = none) : Same H (upd H1 p o) := fun b x e => by
  rw [upd_ne (ne_of_none e h)]
  exact s b x e
/-- all but a has stayed -/
def Others (a : Addr) (H H' : Hp) : Prop := ∀ b o, b ≠ a → H b = some o → H' b = some o
theorem Others.refl (a : Addr) (H : Hp) : Others a H H := fun _ _ _ h => h
theorem Others.trans {a : Addr} {H H1 H2 : Hp} (x : Others a H H1) (y : Others a H1 H2) : Others a H H2 := fun b o n h => y b o n (x b o n h)
theorem Same.others {a : Addr} {H H' : Hp} (s : Same H H') : Others a H H' := fun b o _ h => s b o h
theorem others_upd {a : Addr} {H : Hp} {o : HO} : Others a H (upd H a o) := fun b x n e => by
  rw [upd_ne n]
  exact e

/-- a walk of n turns: comprehensions -/
theorem walk_n {stop go : Nat → Hp → Prop} {T : Nat → Hp → (Hp → Prop) → Prop} {H0 : Hp} {Qd : Hp → Prop} (n : Nat) (Pv : Nat → Hp → Prop) (h0 : Pv 0 H0)
    (hs : ∀ i H, i < n → Pv i H → go i H ∧ T i H (Pv (i + 1))) (hd : ∀ H, Pv n H → stop n H ∧ Qd H) :
    ∃ W : Nat → Nat → Hp → Prop, (∃ m, W 0 m H0) ∧ ∀ i m H, W i m H → (stop i H ∧ Qd H) ∨ (go i H ∧ ∃ Nx : Hp → Prop, (∀ H', Nx H' → ∃ m', m' < m ∧ W (i + 1) m' H') ∧ T i H Nx) := by
  refine ⟨fun i m H => m = n - i ∧ i ≤ n ∧ Pv i H, ⟨n, by simp, Nat.zero_le _, h0⟩, ?_⟩
  rintro i m H ⟨rfl, hi, p⟩
  by_cases hlt : i < n
  · obtain ⟨g, t⟩ := hs i H hlt p
    exact .inr ⟨g, Pv (i + 1), fun H' p' => ⟨n - (i + 1), by omega, rfl, hlt, p'⟩, t⟩
  · have e : i = n := by omega
    subst e
    exact .inl (hd H p)
/-- a walk of n turns: for loops -/
theorem walk_f {stop go : Nat → Hp → Prop} {T : Nat → L2.St → Hp → (L2.St → Hp → Prop) → Prop} {s0 : L2.St} {H0 : Hp} {Qd : L2.St → Hp → Prop} (n : Nat) (Pv : Nat → L2.St → Hp → Prop) (h0 : Pv 0 s0 H0)
    (hs : ∀ i σ H, i < n → Pv i σ H → go i H ∧ T i σ H (Pv (i + 1))) (hd : ∀ σ H, Pv n σ H → stop n H ∧ Qd σ H) :
    ∃ W : Nat → Nat → L2.St → Hp → Prop, (∃ m, W 0 m s0 H0) ∧ ∀ i m σ H, W i m σ H → (stop i H ∧ Qd σ H) ∨ (go i H ∧ ∃ N : L2.St → Hp → Prop, (∀ σ' H', N σ' H' → ∃ m', m' < m ∧ W (i + 1) m' σ' H') ∧ T i σ H N) := by
  refine ⟨fun i m σ H => m = n - i ∧ i ≤ n ∧ Pv i σ H, ⟨n, by simp, Nat.zero_le _, h0⟩, ?_⟩
  rintro i m σ H ⟨rfl, hi, p⟩
  by_cases hlt : i < n
  · obtain ⟨g, t⟩ := hs i σ H hlt p
    exact .inr ⟨g, Pv (i + 1), fun σ' H' p' => ⟨n - (i + 1), by omega, rfl, hlt, p'⟩, t⟩
  · have e : i = n := by omega
    subst e
    exact .inl (hd σ H p)
theorem yes {σ : L2.St} {H : Hp} {Q : Bool → Hp → Prop} (h : Q true H) : tYes σ H Q := h
/-- what a list's iterator hands out -/
theorem itl_go {K : PySem.W.Frag} {a : Addr} {xs : List V} {i : Nat} {H : Hp} (h : SqL K H a xs) (hi : i < xs.length) : (Itl K a).go i H := ⟨xs, xs[i], h, List.getElem?_eq_getElem hi⟩
theorem itl_stop {K : PySem.W.Frag} {a : Addr} {xs : List V} {H : Hp} (h : SqL K H a xs) {n : Nat} (e : xs.length = n) : (Itl K a).stop n H := ⟨xs, h, by omega⟩
theorem itl_yld {K : PySem.W.Frag} {a : Addr} {xs : List V} {i : Nat} {H H' : Hp} {x : V} (h : SqL K H a xs) (y : (Itl K a).yld i H x H') : H' = H ∧ xs[i]? = some x := ⟨y.1, y.2 xs h⟩
theorem sq {K : PySem.W.Frag} {H : Hp} {a : Addr} {xs : List V} (h : H a = some (.lst xs)) : SqL K H a xs := .inl (.inl h)

/-- all words of length n with q signs, rising -/
def allD (q : Nat) : Nat → List (List Nat)
  | 0 => [[]]
  | n + 1 => (allD q n).flatMap fun w => (List.range q).map fun s => w ++ [s]
theorem flat_len {α β : Type} {f : α → List β} {q : Nat} : ∀ {l : List α}, (∀ x ∈ l, (f x).length = q) → (l.flatMap f).length = l.length * q
  | [], _ => by simp
  | a :: l, h => by
    rw [List.flatMap_cons, List.length_append, flat_len (l := l) fun x hx => h x (List.mem_cons_of_mem _ hx), h a List.mem_cons_self, List.length_cons, Nat.succ_mul]
    omega
theorem allD_len (q : Nat) : ∀ n, (allD q n).length = q ^ n
  | 0 => rfl
  | n + 1 => by
    show ((allD q n).flatMap _).length = _
    rw [flat_len (q := q) (fun x _ => by rw [List.length_map, List.length_range]), allD_len q n, Nat.pow_succ]
theorem allD_mem {q : Nat} : ∀ {n : Nat} {w : List Nat}, w ∈ allD q n → w.length = n ∧ ∀ d ∈ w, d < q
  | 0, w, h => by
    have e : w = [] := List.mem_singleton.mp h
    subst e
    exact ⟨rfl, fun d hd => absurd hd (by simp)⟩
  | n + 1, w, h => by
    obtain ⟨u, hu, hw⟩ := List.mem_flatMap.mp h
    obtain ⟨s, hs, rfl⟩ := List.mem_map.mp hw
    obtain ⟨h1, h2⟩ := allD_mem hu
    refine ⟨by rw [List.length_append, h1]; rfl, fun d hd => ?_⟩
    rcases List.mem_append.mp hd with z | z
    · exact h2 d z
    · rw [List.mem_singleton.mp z]
      exact List.mem_range.mp hs
theorem pow_bound {q n : Nat} (hq : q ≤ 3) (hn : n ≤ 8) : q ^ n ≤ 6561 := Nat.le_trans (Nat.pow_le_pow_left hq n) (Nat.le_trans (Nat.pow_le_pow_right (by decide) hn) (by decide))
theorem flat_take {α β : Type} {f : α → List β} {i : Nat} {l : List α} {x : α} (h : l[i]? = some x) : (l.take (i + 1)).flatMap f = (l.take i).flatMap f ++ f x := by
  rw [List.take_add_one, h, List.flatMap_append]
  show _ ++ ([x].flatMap f) = _
  rw [List.flatMap_singleton]
theorem range_take {q i : Nat} (h : i < q) : (List.range q).take (i + 1) = (List.range q).take i ++ [i] := by
  rw [List.take_add_one, List.getElem?_range h]
  rfl
end Wa
/-! lists of words and of numbers as data: equality -/
namespace Wa
open PySem PySem.Spec PyProof.Rows L2
def dws (ws : List (List Nat)) : PyData := .list (ws.map fun w => .str (wd w))
def dns (ns : List Int) : PyData := .list (ns.map PyData.int)
theorem dp_ws {K : PySem.W.Frag} {H : Hp} : ∀ (ws : List (List Nat)), DpAll K H (vws ws) (ws.map fun w => .str (wd w))
  | [] => .nil
  | w :: r => .cons (.str (wd w)) (dp_ws r)
theorem dp_ns {K : PySem.W.Frag} {H : Hp} : ∀ (ns : List Int), DpAll K H (ns.map V.int) (ns.map PyData.int)
  | [] => .nil
  | w :: r => .cons (.int w) (dp_ns r)
theorem sh_list {ds : List PyData} (h : ∀ d ∈ ds, d.canLay0 = true ∧ d.depth = 0) : SeqAt.shaped (.list ds) = true := by
  have h1 : ∀ {ds : List PyData}, (∀ d ∈ ds, d.canLay0 = true ∧ d.depth = 0) → PyData.canLayAll0 ds = true ∧ PyData.depthAll ds = 0 := by
    intro ds
    induction ds with
    | nil => exact fun _ => ⟨rfl, rfl⟩
    | cons d r ih =>
      intro h
      obtain ⟨i1, i2⟩ := ih fun x hx => h x (List.mem_cons_of_mem _ hx)
      obtain ⟨j1, j2⟩ := h d List.mem_cons_self
      refine ⟨?_, ?_⟩
      · show (d.canLay0 && PyData.canLayAll0 r) = true
        rw [i1, j1]
        rfl
      · show max d.depth (PyData.depthAll r) = 0
        rw [i2, j2]
        rfl
  obtain ⟨a, b⟩ := h1 h
  unfold SeqAt.shaped
  rw [Bool.and_eq_true]
  refine ⟨a, decide_eq_true ?_⟩
  show PyData.depthAll ds + 1 ≤ 64
  rw [b]
  decide
/-- words of figures -/
def Figs (ws : List (List Nat)) : Prop := ∀ w ∈ ws, ∀ d ∈ w, d < 10
theorem wd_ok {w : List Nat} (h : ∀ d ∈ w, d < 10) : PyData.strOk (wd w) = true := by
  show (w.map (48 + ·)).toArray.all (· < 0x110000) = true
  rw [List.all_toArray, List.all_eq_true]
  intro x hx
  obtain ⟨d, hd, rfl⟩ := List.mem_map.mp hx
  have := h d hd
  exact decide_eq_true (by omega)
theorem sh_ws {ws : List (List Nat)} (h : Figs ws) : SeqAt.shaped (dws ws) = true := sh_list fun d hd => by
  obtain ⟨w, hw, rfl⟩ := List.mem_map.mp hd
  exact ⟨wd_ok (h w hw), rfl⟩
theorem sh_ns (ns : List Int) : SeqAt.shaped (dns ns) = true := sh_list fun d hd => by
  obtain ⟨w, _, rfl⟩ := List.mem_map.mp hd
  exact ⟨rfl, rfl⟩
theorem eqv_ws : ∀ (a b : List (List Nat)), PyData.eqv (dws a) (dws b) = decide (a = b)
  | [], [] => rfl
  | [], _ :: _ => rfl
  | _ :: _, [] => rfl
  | x :: a, y :: b => by
    have ih := eqv_ws a b
    show (wd x == wd y && PyData.eqv (dws a) (dws b)) = _
    rw [ih]
    by_cases e : x = y
    · subst e
      rw [beq_self_eq_true, Bool.true_and]
      by_cases e2 : a = b
      · rw [e2, decide_eq_true rfl, decide_eq_true rfl]
      · rw [decide_eq_false e2, decide_eq_false fun z => e2 (List.cons.inj z).2]
    · rw [beq_eq_false_iff_ne.mpr fun z => e (wd_inj z), Bool.false_and, decide_eq_false fun z => e (List.cons.inj z).1]
theorem eqv_ns : ∀ (a b : List Int), PyData.eqv (dns a) (dns b) = decide (a = b)
  | [], [] => rfl
  | [], _ :: _ => rfl
  | _ :: _, [] => rfl
  | x :: a, y :: b => by
    have ih := eqv_ns a b
    show (x == y && PyData.eqv (dns a) (dns b)) = _
    rw [ih]
    by_cases e : x = y
    · subst e
      rw [beq_self_eq_true, Bool.true_and]
      by_cases e2 : a = b
      · rw [e2, decide_eq_true rfl, decide_eq_true rfl]
      · rw [decide_eq_false e2, decide_eq_false fun z => e2 (List.cons.inj z).2]
    · rw [beq_eq_false_iff_ne.mpr e, Bool.false_and, decide_eq_false fun z => e (List.cons.inj z).1]
end Wa
namespace Wa
open PySem PySem.Spec PyProof.Rows L2
def topS (i : Nat) : Stmt := PySem.Challenge.pw_wordsapart_k01_all_words.main.body.getD i (.Pass ⟨0, 0, 0, 0⟩)
abbrev sAllWords : Stmt := topS 2
abbrev sDraws : Stmt := topS 4
abbrev sPop : Stmt := topS 5
abbrev sSize : Stmt := topS 6
abbrev sAll : Stmt := topS 7
abbrev sTexts : Stmt := topS 8
abbrev sLaw : Stmt := topS 9
end Wa
namespace Wa
open PySem PySem.Spec PyProof.Rows L2
/-! the script's draws: popping -/
/-- what pop hands back, and what is left -/
def popV (ds : List Int) : Int := ds.getLast?.getD 0
theorem popV_snoc (r : List Int) (d : Int) : popV (r ++ [d]) = d := by
  unfold popV
  rw [List.getLast?_append]
  rfl
/-- draws: numbers from nought on, below a bound -/
def Drawn (ds : List Int) : Prop := ∀ d ∈ ds, 0 ≤ d ∧ d < 2147483648
theorem Drawn.pop {ds : List Int} (h : Drawn ds) : 0 ≤ popV ds ∧ popV ds < 2147483648 := by
  unfold popV
  cases e : ds.getLast? with
  | none => exact ⟨Int.le_refl _, by decide⟩
  | some d => exact h d (List.mem_of_getLast? e)
theorem Drawn.rest {ds : List Int} (h : Drawn ds) : Drawn ds.dropLast := fun d hd => h d ((List.dropLast_sublist ds).subset hd)
theorem scPop : FnScope ["_law_draws_here"] ["_law_draws_here"] (defScope sPop) := ⟨rfl, rfl, rfl, by decide +kernel, rfl, by decide +kernel, by decide +kernel⟩
def spPop : Sp := fun vs H Q _ => ∃ (a : Addr) (ds : List Int), vs = [.ref a] ∧ H a = some (.lst (ds.map V.int)) ∧ ∀ H', H' a = some (.lst (ds.dropLast.map V.int)) → (∀ b, b ≠ a → ∀ o, H b = some o → H' b = some o) → Q (.int (popV ds)) H'
section
variable {P : Program} {w : World} {K : PySem.W.Frag} {mg : Str → Option Value} {base : Heap}
theorem ok_pop {f : Addr} {fd : FuncData} {k : Nat} (F : Fun K "_law_pop" "_law_pop" sPop f fd) : FnOk P w K mg base CX0 (k + 1) f fd ["_law_draws_here"] spPop := by
  refine F.ok scPop (fun vs H Q E h => ?_) (fun cdv A outer s H vs Q E hr h => ?_)
  · obtain ⟨a, ds, rfl, _⟩ := h
    rfl
  · obtain ⟨a, ds, rfl, ha, q⟩ := h
    refine ⟨_, pss_cons (ps_if (pt_cmpR (op_eqD hr.units) (pv 0) (pe_lst pa_nil) (nomark _)) (pss_one (ps_ret pe_int)) pss_nil)
      (pss_one (ps_ret (pe_bm0 PySem.F.plainAttrs_list PySem.F.slot_list_pop PySem.F.type_list_pop mt_pop (pv 0)))), ?_⟩
    refine ⟨.ref a, rfl, Nat.zero_le _, fun p np => ?_⟩
    have ha' : (upd H p (.lst [])) a = some (.lst (ds.map V.int)) := same_upd np _ _ ha
    refine ⟨dns ds, dns [], .lst (sq ha') (dp_ns ds), .lst (sq upd_same) .nil, sh_ns _, sh_ns _, _, rfl, ?_⟩
    rw [eqv_ns]
    refine ite2 (fun e => ?_) (fun e => ?_)
    · have e0 : ds = [] := of_decide_eq_true e
      subst e0
      exact q _ ha' fun b nb o ho => same_upd np _ _ ho
    · have e0 : ds ≠ [] := fun z => e (decide_eq_true z)
      refine ⟨.ref a, rfl, .inl ⟨rfl, _, sq ha'⟩, a, ds.map V.int, .int (popV ds), rfl, rfl, ha', ?_, ?_⟩
      · rw [List.length_map, List.getElem?_map]
        rw [← List.getLast?_eq_getElem?]
        unfold popV
        cases z : ds.getLast? with
        | none => exact absurd (List.getLast?_eq_none_iff.mp z) e0
        | some d => rfl
      · refine q _ ?_ fun b nb o ho => ?_
        · rw [upd_same, List.map_dropLast]
        · rw [upd_ne nb]
          exact same_upd np _ _ ho
end
end Wa
namespace Wa
open PySem PySem.Spec PyProof.Rows L2
/-! signs and a length -/
theorem scSize : FnScope ["_law_draws_here", "_law_number", "_law_q"] ["_law_draws_here"] (defScope sSize) := ⟨rfl, rfl, rfl, by decide +kernel, rfl, by decide +kernel, by decide +kernel⟩
/-- signs and lengths as the document bounds them -/
def QN (q n : Nat) : Prop := (q = 2 ∧ 1 ≤ n ∧ n ≤ 8) ∨ (q = 3 ∧ 1 ≤ n ∧ n ≤ 5)
def spSize : Sp := fun vs H Q _ => ∃ (a : Addr) (ds : List Int), vs = [.ref a] ∧ H a = some (.lst (ds.map V.int)) ∧ Drawn ds ∧
  ∀ H' p q n, QN q n → H p = none → H' p = some (.tup [.int (q : Nat), .int (n : Nat)]) → H' a = some (.lst (ds.dropLast.map V.int)) → Others a H H' → Q (.ref p) H'
section
variable {P : Program} {w : World} {K : PySem.W.Frag} {mg : Str → Option Value} {base : Heap}
theorem ok_size {f fP : Addr} {fd fdP : FuncData} {k : Nat} (F : Fun K "_law_size" "_law_size" sSize f fd) (FP : Fun K "_law_pop" "_law_pop" sPop fP fdP) (bP : Binds K fdP ["_law_draws_here"] []) (gP : mg "_law_pop" = some (.ref fP)) :
    FnOk P w K mg base CX0 (k + 2) f fd ["_law_draws_here"] spSize := by
  have GP : FnOk P w K mg base CX0 (k + 1) fP fdP ["_law_draws_here"] spPop := ok_pop FP
  refine F.ok scSize (fun vs H Q E h => ?_) (fun cdv A outer s H vs Q E hr h => ?_)
  · obtain ⟨a, ds, rfl, _⟩ := h
    rfl
  · obtain ⟨a, ds, rfl, ha, hd, q⟩ := h
    refine ⟨_, pss_cons (ps_set (i := 1) scSize.nd rfl (.inl rfl) (pe_call GP hr (by rfl) gP FP.kp bP .nil pass0 (pa_cons (pv 0) pa_nil)))
      (pss_cons (ps_set (i := 2) scSize.nd rfl (.inl rfl) (pe_op op_add pe_int (pe_op op_mod (pv 1) pe_int)))
      (pss_one (ps_ret (pe_tup (pa_cons (pv 2) (pa_cons (pe_op op_add pe_int (pe_op op_mod (pe_op op_fdiv (pv 1) pe_int) (pe_ix ix_list (pe_lst (pa_cons pe_int (pa_cons pe_int pa_nil))) (pe_op op_sub (pv 2) pe_int) (fun _ _ => rfl)))) pa_nil)))))), ?_⟩
    refine ⟨.ref a, rfl, a, ds, rfl, ha, fun H1 e1 o1 => ?_⟩
    obtain ⟨hp0, hp1⟩ := hd.pop
    generalize popV ds = x at hp0 hp1
    -- q = 2 + x % 2
    refine ⟨.int x, rfl, x, 2, rfl, rfl, (show (0 : Int) < 2 by decide), 2, x % 2, rfl, rfl, ?_⟩
    have hm : x % 2 = 0 ∨ x % 2 = 1 := by omega
    -- the tuple
    refine ⟨.int (2 + x % 2), rfl, .int x, rfl, x, 2, rfl, rfl, ⟨by decide, by decide⟩, by decide, fun p np => ?_⟩
    refine ⟨.int (2 + x % 2), rfl, 2 + x % 2, 2, rfl, rfl, p, [.int 8, .int 5], 2 + x % 2 - 2, .int (if x % 2 = 0 then 8 else 5), rfl, rfl, sq upd_same, ?_, ?_⟩
    · rcases hm with e | e <;> rw [e] <;> rfl
    have hs1 : Same H1 (upd H1 p (.lst [.int 8, .int 5])) := same_upd np
    have nap : a ≠ p := ne_of_none e1 np
    refine ⟨x / 2, if x % 2 = 0 then 8 else 5, rfl, rfl, by split <;> decide, 1, _, rfl, rfl, (show 2 ≤ sizeLine by decide), fun t nt => ?_⟩
    have npt : a ≠ t := ne_of_none (hs1 _ _ e1) nt
    have oth : Others a H (upd (upd H1 p (.lst [.int 8, .int 5])) t (.tup [.int (2 + x % 2), .int (1 + x / 2 % (if x % 2 = 0 then 8 else 5))])) :=
      fun b o nb ho => same_upd nt _ _ (hs1 _ _ (o1 b nb o ho))
    refine q _ t (2 + x % 2).toNat (1 + x / 2 % (if x % 2 = 0 then 8 else 5)).toNat ?_ ?_ ?_ ?_ oth
    · rcases hm with e | e
      · rw [if_pos e, e]
        refine .inl ⟨rfl, by omega, by omega⟩
      · rw [if_neg (by omega), e]
        refine .inr ⟨rfl, by omega, by omega⟩
    · cases z : H t with
      | none => rfl
      | some o =>
        by_cases et : t = a
        · exact absurd et.symm npt
        · have := hs1 _ _ (o1 t et o z)
          rw [this] at nt
          cases nt
    · have e2 : (0 : Int) ≤ x / 2 % (if x % 2 = 0 then 8 else 5) := Int.emod_nonneg _ (by split <;> decide)
      rw [upd_same, Int.toNat_of_nonneg (by omega), Int.toNat_of_nonneg (by omega)]
    · rw [upd_ne npt]
      exact hs1 _ _ e1
end
end Wa
namespace Wa
open PySem PySem.Spec PyProof.Rows L2
/-! the draws of a script -/
theorem scDraws : FnScope ["_law_script", "_law_turn", "_law_many", "_law_cells", "_law_found", "_law_left", "_law_k", "_law_at", "_law_place", "_law_number", "_law_cell"] ["_law_script", "_law_turn", "_law_many"] (defScope sDraws) := ⟨rfl, rfl, rfl, by decide +kernel, rfl, by decide +kernel, by decide +kernel⟩
def spDraws (K : PySem.W.Frag) : Sp := fun vs H Q _ => ∃ (a : Addr) (ns : List Int) (t m : Nat), vs = [.ref a, .int t, .int m] ∧ SqL K H a (ns.map V.int) ∧ t ≤ 1000 ∧ m ≤ 1000 ∧
  ∀ H' p ds, Same H H' → H p = none → ds.length = m → Drawn ds → H' p = some (.lst (ds.map V.int)) → Q (.ref p) H'
theorem cut63 (ns : List Int) : cutV (ns.map V.int) none (some 63) = (ns.take 63).map V.int := by
  unfold cutV
  rw [HT.sIx_none, show HT.sIx (ns.map V.int).length (ns.map V.int).length (some 63) = min 63 (ns.map V.int).length from HT.sIx_nat _ _ 63, List.drop_zero, Nat.sub_zero, List.length_map, ← List.map_take]
  congr 1
  by_cases h : ns.length ≤ 63
  · rw [List.take_of_length_le (by omega), List.take_of_length_le h]
  · rw [show min 63 ns.length = 63 by omega]
theorem drawn_snoc {ds : List Int} {d : Int} (h : Drawn ds) (h0 : 0 ≤ d) (h1 : d < 2147483648) : Drawn (ds ++ [d]) := fun x hx => by
  rcases List.mem_append.mp hx with z | z
  · exact h x z
  · rw [List.mem_singleton.mp z]
    exact ⟨h0, h1⟩
theorem drawn_nil : Drawn [] := fun x hx => absurd hx (by simp)
theorem ixN_at {n : Nat} {k : Int} (h0 : 0 ≤ k) (h : k < n) : ixN n k = some k.toNat := by
  unfold ixN
  rw [if_pos h0, if_pos h]
theorem at_int {xs : List Int} {k : Int} (h0 : 0 ≤ k) (h : k < xs.length) : ∃ d, atI (xs.map V.int) k = some (.int d) := by
  obtain ⟨j, rfl⟩ := Int.eq_ofNat_of_zero_le h0
  have hj : j < xs.length := by omega
  refine ⟨xs[j], atI_nat ?_⟩
  rw [List.getElem?_map, List.getElem?_eq_getElem hj]
  rfl
theorem set_int {xs : List Int} {j : Nat} {d : Int} : (xs.map V.int).set j (.int d) = (xs.set j d).map V.int := List.map_set.symm
section
variable {P : Program} {w : World} {K : PySem.W.Frag} {mg : Str → Option Value} {base : Heap}
theorem ok_draws {f : Addr} {fd : FuncData} {k : Nat} (F : Fun K "_law_draws" "_law_draws" sDraws f fd) (ml : mg "len" = none) (mr : mg "range" = none) : FnOk P w K mg base CX0 (k + 1) f fd ["_law_script", "_law_turn", "_law_many"] (spDraws K) := by
  refine F.ok scDraws (fun vs H Q E h => ?_) (fun cdv A outer s H vs Q E hr h => ?_)
  · obtain ⟨a, ns, t, m, rfl, _⟩ := h
    rfl
  · obtain ⟨a, ns, t, m, rfl, ha, ht, hm, q⟩ := h
    refine ⟨_, pss_cons (ps_set (i := 3) scDraws.nd rfl (.inl rfl) (pe_op op_cat (pe_slice sl_list (pv 0) po_none (po_some pe_int)) (pe_lst (pa_cons (pv 1) pa_nil))))
      (pss_cons (ps_set (i := 4) scDraws.nd rfl (.inl rfl) (pe_lst pa_nil))
      (pss_cons (ps_if (pt_cmpR op_eq (pe_op op_mod (pe_op op_fdivW (pe_ix ix_list (pv 3) pe_int (fun _ _ => rfl)) pe_int) pe_int) pe_int (nomark _))
        (pss_cons (ps_setLc (i := 5) (own := [("_law_cell", 10)]) (g := gName 10) (tt := tYes) rfl scDraws.nd rfl rfl (sw_true rfl rfl rfl (by decide +kernel)) (pi_list (pv 3))
            (blkOk_by (own := [("_law_cell", 10)]) (N := ["_law_script", "_law_turn", "_law_many", "_law_cells", "_law_found", "_law_left", "_law_k", "_law_at", "_law_place", "_law_number", "_law_cell"]) (sc := defScope sDraws) (by decide +kernel))
            (fun _ _ _ _ _ => pg_name (i := 10) scDraws.nd rfl (Or.inl rfl)) (fun _ _ _ _ _ => pts_nil) (fun _ _ _ _ _ => pe_op op_fdivW (pv 10) pe_int))
        (pss_cons (ps_for PassesOwn.never rfl (pi_range1 rfl mr (pa_cons (pe_op op_add (pv 1) (pv 2)) pa_nil)) (pg_name (i := 6) scDraws.nd rfl (.inl rfl))
          (pss_cons (ps_set (i := 7) scDraws.nd rfl (.inl rfl) (pe_op op_mod (pv 6) (pe_callB call_len_seq (by rfl) ml PySem.boot_len (pa_cons (pv 5) pa_nil))))
          (pss_cons (ps_if (pt_cmpR op_ge (pv 6) (pv 1) (nomark _))
            (pss_one (ps_expr (pe_bm PySem.F.plainAttrs_list PySem.F.slot_list_append PySem.F.type_list_append mt_append (pv 4) (pa_cons (pe_op op_mod (pe_ix ix_list (pv 5) (pv 7) (fun _ _ => rfl)) pe_int) pa_nil)))) pss_nil)
          (pss_one (ps_asg (pe_op op_fdivW (pe_ix ix_list (pv 5) (pv 7) (fun _ _ => rfl)) pe_int) (pg_sub (pv 5) (pv 7) set_list))))))
        (pss_one (ps_ret (pv 4))))) pss_nil)
      (pss_cons (ps_for PassesOwn.never rfl (pi_range1 rfl mr (pa_cons (pv 2) pa_nil)) (pg_name (i := 6) scDraws.nd rfl (.inl rfl))
        (pss_cons (ps_set (i := 8) scDraws.nd rfl (.inl rfl) (pe_op op_add (pe_op op_mul (pe_op op_mul (pe_op op_add (pv 6) (pv 1)) (pe_op op_add (pv 6) (pv 1))) pe_int) pe_int))
        (pss_cons (ps_set (i := 9) scDraws.nd rfl (.inl rfl) (pe_op op_mod (pe_op op_mul (pe_op op_add (pe_op op_mod (pe_ix ix_list (pv 3) (pe_op op_mod (pv 6) (pe_callB call_len_seq (by rfl) ml PySem.boot_len (pa_cons (pv 3) pa_nil))) (fun _ _ => rfl)) pe_int) (pv 8)) pe_int) pe_int))
        (pss_cons (ps_set (i := 9) scDraws.nd rfl (.inl rfl) (pe_op op_mod (pe_op op_add (pe_op op_mul (pv 9) (pv 9)) (pe_op op_mul pe_int (pv 6))) pe_int))
        (pss_one (ps_expr (pe_bm PySem.F.plainAttrs_list PySem.F.slot_list_append PySem.F.type_list_append mt_append (pv 4) (pa_cons (pe_op op_mod (pe_op op_mul (pv 9) (pv 9)) pe_int) pa_nil))))))))
      (pss_one (ps_ret (pv 4)))))), ?_⟩
    -- cells
    refine ⟨.ref a, rfl, 63, rfl, a, ns.map V.int, rfl, ha, fun c nc => ?_⟩
    rw [cut63]
    have s1 : Same H (upd H c (.lst ((ns.take 63).map V.int))) := same_upd nc
    refine ⟨.int t, rfl, (show 1 ≤ sizeLine by decide), fun u nu => ?_⟩
    have ncu : c ≠ u := fun e => by
      rw [← e, upd_same] at nu
      cases nu
    have hlen : (ns.take 63).length ≤ 63 := by
      rw [List.length_take]
      omega
    refine ⟨c, u, (ns.take 63).map V.int, [.int t], rfl, rfl, by rw [upd_ne ncu, upd_same], upd_same, by rw [List.length_map]; exact sz (by show (ns.take 63).length + 1 ≤ 16000000; omega), fun l nl => ?_⟩
    have s2 : Same H (upd (upd H c (.lst ((ns.take 63).map V.int))) u (.lst [.int t])) := s1.trans (same_upd nu)
    have s3 := s2.trans (same_upd (o := .lst ((ns.take 63).map V.int ++ [.int t])) nl)
    have ecells : (ns.take 63).map V.int ++ [V.int t] = (ns.take 63 ++ [(t : Int)]).map V.int := by rw [List.map_append]; rfl
    rw [ecells] at s3 ⊢
    have hcl : (ns.take 63 ++ [(t : Int)]).length ≤ 64 ∧ 0 < (ns.take 63 ++ [(t : Int)]).length := by
      rw [List.length_append]
      constructor
      · show _ + 1 ≤ 64
        omega
      · show 0 < _ + 1
        omega
    have hl : (upd (upd (upd H c (.lst ((ns.take 63).map V.int))) u (.lst [.int t])) l (.lst ((ns.take 63 ++ [(t : Int)]).map V.int))) l = some (.lst ((ns.take 63 ++ [(t : Int)]).map V.int)) := upd_same
    generalize (ns.take 63 ++ [(t : Int)]) = cs at s3 hcl hl ⊢
    generalize (upd (upd (upd H c (.lst ((ns.take 63).map V.int))) u (.lst [.int t])) l (.lst (cs.map V.int))) = H3 at s3 hl ⊢
    have nHl : H l = none := s2.free nl
    -- found
    refine ⟨Nat.zero_le _, fun o no => ?_⟩
    have nHo : H o = none := s3.free no
    have nlo : l ≠ o := ne_of_none hl no
    have s4 : Same H (upd H3 o (.lst [])) := s3.trans (same_upd no)
    have hl4 : (upd H3 o (.lst [])) l = some (.lst (cs.map V.int)) := by rw [upd_ne nlo]; exact hl
    have ho4 : (upd H3 o (.lst [])) o = some (.lst (([] : List Int).map V.int)) := upd_same
    generalize (upd H3 o (.lst [])) = H4 at s4 hl4 ho4 ⊢
    obtain ⟨c0, hc0⟩ := at_int (xs := cs) (k := 0) (Int.le_refl _) (by omega)
    refine ⟨.ref l, rfl, l, cs.map V.int, 0, .int c0, rfl, rfl, sq hl4, hc0, c0, 50000, rfl, rfl, wide_div (b := 17) (by decide) (by decide) (by decide) (by decide), _, 2, rfl, rfl, (show (0 : Int) < 2 by decide), rfl, _, rfl, ite2 (fun e => ?_) (fun e => ?_)⟩
    · -- left
      refine ⟨.ref l, rfl, l, rfl, ⟨_, sq hl4⟩, fun D nD => ?_⟩
      have nHD : H D = none := s4.free nD
      have nlD : l ≠ D := ne_of_none hl4 nD
      have noD : o ≠ D := ne_of_none ho4 nD
      refine walk_n cs.length (fun i H' => Same H H' ∧ H' l = some (.lst (cs.map V.int)) ∧ H' o = some (.lst (([] : List Int).map V.int)) ∧ H' D = some (.lst (((cs.take i).map (· / 100000)).map V.int)))
        ⟨same_over s4 nHD, by rw [upd_ne nlD]; exact hl4, by rw [upd_ne noD]; exact ho4, upd_same⟩ (fun i H' hi ⟨i1, i2, i3, i4⟩ => ⟨itl_go (sq i2) (by rw [List.length_map]; exact hi), fun x H'' y => ?_⟩) (fun H' ⟨i1, i2, i3, i4⟩ => ⟨itl_stop (sq i2) (by rw [List.length_map]), ?_⟩)
      · obtain ⟨rfl, ex⟩ := itl_yld (sq i2) y
        rw [List.getElem?_map, List.getElem?_eq_getElem hi] at ex
        cases ex
        refine ⟨rfl, yes (iteT ?_)⟩
        refine ⟨_, rfl, cs[i], 100000, rfl, rfl, wide_div (b := 17) (by decide) (by decide) (by decide) (by decide), _, i4, ?_, ?_⟩
        · rw [List.length_map, List.length_map, List.length_take]
          exact sz' (by omega)
        · refine ⟨same_over i1 nHD, by rw [upd_ne nlD]; exact i2, by rw [upd_ne noD]; exact i3, ?_⟩
          rw [upd_same, List.take_add_one, List.getElem?_eq_getElem hi, List.map_append, List.map_append]
          rfl
      · rw [List.take_length] at i4
        have hll : (cs.map (· / 100000)).length = cs.length := List.length_map ..
        generalize cs.map (· / 100000) = ls0 at i4 hll
        -- the loop
        refine ⟨.int t, rfl, .int m, rfl, t, m, rfl, rfl, (t : Int) + m, rfl, by omega, by omega, ?_⟩
        refine walk_f (t + m) (fun i σ H' => ∃ (ls ds : List Int) (y6 y7 : Option V), σ = [some (.ref a), some (.int t), some (.int m), some (.ref l), some (.ref o), some (.ref D), y6, y7, none, none, none] ∧ Same H H' ∧ H' D = some (.lst (ls.map V.int)) ∧ ls.length = cs.length ∧
            H' o = some (.lst (ds.map V.int)) ∧ ds.length = i - t ∧ Drawn ds) ⟨ls0, [], none, none, rfl, i1, i4, hll, i3, by rw [Nat.zero_sub]; rfl, drawn_nil⟩ (fun i σ H' hi hp => ?_) (fun σ H' hp => ?_)
        · obtain ⟨ls, ds, y6, y7, rfl, j1, j2, j3, j4, j5, j6⟩ := hp
          refine ⟨by show i < ((t : Int) + m).toNat; omega, fun x H'' y => ?_⟩
          obtain ⟨rfl, rfl⟩ := y
          refine ⟨.int (0 + (i : Int)), rfl, .ref D, rfl, D, _, rfl, .inl (sq j2), 0 + (i : Int), _, rfl, rfl, (by rw [List.length_map]; omega), ?_⟩
          have hlp : (0 : Int) < (ls.map V.int).length := by rw [List.length_map]; omega
          have hk0 : 0 ≤ (0 + (i : Int)) % ((ls.map V.int).length : Int) := Int.emod_nonneg _ (by omega)
          have hk1 : (0 + (i : Int)) % ((ls.map V.int).length : Int) < ls.length := by
            have := Int.emod_lt_of_pos (0 + (i : Int)) hlp
            rw [List.length_map] at this ⊢
            exact this
          obtain ⟨kk, ekk⟩ : ∃ kk, kk = (0 + (i : Int)) % ((ls.map V.int).length : Int) := ⟨_, rfl⟩
          rw [← ekk] at hk0 hk1
          obtain ⟨d, hd⟩ := at_int hk0 hk1
          have nDo : D ≠ o := fun z => noD z.symm
          have store : ∀ H5 : Hp, Same H H5 → H5 D = some (.lst (ls.map V.int)) → ∀ ds' : List Int, H5 o = some (.lst (ds'.map V.int)) → ds'.length = (i + 1) - t → Drawn ds' →
              (tAsg (tOp (rI CDivW fun i j => V.int (i / j)) (tOp (rIxL K) (tVar 5) (tVar 7)) (tC (.int 2147483587))) (gSub (tVar 5) (tVar 7) rSetL)) { nx := fun σ H' => ∃ (ls ds : List Int) (y6 y7 : Option V), σ = [some (.ref a), some (.int t), some (.int m), some (.ref l), some (.ref o), some (.ref D), y6, y7, none, none, none] ∧ Same H H' ∧ H' D = some (.lst (ls.map V.int)) ∧ ls.length = cs.length ∧ H' o = some (.lst (ds.map V.int)) ∧ ds.length = (i + 1) - t ∧ Drawn ds, rt := Q } [some (.ref a), some (.int t), some (.int m), some (.ref l), some (.ref o), some (.ref D), some (.int (0 + (i : Int))), some (.int kk), none, none, none] H5 := by
            intro H5 k1 k2 ds' k3 k4 k5
            refine ⟨.ref D, rfl, .int kk, rfl, D, _, kk, _, rfl, rfl, sq k2, hd, d, 2147483587, rfl, rfl, wide_div (b := 32) (by decide) (by decide) (by decide) (by decide), .ref D, rfl, .int kk, rfl, D, _, kk, kk.toNat, rfl, rfl, k2, ?_, ?_⟩
            · rw [List.length_map]
              exact ixN_at hk0 hk1
            · refine ⟨ls.set kk.toNat (d / 2147483587), ds', _, _, rfl, same_over k1 nHD, ?_, by rw [List.length_set]; exact j3, by rw [upd_ne noD]; exact k3, k4, k5⟩
              rw [upd_same, set_int]
          subst ekk
          refine ⟨.int (0 + (i : Int)), rfl, .int t, rfl, _, _, rfl, rfl, _, rfl, ite2 (fun z => ?_) (fun z => ?_)⟩
          · have z' : (t : Int) ≤ 0 + (i : Int) := of_decide_eq_true z
            refine ⟨.ref o, rfl, .inl ⟨rfl, _, sq j4⟩, .ref D, rfl, .int _, rfl, D, _, _, _, rfl, rfl, sq j2, hd, d, 2147483587, rfl, rfl, (show (0 : Int) < 2147483587 by decide), o, _, _, rfl, rfl, j4, ?_, ?_⟩
            · rw [List.length_map]
              exact sz' (by omega)
            · refine store _ (same_over j1 nHo) (by rw [upd_ne nDo]; exact j2) (ds ++ [d % 2147483587]) ?_ ?_ ?_
              · rw [upd_same, List.map_append]
                rfl
              · rw [List.length_append]
                show ds.length + 1 = _
                omega
              · have h1 := Int.emod_nonneg d (show (2147483587 : Int) ≠ 0 by decide)
                have h2 := Int.emod_lt_of_pos d (show (0 : Int) < 2147483587 by decide)
                exact drawn_snoc j6 h1 (by omega)
          · have z' : ¬ (t : Int) ≤ 0 + (i : Int) := fun y => z (decide_eq_true y)
            exact store _ j1 j2 ds j4 (by omega) j6
        · obtain ⟨ls, ds, y6, y7, rfl, j1, j2, j3, j4, j5, j6⟩ := hp
          refine ⟨by show ((t : Int) + m).toNat ≤ t + m; omega, .ref o, rfl, q _ o ds j1 nHo (by omega) j6 j4⟩
    · -- the second way
      refine ⟨.int m, rfl, (m : Int), rfl, by omega, by omega, ?_⟩
      refine walk_f m (fun i σ H' => ∃ (ds : List Int) (y6 y8 y9 : Option V), σ = [some (.ref a), some (.int t), some (.int m), some (.ref l), some (.ref o), none, y6, none, y8, y9, none] ∧ Same H H' ∧ H' l = some (.lst (cs.map V.int)) ∧
            H' o = some (.lst (ds.map V.int)) ∧ ds.length = i ∧ Drawn ds) ⟨[], none, none, none, rfl, s4, hl4, ho4, rfl, drawn_nil⟩ (fun i σ H' hi hp => ?_) (fun σ H' hp => ?_)
      · obtain ⟨ds, y6, y8, y9, rfl, j1, j2, j3, j4, j5⟩ := hp
        refine ⟨by show i < (m : Int).toNat; omega, fun x H'' y => ?_⟩
        obtain ⟨rfl, rfl⟩ := y
        have hi2 : (0 + (i : Int)) = (i : Int) := by omega
        rw [hi2]
        have hsum : (0 : Int) ≤ (i : Int) + t ∧ (i : Int) + t ≤ 2000 := by omega
        -- place
        refine ⟨.int i, rfl, .int t, rfl, _, _, rfl, rfl, .int i, rfl, .int t, rfl, _, _, rfl, rfl, (i : Int) + t, (i : Int) + t, rfl, rfl, .inl ⟨by omega, by omega⟩, _, 7919, rfl, rfl, .inr ⟨by decide, by decide⟩, _, 104729, rfl, rfl, ?_⟩
        have hpl : (0 : Int) ≤ ((i : Int) + t) * ((i : Int) + t) * 7919 + 104729 := by
          have := Int.mul_nonneg hsum.1 hsum.1
          omega
        dsimp only
        generalize ((i : Int) + t) * ((i : Int) + t) * 7919 + 104729 = pl at hpl ⊢
        have hcp : (0 : Int) < (cs.map V.int).length := by rw [List.length_map]; omega
        have hk0 : 0 ≤ (i : Int) % ((cs.map V.int).length : Int) := Int.emod_nonneg _ (by omega)
        have hk1 : (i : Int) % ((cs.map V.int).length : Int) < cs.length := by
          have := Int.emod_lt_of_pos (i : Int) hcp
          rw [List.length_map] at this ⊢
          exact this
        obtain ⟨d, hd⟩ := at_int hk0 hk1
        refine ⟨.ref l, rfl, .int i, rfl, .ref l, rfl, l, _, rfl, .inl (sq j2), _, _, rfl, rfl, hcp, l, _, _, _, rfl, rfl, sq j2, hd, d, 2147483647, rfl, rfl, (show (0 : Int) < 2147483647 by decide), .int pl, rfl, _, pl, rfl, rfl, _, 48271, rfl, rfl, .inr ⟨by decide, by decide⟩, _, 2147483647, rfl, rfl, (show (0 : Int) < 2147483647 by decide), ?_⟩
        have hn0 := Int.emod_nonneg ((d % 2147483647 + pl) * 48271) (show (2147483647 : Int) ≠ 0 by decide)
        have hn1 := Int.emod_lt_of_pos ((d % 2147483647 + pl) * 48271) (show (0 : Int) < 2147483647 by decide)
        dsimp only
        generalize (d % 2147483647 + pl) * 48271 % 2147483647 = nu at hn0 hn1 ⊢
        refine ⟨.int nu, rfl, .int nu, rfl, nu, nu, rfl, rfl, .inl ⟨by omega, by omega⟩, .int i, rfl, 69621, i, rfl, rfl, .inl ⟨by decide, by decide⟩, _, _, rfl, rfl, _, 2147483629, rfl, rfl, (show (0 : Int) < 2147483629 by decide), ?_⟩
        have hm0 := Int.emod_nonneg (nu * nu + 69621 * (i : Int)) (show (2147483629 : Int) ≠ 0 by decide)
        have hm1 := Int.emod_lt_of_pos (nu * nu + 69621 * (i : Int)) (show (0 : Int) < 2147483629 by decide)
        dsimp only
        generalize (nu * nu + 69621 * (i : Int)) % 2147483629 = mu at hm0 hm1 ⊢
        refine ⟨.ref o, rfl, .inl ⟨rfl, _, sq j3⟩, .int mu, rfl, .int mu, rfl, mu, mu, rfl, rfl, .inl ⟨by omega, by omega⟩, _, 2147483587, rfl, rfl, (show (0 : Int) < 2147483587 by decide), o, _, _, rfl, rfl, j3, ?_, ?_⟩
        · rw [List.length_map]
          exact sz' (by omega)
        · have hx0 := Int.emod_nonneg (mu * mu) (show (2147483587 : Int) ≠ 0 by decide)
          have hx1 := Int.emod_lt_of_pos (mu * mu) (show (0 : Int) < 2147483587 by decide)
          refine ⟨ds ++ [mu * mu % 2147483587], _, _, _, rfl, same_over j1 nHo, by rw [upd_ne nlo]; exact j2, ?_, ?_, drawn_snoc j5 hx0 (by omega)⟩
          · rw [upd_same, List.map_append]
            rfl
          · rw [List.length_append, j4]
            rfl
      · obtain ⟨ds, y6, y8, y9, rfl, j1, j2, j3, j4, j5⟩ := hp
        refine ⟨by show (m : Int).toNat ≤ m; omega, .ref o, rfl, q _ o ds j1 nHo j4 j5 j3⟩
end
end Wa
namespace Wa
open PySem PySem.Spec PyProof.Rows L2
/-! all_words -/
abbrev nAW : List Str := ["q", "n", "words", "place", "word", "sign"]
theorem scAW : FnScope nAW ["q", "n"] (defScope sAllWords) := ⟨rfl, rfl, rfl, by decide +kernel, rfl, by decide +kernel, by decide +kernel⟩
def spAW : Sp := fun vs H Q _ => ∃ (q n : Nat), vs = [.int q, .int n] ∧ q ≤ 3 ∧ n ≤ 8 ∧ ∀ H' p, Same H H' → H p = none → H' p = some (.lst (vws (allD q n))) → Q (.ref p) H'
theorem signs_cut {q : Nat} (h : q ≤ 3) : cutS ("012" : Str) none (some (q : Int)) = wd (List.range q) := by
  match q, h with
  | 0, _ => decide +kernel
  | 1, _ => decide +kernel
  | 2, _ => decide +kernel
  | 3, _ => decide +kernel
theorem wd_at {ds : List Nat} {i c : Nat} (h : (wd ds).cps[i]? = some c) : ∃ d, ds[i]? = some d ∧ c = 48 + d := by
  have h2 : ((ds.map (48 + ·)).toArray)[i]? = some c := h
  rw [List.getElem?_toArray, List.getElem?_map] at h2
  cases e : ds[i]? with
  | none => rw [e] at h2; cases h2
  | some d =>
    rw [e] at h2
    exact ⟨d, rfl, (Option.some.inj h2).symm⟩
section
variable {P : Program} {w : World} {K : PySem.W.Frag} {mg : Str → Option Value} {base : Heap}
theorem ok_allwords {f : Addr} {fd : FuncData} {k : Nat} (F : Fun K "all_words" "all_words" sAllWords f fd) (mr : mg "range" = none) {tk : Tok} (ms : mg "SIGNS" = some (.str ("012" : Str) tk)) : FnOk P w K mg base CX0 (k + 1) f fd ["q", "n"] spAW := by
  refine F.ok scAW (fun vs H Q E h => ?_) (fun cdv A outer s H vs Q E hr h => ?_)
  · obtain ⟨q, n, rfl, _⟩ := h
    rfl
  · obtain ⟨q, n, rfl, hq, hn, ret⟩ := h
    refine ⟨_, pss_cons (ps_set (i := 2) scAW.nd rfl (.inl rfl) (pe_lst (pa_cons pe_str pa_nil)))
      (pss_cons (ps_for PassesOwn.never rfl (pi_range1 rfl mr (pa_cons (pv 1) pa_nil)) (pg_name (i := 3) scAW.nd rfl (.inl rfl))
        (pss_one (ps_setLc2 (i := 2) (own := [("word", 4), ("sign", 5)]) (vs1 := [5]) (g := gName 4) (tt := tYes) (g1 := gName 5) (tt1 := tYes) rfl scAW.nd rfl rfl (sw_true rfl rfl rfl (by decide +kernel)) (pi_list (pv 2))
          (blkOk_by (own := [("word", 4), ("sign", 5)]) (N := nAW) (sc := defScope sAllWords) (by decide +kernel)) (by decide)
          (fun _ _ _ _ _ => pg_name (i := 4) scAW.nd rfl (Or.inl rfl)) (fun _ _ _ _ _ => pts_nil)
          (fun _ _ _ _ _ => pi_str (pe_slice sl_str (pe_glob (v := .str ("012" : Str)) rfl ms ⟨tk, rfl⟩) po_none (po_some (pv 0))))
          (fun _ _ _ _ _ => pg_name (i := 5) scAW.nd rfl (Or.inl rfl)) (fun _ _ _ _ _ => pts_nil) (fun _ _ _ _ _ => pe_op op_add_str (pv 4) (pv 5)))))
      (pss_one (ps_ret (pv 2)))), ?_⟩
    refine ⟨(show 1 ≤ sizeLine by decide), fun p0 np0 => ?_⟩
    refine ⟨.int n, rfl, (n : Int), rfl, by omega, by omega, ?_⟩
    refine walk_f n (fun i σ H' => ∃ (p : Addr) (y3 : Option V), σ = [some (.int q), some (.int n), some (.ref p), y3, none, none] ∧ Same H H' ∧ H p = none ∧ H' p = some (.lst (vws (allD q i)))) ⟨p0, none, rfl, same_upd np0, np0, upd_same⟩ (fun i σ H' hi hp => ?_) (fun σ H' hp => ?_)
    · obtain ⟨p, y3, rfl, i1, i2, i3⟩ := hp
      refine ⟨by show i < (n : Int).toNat; omega, fun x H'' y => ?_⟩
      obtain ⟨rfl, rfl⟩ := y
      -- the comprehension
      refine ⟨.ref p, rfl, p, rfl, ⟨_, sq i3⟩, fun D nD => ?_⟩
      have nHD : H D = none := i1.free nD
      have npD : p ≠ D := ne_of_none i3 nD
      have hlen : (allD q i).length ≤ 6561 := by rw [allD_len]; exact pow_bound hq (by omega)
      refine walk_n (allD q i).length (fun j H5 => Same H H5 ∧ H5 p = some (.lst (vws (allD q i))) ∧ H5 D = some (.lst (vws (((allD q i).take j).flatMap fun w => (List.range q).map fun s => w ++ [s]))))
        ⟨same_over i1 nHD, by rw [upd_ne npD]; exact i3, upd_same⟩ (fun j H5 hj ⟨j1, j2, j3⟩ => ⟨itl_go (sq j2) (by rw [vws_len]; exact hj), fun x H6 y => ?_⟩) (fun H5 ⟨j1, j2, j3⟩ => ⟨itl_stop (sq j2) (vws_len _), ?_⟩)
      · obtain ⟨rfl, ex⟩ := itl_yld (sq j2) y
        have gj : (allD q i)[j]? = some (allD q i)[j] := List.getElem?_eq_getElem hj
        have wl : (allD q i)[j].length = i := (allD_mem (List.getElem_mem hj)).1
        rw [vws_get, gj] at ex
        cases ex
        generalize (allD q i)[j] = u at gj wl
        refine ⟨rfl, yes (iteT ?_)⟩
        refine ⟨_, rfl, _, rfl, ("012" : Str), rfl, by decide, cutS ("012" : Str) none (some (q : Int)), rfl, ?_⟩
        rw [signs_cut hq]
        have hb : (((allD q i).take j).flatMap fun w => (List.range q).map fun s => w ++ [s]).length ≤ 6561 * 3 := by
          rw [flat_len (q := q) (fun x _ => by rw [List.length_map, List.length_range]), List.length_take]
          exact Nat.mul_le_mul (by omega) hq
        refine walk_n q (fun c H7 => Same H H7 ∧ H7 p = some (.lst (vws (allD q i))) ∧ H7 D = some (.lst (vws ((((allD q i).take j).flatMap fun w => (List.range q).map fun s => w ++ [s]) ++ (((List.range q).take c).map fun s => u ++ [s])))))
          ⟨j1, j2, by rw [List.take_zero, List.map_nil, List.append_nil]; exact j3⟩ (fun c H7 hc ⟨k1, k2, k3⟩ => ⟨?_, fun x H8 y => ?_⟩) (fun H7 ⟨k1, k2, k3⟩ => ⟨?_, k1, k2, ?_⟩)
        · show c < (((List.range q).map (48 + ·)).toArray).size
          rw [List.size_toArray, List.length_map, List.length_range]
          exact hc
        · obtain ⟨rfl, cc, ec, rfl⟩ := y
          obtain ⟨d, ed, rfl⟩ := wd_at ec
          rw [List.getElem?_range hc] at ed
          cases ed
          refine ⟨rfl, yes (iteT ?_)⟩
          refine ⟨_, rfl, _, rfl, wd u, ⟨#[48 + c]⟩, rfl, rfl, ?_, _, k3, ?_, ?_⟩
          · rw [wd_len, wl]
            exact sz (by show i + 1 ≤ 16000000; omega)
          · rw [vws_len, List.length_append, List.length_map, List.length_take]
            exact sz' (by rw [List.length_range]; omega)
          · refine ⟨same_over k1 nHD, by rw [upd_ne npD]; exact k2, ?_⟩
            rw [upd_same, range_take hc, List.map_append, ← List.append_assoc]
            show some (HO.lst (_ ++ [V.str (wd u ++ wd [c])])) = _
            rw [wd_app]
            exact congrArg (fun z => some (HO.lst z)) (vws_snoc _ _).symm
        · show (((List.range q).map (48 + ·)).toArray).size ≤ q
          rw [List.size_toArray, List.length_map, List.length_range]
          exact Nat.le_refl _
        · rw [flat_take gj]
          have e : (List.range q).take q = List.range q := List.take_of_length_le (by rw [List.length_range]; exact Nat.le_refl _)
          rw [e] at k3
          exact k3
      · rw [List.take_length] at j3
        exact ⟨D, _, rfl, j1, nHD, j3⟩
    · obtain ⟨p, y3, rfl, i1, i2, i3⟩ := hp
      exact ⟨by show (n : Int).toNat ≤ n; omega, .ref p, rfl, ret _ p i1 i2 i3⟩
end
end Wa
namespace Wa
open PySem PySem.Spec PyProof.Rows L2
/-! the law's own list of all words -/
abbrev nAll : List Str := ["_law_q", "_law_n", "_law_found", "_law_k", "_law_more", "_law_word", "_law_sign"]
theorem scAll : FnScope nAll ["_law_q", "_law_n"] (defScope sAll) := ⟨rfl, rfl, rfl, by decide +kernel, rfl, by decide +kernel, by decide +kernel⟩
theorem str_fig {s : Nat} (h : s < 3) : Str.ofString (toString (s : Int)) = wd [s] := by
  match s, h with
  | 0, _ => decide +kernel
  | 1, _ => decide +kernel
  | 2, _ => decide +kernel
section
variable {P : Program} {w : World} {K : PySem.W.Frag} {mg : Str → Option Value} {base : Heap}
theorem ok_all {f : Addr} {fd : FuncData} {k : Nat} (F : Fun K "_law_all" "_law_all" sAll f fd) (mr : mg "range" = none) (mt : mg "str" = none) : FnOk P w K mg base CX0 (k + 1) f fd ["_law_q", "_law_n"] spAW := by
  refine F.ok scAll (fun vs H Q E h => ?_) (fun cdv A outer s H vs Q E hr h => ?_)
  · obtain ⟨q, n, rfl, _⟩ := h
    rfl
  · obtain ⟨q, n, rfl, hq, hn, ret⟩ := h
    refine ⟨_, pss_cons (ps_set (i := 2) scAll.nd rfl (.inl rfl) (pe_lst (pa_cons pe_str pa_nil)))
      (pss_cons (ps_for PassesOwn.never rfl (pi_range1 rfl mr (pa_cons (pv 1) pa_nil)) (pg_name (i := 3) scAll.nd rfl (.inl rfl))
        (pss_cons (ps_set (i := 4) scAll.nd rfl (.inl rfl) (pe_lst pa_nil))
        (pss_cons (ps_for PassesOwn.never rfl (pi_list (pv 2)) (pg_name (i := 5) scAll.nd rfl (.inr rfl))
          (pss_one (ps_set (i := 4) scAll.nd rfl (.inl rfl) (pe_op op_cat (pv 4) (pe_lc (own := [("_law_sign", 6)]) (g := gName 6) (tt := tYes) rfl scAll.nd (pi_range1 rfl mr (pa_cons (pv 0) pa_nil))
            (blkOk_by (own := [("_law_sign", 6)]) (N := nAll) (sc := defScope sAll) (by decide +kernel)) (fun _ _ _ _ _ => pg_name (i := 6) scAll.nd rfl (Or.inl rfl)) (fun _ _ _ _ _ => pts_nil)
            (fun _ _ _ _ _ => pe_op op_add_str (pv 5) (pe_callTy call_str_int (by rfl) mt (by decide +kernel) (pa_cons (pv 6) pa_nil))))))))
        (pss_one (ps_set (i := 2) scAll.nd rfl (.inl rfl) (pv 4))))))
      (pss_one (ps_ret (pv 2)))), ?_⟩
    refine ⟨(show 1 ≤ sizeLine by decide), fun p0 np0 => ?_⟩
    refine ⟨.int n, rfl, (n : Int), rfl, by omega, by omega, ?_⟩
    refine walk_f n (fun i σ H' => ∃ (p : Addr) (y3 y4 y5 : Option V), σ = [some (.int q), some (.int n), some (.ref p), y3, y4, y5, none] ∧ Same H H' ∧ H p = none ∧ H' p = some (.lst (vws (allD q i)))) ⟨p0, none, none, none, rfl, same_upd np0, np0, upd_same⟩ (fun i σ H' hi hp => ?_) (fun σ H' hp => ?_)
    · obtain ⟨p, y3, y4, y5, rfl, i1, i2, i3⟩ := hp
      refine ⟨by show i < (n : Int).toNat; omega, fun x H'' y => ?_⟩
      obtain ⟨rfl, rfl⟩ := y
      refine ⟨Nat.zero_le _, fun m0 nm0 => ?_⟩
      have nHm : H m0 = none := i1.free nm0
      have npm : p ≠ m0 := ne_of_none i3 nm0
      have hlen : (allD q i).length ≤ 6561 := by rw [allD_len]; exact pow_bound hq (by omega)
      have i3' : (upd H'' m0 (.lst [])) p = some (.lst (vws (allD q i))) := by rw [upd_ne npm]; exact i3
      refine ⟨.ref p, rfl, p, rfl, ⟨_, sq i3'⟩, ?_⟩
      refine walk_f (allD q i).length (fun j σ H5 => ∃ (m : Addr) (y5 : Option V), σ = [some (.int q), some (.int n), some (.ref p), some (.int (0 + (i : Int))), some (.ref m), y5, none] ∧ Same H H5 ∧ H5 p = some (.lst (vws (allD q i))) ∧ H m = none ∧ H5 m = some (.lst (vws (((allD q i).take j).flatMap fun w => (List.range q).map fun s => w ++ [s]))))
        ⟨m0, y5, rfl, same_over i1 nHm, i3', nHm, upd_same⟩ (fun j σ H5 hj hp => ?_) (fun σ H5 hp => ?_)
      · obtain ⟨m, z5, rfl, j1, j2, j3, j4⟩ := hp
        refine ⟨itl_go (sq j2) (by rw [vws_len]; exact hj), fun x H6 y => ?_⟩
        obtain ⟨rfl, ex⟩ := itl_yld (sq j2) y
        have gj : (allD q i)[j]? = some (allD q i)[j] := List.getElem?_eq_getElem hj
        have wl : (allD q i)[j].length = i := (allD_mem (List.getElem_mem hj)).1
        rw [vws_get, gj] at ex
        cases ex
        generalize (allD q i)[j] = u at gj wl
        have hb : (((allD q i).take j).flatMap fun w => (List.range q).map fun s => w ++ [s]).length ≤ 6561 * 3 := by
          rw [flat_len (q := q) (fun x _ => by rw [List.length_map, List.length_range]), List.length_take]
          exact Nat.mul_le_mul (by omega) hq
        refine ⟨.ref m, rfl, .int q, rfl, (q : Int), rfl, by omega, by omega, fun D nD => ?_⟩
        have nHD : H D = none := j1.free nD
        have npD : p ≠ D := ne_of_none j2 nD
        have nmD : m ≠ D := ne_of_none j4 nD
        refine walk_n q (fun c H7 => Same H H7 ∧ H7 p = some (.lst (vws (allD q i))) ∧ H7 m = some (.lst (vws (((allD q i).take j).flatMap fun w => (List.range q).map fun s => w ++ [s]))) ∧ H7 D = some (.lst (vws (((List.range q).take c).map fun s => u ++ [s]))))
          ⟨same_over j1 nHD, by rw [upd_ne npD]; exact j2, by rw [upd_ne nmD]; exact j4, upd_same⟩ (fun c H7 hc ⟨k1, k2, k3, k4⟩ => ⟨by show c < (q : Int).toNat; omega, fun x H8 y => ?_⟩) (fun H7 ⟨k1, k2, k3, k4⟩ => ⟨by show (q : Int).toNat ≤ q; omega, ?_⟩)
        · obtain ⟨rfl, rfl⟩ := y
          refine ⟨rfl, yes (iteT ?_)⟩
          refine ⟨_, rfl, .int (0 + (c : Int)), rfl, 0 + (c : Int), rfl, ?_, wd u, _, rfl, rfl, ?_, _, k4, ?_, ?_⟩
          · rw [Int.zero_add]
            match c, Nat.lt_of_lt_of_le hc hq with
            | 0, _ => decide +kernel
            | 1, _ => decide +kernel
            | 2, _ => decide +kernel
          · rw [Int.zero_add, str_fig (Nat.lt_of_lt_of_le hc hq), wd_len, wd_len, wl]
            exact sz (by show i + 1 ≤ 16000000; omega)
          · rw [vws_len, List.length_map, List.length_take]
            exact sz' (by rw [List.length_range]; omega)
          · refine ⟨same_over k1 nHD, by rw [upd_ne npD]; exact k2, by rw [upd_ne nmD]; exact k3, ?_⟩
            rw [upd_same, Int.zero_add, str_fig (Nat.lt_of_lt_of_le hc hq), wd_app, range_take hc, List.map_append]
            exact congrArg (fun z => some (HO.lst z)) (vws_snoc _ _).symm
        · have e : (List.range q).take q = List.range q := List.take_of_length_le (by rw [List.length_range]; exact Nat.le_refl _)
          rw [e] at k4
          refine ⟨m, D, _, _, rfl, rfl, k3, k4, ?_, fun r nr => ?_⟩
          · rw [vws_len, vws_len, List.length_map, List.length_range]
            exact sz (by omega)
          · have npr : p ≠ r := ne_of_none k2 nr
            refine ⟨r, _, rfl, k1.trans (same_upd nr), by rw [upd_ne npr]; exact k2, k1.free nr, ?_⟩
            rw [upd_same, flat_take gj, vws_app]
      · obtain ⟨m, z5, rfl, j1, j2, j3, j4⟩ := hp
        rw [List.take_length] at j4
        exact ⟨itl_stop (sq j2) (vws_len _), .ref m, rfl, m, _, _, _, rfl, j1, j3, j4⟩
    · obtain ⟨p, y3, y4, y5, rfl, i1, i2, i3⟩ := hp
      exact ⟨by show (n : Int).toNat ≤ n; omega, .ref p, rfl, ret _ p i1 i2 i3⟩
end
end Wa
namespace Wa
open PySem PySem.Spec PyProof.Rows L2
/-! a list of texts -/
abbrev nTx : List Str := ["_law_found", "_law_one"]
theorem scTx : FnScope nTx ["_law_found"] (defScope sTexts) := ⟨rfl, rfl, rfl, by decide +kernel, rfl, by decide +kernel, by decide +kernel⟩
def spTx : Sp := fun vs H Q _ => ∃ (a : Addr) (ws : List (List Nat)), vs = [.ref a] ∧ H a = some (.lst (vws ws)) ∧ ∀ H', Same H H' → Q (.bl true) H'
section
variable {P : Program} {w : World} {K : PySem.W.Frag} {mg : Str → Option Value} {base : Heap}
theorem ok_texts {f : Addr} {fd : FuncData} {k : Nat} (F : Fun K "_law_texts" "_law_texts" sTexts f fd) (mi : mg "isinstance" = none) (mt : mg "str" = none) (ml : mg "list" = none) : FnOk P w K mg base CX0 (k + 1) f fd ["_law_found"] spTx := by
  refine F.ok scTx (fun vs H Q E h => ?_) (fun cdv A outer s H vs Q E hr h => ?_)
  · obtain ⟨a, ws, rfl, _⟩ := h
    rfl
  · obtain ⟨a, ws, rfl, ha, ret⟩ := h
    refine ⟨_, pss_one (ps_ret (pe_and (pe_callB call_isi (by rfl) mi (by decide +kernel) (pa_cons (pv 0) (pa_cons (pe_bltn (v := .ty "list") (by rfl) ml (by decide +kernel) rfl) pa_nil)))
      (pe_one (pe_cmpR (op_eqD hr.units) (pe_lc (own := [("_law_one", 1)]) (g := gName 1) (tt := tNot (tB (tCB (rIsi K) (tCons (tVar 1) (tCons (tC (.ty "str")) tNil))))) (te := tVar 1) rfl scTx.nd (pi_list (pv 0)) (blkOk_by (own := [("_law_one", 1)]) (N := nTx) (sc := defScope sTexts) (by decide +kernel))
        (fun _ _ _ _ _ => pg_name (i := 1) scTx.nd rfl (Or.inl rfl))
        (fun _ _ _ _ _ => pts_one (pt_not (pt_val (pe_callB (id := "isinstance") (r := rIsi K) call_isi (by rfl) mi (by decide +kernel) (pa_cons (pv 1) (pa_cons (pe_bltn (v := .ty "str") (by rfl) mt (by decide +kernel) rfl) pa_nil))))))
        (fun _ _ _ _ _ => pv 1)) (pe_lst pa_nil) (nomark _))))), ?_⟩
    refine ⟨.ref a, rfl, .ref a, .ty "list", .type "list", .type "list", true, rfl, .ty _, .base (.lst ha), kit_ty (by decide +kernel), true, rfl, iteT ?_⟩
    refine ⟨.ref a, rfl, a, rfl, ⟨_, sq ha⟩, fun D nD => ?_⟩
    have naD : a ≠ D := ne_of_none ha nD
    refine walk_n ws.length (fun i H' => Same H H' ∧ H' D = some (.lst (vws [])))
      ⟨same_upd nD, upd_same⟩ (fun i H' hi ⟨i1, i2⟩ => ⟨itl_go (sq (i1 _ _ ha)) (by rw [vws_len]; exact hi), fun x H'' y => ?_⟩) (fun H' ⟨i1, i2⟩ => ⟨itl_stop (sq (i1 _ _ ha)) (vws_len _), ?_⟩)
    · obtain ⟨rfl, ex⟩ := itl_yld (sq (i1 _ _ ha)) y
      rw [vws_get, List.getElem?_eq_getElem hi] at ex
      cases ex
      exact ⟨rfl, _, rfl, _, .ty "str", .type "str", .type "str", true, rfl, .ty _, .base (.str _), kit_ty (by decide +kernel), true, rfl, iteF ⟨i1, i2⟩⟩
    · refine ⟨Nat.zero_le _, fun p np => ?_⟩
      have i2' : (upd H' p (.lst [])) D = some (.lst (vws [])) := same_upd np _ _ i2
      refine ⟨dws [], dws [], .lst (sq i2') (dp_ws []), .lst (sq upd_same) .nil, sh_ws (fun w hw => absurd hw (by simp)), sh_ws (fun w hw => absurd hw (by simp)), ?_⟩
      exact ret _ (i1.trans (same_upd np))
end
end Wa
namespace Wa
open PySem PySem.Spec PyProof.Rows L2
/-! the law -/
abbrev nLaw : List Str := ["_law_script", "_law_q", "_law_n", "_law_turn", "_law_found"]
theorem scLaw : FnScope nLaw ["_law_script"] (defScope sLaw) := ⟨rfl, rfl, rfl, by decide +kernel, rfl, by decide +kernel, by decide +kernel⟩
def spLaw (K : PySem.W.Frag) : Sp := fun vs H Q _ => ∃ (a : Addr) (ns : List Int), vs = [.ref a] ∧ SqL K H a (ns.map V.int) ∧ ∀ H', Q (.bl true) H'
theorem QN.le {q n : Nat} (h : QN q n) : q ≤ 3 ∧ n ≤ 8 := by
  rcases h with ⟨h1, h2, h3⟩ | ⟨h1, h2, h3⟩ <;> omega
theorem allD_figs {q n : Nat} (h : q ≤ 3) : Figs (allD q n) := fun w hw d hd => by
  have := (allD_mem hw).2 d hd
  omega
section
variable {P : Program} {w : World} {K : PySem.W.Frag} {mg : Str → Option Value} {base : Heap}
theorem ok_law {f fD fP fS fW fA fT : Addr} {fd fdD fdP fdS fdW fdA fdT : FuncData} (F : Fun K "law" "law" sLaw f fd)
    (FD : Fun K "_law_draws" "_law_draws" sDraws fD fdD) (bD : Binds K fdD ["_law_script", "_law_turn", "_law_many"] []) (gD : mg "_law_draws" = some (.ref fD))
    (FP : Fun K "_law_pop" "_law_pop" sPop fP fdP) (bP : Binds K fdP ["_law_draws_here"] []) (gP : mg "_law_pop" = some (.ref fP))
    (FS : Fun K "_law_size" "_law_size" sSize fS fdS) (bS : Binds K fdS ["_law_draws_here"] []) (gS : mg "_law_size" = some (.ref fS))
    (FW : Fun K "all_words" "all_words" sAllWords fW fdW) (bW : Binds K fdW ["q", "n"] []) (gW : mg "all_words" = some (.ref fW))
    (FA : Fun K "_law_all" "_law_all" sAll fA fdA) (bA : Binds K fdA ["_law_q", "_law_n"] []) (gA : mg "_law_all" = some (.ref fA))
    (FT : Fun K "_law_texts" "_law_texts" sTexts fT fdT) (bT : Binds K fdT ["_law_found"] []) (gT : mg "_law_texts" = some (.ref fT))
    {tk : Tok} (ms : mg "SIGNS" = some (.str ("012" : Str) tk)) (mr : mg "range" = none) (ml : mg "len" = none) (mt : mg "str" = none) (mi : mg "isinstance" = none) (mls : mg "list" = none) :
    FnOk P w K mg base CX0 3 f fd ["_law_script"] (spLaw K) := by
  have GD : FnOk P w K mg base CX0 2 fD fdD _ (spDraws K) := ok_draws FD ml mr
  have GS : FnOk P w K mg base CX0 2 fS fdS _ spSize := ok_size FS FP bP gP
  have GW : FnOk P w K mg base CX0 2 fW fdW _ spAW := ok_allwords FW mr ms
  have GA : FnOk P w K mg base CX0 2 fA fdA _ spAW := ok_all FA mr mt
  have GT : FnOk P w K mg base CX0 2 fT fdT _ spTx := ok_texts FT mi mt mls
  refine F.ok scLaw (fun vs H Q E h => ?_) (fun cdv A outer s H vs Q E hr h => ?_)
  · obtain ⟨a, ns, rfl, _⟩ := h
    rfl
  · obtain ⟨a, ns, rfl, ha, ret⟩ := h
    refine ⟨_, pss_cons (ps_asg (pe_call GS hr (by rfl) gS FS.kp bS .nil pass0 (pa_cons (pe_call GD hr (by rfl) gD FD.kp bD .nil pass0 (pa_cons (pv 0) (pa_cons pe_int (pa_cons pe_int pa_nil)))) pa_nil))
        (pg_tup (by rfl) (pgs_cons (pg_name (i := 1) scLaw.nd rfl (.inl rfl)) (pgs_cons (pg_name (i := 2) scLaw.nd rfl (.inl rfl)) pgs_nil))))
      (pss_cons (ps_for PassesOwn.never rfl (pi_range1 rfl mr (pa_cons pe_int pa_nil)) (pg_name (i := 3) scLaw.nd rfl (.inl rfl))
        (pss_cons (ps_set (i := 4) scLaw.nd rfl (.inl rfl) (pe_call GW hr (by rfl) gW FW.kp bW .nil pass0 (pa_cons (pv 1) (pa_cons (pv 2) pa_nil))))
        (pss_cons (ps_if (PW.pt (pw_or (pt_not (pt_val (pe_call GT hr (by rfl) gT FT.kp bT .nil pass0 (pa_cons (pv 4) pa_nil))))
            (pw_or1 (pt_cmpR (op_neD hr.units) (pv 4) (pe_call GA hr (by rfl) gA FA.kp bA .nil pass0 (pa_cons (pv 1) (pa_cons (pv 2) pa_nil))) (nomark _))))) (pss_one (ps_ret pe_bl)) pss_nil)
        (pss_one (ps_expr (pe_bm PySem.F.plainAttrs_list PySem.F.slot_list_append PySem.F.type_list_append mt_append (pv 4) (pa_cons pe_str pa_nil)))))))
      (pss_one (ps_ret pe_bl))), ?_⟩
    refine ⟨.ref a, rfl, a, ns, 2, 2, rfl, ha, by decide, by decide, fun H1 d0 ds s1 n1 l1 w1 e1 => ?_⟩
    refine ⟨d0, ds, rfl, e1, w1, fun H2 t q n hqn nt et ed oth => ?_⟩
    obtain ⟨hq, hn⟩ := hqn.le
    refine ⟨t, _, rfl, .inl (.inl et), rfl, _, _, rfl, _, _, rfl, rfl, ?_⟩
    refine ⟨2, rfl, by decide, by decide, ?_⟩
    refine walk_f 2 (fun i σ H' => ∃ (y3 y4 : Option V), σ = [some (.ref a), some (.int (q : Nat)), some (.int (n : Nat)), y3, y4]) ⟨none, none, rfl⟩ (fun i σ H' hi hp => ?_) (fun σ H' hp => ?_)
    · obtain ⟨y3, y4, rfl⟩ := hp
      refine ⟨hi, fun x H'' y => ?_⟩
      obtain ⟨rfl, rfl⟩ := y
      refine ⟨_, rfl, _, rfl, q, n, rfl, hq, hn, fun H3 p s3 np ep => ?_⟩
      refine ⟨_, rfl, p, allD q n, rfl, ep, fun H4 s4 => ⟨true, rfl, iteF ?_⟩⟩
      have ep4 := s4 _ _ ep
      refine ⟨_, rfl, _, rfl, _, rfl, q, n, rfl, hq, hn, fun H5 r s5 nr er => ?_⟩
      have ep5 := s5 _ _ ep4
      refine ⟨dws (allD q n), dws (allD q n), .lst (sq ep5) (dp_ws _), .lst (sq er) (dp_ws _), sh_ws (allD_figs hq), sh_ws (allD_figs hq), _, rfl, ?_⟩
      rw [eqv_ws, decide_eq_true rfl]
      refine iteF ?_
      refine ⟨.ref p, rfl, .inl ⟨rfl, _, sq ep5⟩, p, _, _, rfl, rfl, ep5, ?_, ?_⟩
      · rw [vws_len, allD_len]
        exact sz' (Nat.lt_of_le_of_lt (pow_bound hq hn) (by decide))
      · exact ⟨_, _, rfl⟩
    · obtain ⟨y3, y4, rfl⟩ := hp
      exact ⟨Nat.le_refl 2, ret _⟩
end
theorem all_mk {l : PySem.W.OpenLaw} {w : World} {K : PySem.W.Frag} {h : Heap} {mg : Str → Option Value} {fa f1 f2 f3 f4 f5 f6 f7 : Addr} (X : K.In h) (G : h.Ns mainGlobals mg) (hfa : mg "law" = some (.ref fa))
    {od1 an1 od2 an2 od3 an3 od4 an4 od5 an5 od6 an6 od7 an7 : Option Addr} {sl1 sl2 sl3 sl4 sl5 sl6 sl7 : Array (Option Value)}
    {oc1 kV1 dc1 pm1 cd1 ct1 oc2 kV2 dc2 pm2 cd2 ct2 oc3 kV3 dc3 pm3 cd3 ct3 oc4 kV4 dc4 pm4 cd4 ct4 oc5 kV5 dc5 pm5 cd5 ct5 oc6 kV6 dc6 pm6 cd6 ct6 oc7 kV7 dc7 pm7 cd7 ct7 : Value} {tk : Tok}
    (a1 : PySem.W.nsIn K mainGlobals "all_words" = some (some (.ref f1))) (l1 : K.lookup f1 = some ⟨oc1, od1, .func (PySem.W.fnOf "all_words" "all_words" (defArgs sAllWords) (defBody sAllWords) (defScope sAllWords) .none kV1 dc1 pm1 an1 cd1 ct1), sl1⟩) (c1 : PySem.W.codeIn K cd1 "all_words" = true) (k1 : PySem.W.keepIn K (.ref f1) = true)
    (a2 : PySem.W.nsIn K mainGlobals "_law_draws" = some (some (.ref f2))) (l2 : K.lookup f2 = some ⟨oc2, od2, .func (PySem.W.fnOf "_law_draws" "_law_draws" (defArgs sDraws) (defBody sDraws) (defScope sDraws) .none kV2 dc2 pm2 an2 cd2 ct2), sl2⟩) (c2 : PySem.W.codeIn K cd2 "_law_draws" = true) (k2 : PySem.W.keepIn K (.ref f2) = true)
    (a3 : PySem.W.nsIn K mainGlobals "_law_pop" = some (some (.ref f3))) (l3 : K.lookup f3 = some ⟨oc3, od3, .func (PySem.W.fnOf "_law_pop" "_law_pop" (defArgs sPop) (defBody sPop) (defScope sPop) .none kV3 dc3 pm3 an3 cd3 ct3), sl3⟩) (c3 : PySem.W.codeIn K cd3 "_law_pop" = true) (k3 : PySem.W.keepIn K (.ref f3) = true)
    (a4 : PySem.W.nsIn K mainGlobals "_law_size" = some (some (.ref f4))) (l4 : K.lookup f4 = some ⟨oc4, od4, .func (PySem.W.fnOf "_law_size" "_law_size" (defArgs sSize) (defBody sSize) (defScope sSize) .none kV4 dc4 pm4 an4 cd4 ct4), sl4⟩) (c4 : PySem.W.codeIn K cd4 "_law_size" = true) (k4 : PySem.W.keepIn K (.ref f4) = true)
    (a5 : PySem.W.nsIn K mainGlobals "_law_all" = some (some (.ref f5))) (l5 : K.lookup f5 = some ⟨oc5, od5, .func (PySem.W.fnOf "_law_all" "_law_all" (defArgs sAll) (defBody sAll) (defScope sAll) .none kV5 dc5 pm5 an5 cd5 ct5), sl5⟩) (c5 : PySem.W.codeIn K cd5 "_law_all" = true) (k5 : PySem.W.keepIn K (.ref f5) = true)
    (a6 : PySem.W.nsIn K mainGlobals "_law_texts" = some (some (.ref f6))) (l6 : K.lookup f6 = some ⟨oc6, od6, .func (PySem.W.fnOf "_law_texts" "_law_texts" (defArgs sTexts) (defBody sTexts) (defScope sTexts) .none kV6 dc6 pm6 an6 cd6 ct6), sl6⟩) (c6 : PySem.W.codeIn K cd6 "_law_texts" = true) (k6 : PySem.W.keepIn K (.ref f6) = true)
    (a7 : PySem.W.nsIn K mainGlobals "law" = some (some (.ref f7))) (l7 : K.lookup f7 = some ⟨oc7, od7, .func (PySem.W.fnOf "law" "law" (defArgs sLaw) (defBody sLaw) (defScope sLaw) .none kV7 dc7 pm7 an7 cd7 ct7), sl7⟩) (c7 : PySem.W.codeIn K cd7 "law" = true) (k7 : PySem.W.keepIn K (.ref f7) = true)
    (y1 : PySem.W.nsIn K mainGlobals "SIGNS" = some (some (.str ("012" : Str) tk)))
    (z1 : PySem.W.nsIn K mainGlobals "range" = some none) (z2 : PySem.W.nsIn K mainGlobals "len" = some none) (z3 : PySem.W.nsIn K mainGlobals "str" = some none) (z4 : PySem.W.nsIn K mainGlobals "isinstance" = some none) (z5 : PySem.W.nsIn K mainGlobals "list" = some none) :
    ∃ fd : FuncData, (∀ (s : Shared) (v : Value), BindsTo s fd ⟨[v], []⟩ [("_law_script", v)]) ∧ ∀ base : Heap, K.In base → base.Ns mainGlobals mg → FnOk l.prog w K mg base CX0 3 fa fd ["_law_script"] (spLaw K) := by
  have e := hfa.symm.trans (PySem.W.mg_of X G a7)
  cases e
  have F1 := fun_mk (st := sAllWords) l1 c1 k1
  have F2 := fun_mk (st := sDraws) l2 c2 k2
  have F3 := fun_mk (st := sPop) l3 c3 k3
  have F4 := fun_mk (st := sSize) l4 c4 k4
  have F5 := fun_mk (st := sAll) l5 c5 k5
  have F6 := fun_mk (st := sTexts) l6 c6 k6
  have F7 := fun_mk (st := sLaw) l7 c7 k7
  have b1 := F1.binds (ps := ["q", "n"]) fun _ _ _ _ _ _ us hl => match us, hl with | [_, _], _ => rfl
  have b2 := F2.binds (ps := ["_law_script", "_law_turn", "_law_many"]) fun _ _ _ _ _ _ us hl => match us, hl with | [_, _, _], _ => rfl
  have b3 := F3.binds (ps := ["_law_draws_here"]) fun _ _ _ _ _ _ us hl => match us, hl with | [_], _ => rfl
  have b4 := F4.binds (ps := ["_law_draws_here"]) fun _ _ _ _ _ _ us hl => match us, hl with | [_], _ => rfl
  have b5 := F5.binds (ps := ["_law_q", "_law_n"]) fun _ _ _ _ _ _ us hl => match us, hl with | [_, _], _ => rfl
  have b6 := F6.binds (ps := ["_law_found"]) fun _ _ _ _ _ _ us hl => match us, hl with | [_], _ => rfl
  exact ⟨PySem.W.fnOf "law" "law" (defArgs sLaw) (defBody sLaw) (defScope sLaw) .none kV7 dc7 pm7 an7 cd7 ct7, fun s v => .of_eq rfl, fun base _ _ => ok_law F7 F2 b2 (PySem.W.mg_of X G a2) F3 b3 (PySem.W.mg_of X G a3) F4 b4 (PySem.W.mg_of X G a4) F1 b1 (PySem.W.mg_of X G a1) F5 b5 (PySem.W.mg_of X G a5) F6 b6 (PySem.W.mg_of X G a6)
    (PySem.W.mg_of X G y1) (PySem.W.mg_none_of X G z1) (PySem.W.mg_none_of X G z2) (PySem.W.mg_none_of X G z3) (PySem.W.mg_none_of X G z4) (PySem.W.mg_none_of X G z5)⟩
end Wa
open PySem PySem.W PyProof.Rows
set_option maxHeartbeats 0 in
theorem PySem.Challenge.cw_wordsapart_k01_all_words_holds : PySem.Challenge.rw_wordsapart_k01_all_words.Holds := by
  w_on; o_law; k_head; (case hw => w_witness2)
  k_fill
  refine L2.walk_of (l := PySem.Challenge.rw_wordsapart_k01_all_words) (n := 63) (k := 3) (x := "_law_script") (CX := fun _ => L2.CX0) (sp := fun w => Wa.spLaw _) rfl (by decide) rfl ⟨rfl, by decide, by decide⟩ (fun w h Y => PySem.W.kIn_of Y) ?F (fun _ _ a ns hl _ hS => ⟨a, ns, rfl, hS, fun _ => rfl⟩) (fun _ _ _ _ _ h => h)
  case F =>
    intro w mg fa h KX G hmg
    refine' Wa.all_mk KX G hmg ?a1 ?l1 ?c1 ?k1 ?a2 ?l2 ?c2 ?k2 ?a3 ?l3 ?c3 ?k3 ?a4 ?l4 ?c4 ?k4 ?a5 ?l5 ?c5 ?k5 ?a6 ?l6 ?c6 ?k6 ?a7 ?l7 ?c7 ?k7 ?y1 ?z1 ?z2 ?z3 ?z4 ?z5
    (case a1 => k_is); (case l1 => k_is); (case c1 => k_is); (case k1 => k_is); (case a2 => k_is); (case l2 => k_is); (case c2 => k_is); (case k2 => k_is); (case a3 => k_is); (case l3 => k_is); (case c3 => k_is); (case k3 => k_is); (case a4 => k_is); (case l4 => k_is); (case c4 => k_is); (case k4 => k_is); (case a5 => k_is); (case l5 => k_is); (case c5 => k_is); (case k5 => k_is); (case a6 => k_is); (case l6 => k_is); (case c6 => k_is); (case k6 => k_is); (case a7 => k_is); (case l7 => k_is); (case c7 => k_is); (case k7 => k_is); (case y1 => k_is); (case z1 => k_is); (case z2 => k_is); (case z3 => k_is); (case z4 => k_is); (case z5 => k_is)
