import PyProof.Rows.All
import Wide.All
import OpenK.AllK
import Wide.FinOn
import HandS.Base
import HandS.Call
import HandS.List
import HandS.Comp
import HandS.Ends
import HandS.Dict
import HandS.Iter
import HandS.Text
import HandS.Words
import HandS.WordsList
import HandS.WordsDict
import HandS.Wide
import HandS.IsInst
import HandS.AnyAll
import HandS.GenOver
import HandS.EndTab
import HandS.JoinGen
import KE.GoesNew
import KE.GoesEnum
import KE.GoesMore
import HandS.SortInts
import HandS.Conv
import HandS.Small
import HandS.Style
import HandS.FStr
import PyProof.FString3
import PySem.Challenge.RW_wordsapart_k04_counts_of_distances
set_option Elab.async false
set_option linter.all false
set_option maxRecDepth 100000
set_option maxHeartbeats 4000000
/-! words by their figures; walks by a count; heaps -/
namespace Wa
open PySem PySem.Spec PyProof.Rows L2
/-- the text of a word, by its figures -/
def wd (ds : List Nat) : Str := ⟨(ds.map (48 + ·)).toArray⟩
/-- the values of a list of words -/
def vws (ws : List (List Nat)) : List V := ws.map fun w => V.str (wd w)
theorem str_ext {x y : Str} (h : x.cps.toList = y.cps.toList) : x = y := by
  cases x with
  | mk a =>
    cases y with
    | mk b =>
      cases a with
      | mk l =>
        cases b with
        | mk m =>
          have e : l = m := h
          rw [e]
theorem str_app (x y : Str) : (x ++ y).cps.toList = x.cps.toList ++ y.cps.toList := by
  show (x.cps ++ y.cps).toList = _
  exact Array.toList_append ..
theorem wd_list (ds : List Nat) : (wd ds).cps.toList = ds.map (48 + ·) := rfl
theorem wd_app (a b : List Nat) : wd a ++ wd b = wd (a ++ b) := by
  apply str_ext
  rw [str_app, wd_list, wd_list, wd_list, List.map_append]
theorem wd_len (a : List Nat) : (wd a).length = a.length := by
  show (a.map (48 + ·)).toArray.size = _
  rw [List.size_toArray, List.length_map]
theorem map48_inj : ∀ {a b : List Nat}, a.map (48 + ·) = b.map (48 + ·) → a = b
  | [], [], _ => rfl
  | [], _ :: _, h => by cases h
  | _ :: _, [], h => by cases h
  | x :: a, y :: b, h => by
    have h1 : 48 + x = 48 + y := (List.cons.inj h).1
    have h2 := map48_inj (List.cons.inj h).2
    have e : x = y := by omega
    rw [e, h2]
theorem wd_inj {a b : List Nat} (h : wd a = wd b) : a = b := map48_inj (by rw [← wd_list, ← wd_list, h])
theorem wd_one (c : Nat) : wd [c] = ⟨#[48 + c]⟩ := rfl
theorem wd_at {ds : List Nat} {i c : Nat} (h : (wd ds).cps[i]? = some c) : ∃ d, ds[i]? = some d ∧ c = 48 + d := by
  have h2 : ((ds.map (48 + ·)).toArray)[i]? = some c := h
  rw [List.getElem?_toArray, List.getElem?_map] at h2
  cases e : ds[i]? with
  | none => rw [e] at h2; cases h2
  | some d =>
    rw [e] at h2
    exact ⟨d, rfl, (Option.some.inj h2).symm⟩
theorem small_log {s : Nat} (h : s < 3) : ((s : Nat) : Int).natAbs.log2 < 1920 := by
  match s, h with
  | 0, _ => decide +kernel
  | 1, _ => decide +kernel
  | 2, _ => decide +kernel
theorem str_fig {s : Nat} (h : s < 3) : Str.ofString (toString (s : Int)) = wd [s] := by
  match s, h with
  | 0, _ => decide +kernel
  | 1, _ => decide +kernel
  | 2, _ => decide +kernel
theorem wd_ix {ds : List Nat} {i d : Nat} (h : ds[i]? = some d) : (wd ds).cps[i]? = some (48 + d) := by
  show ((ds.map (48 + ·)).toArray)[i]? = _
  rw [List.getElem?_toArray, List.getElem?_map, h]
  rfl
theorem vws_len (ws : List (List Nat)) : (vws ws).length = ws.length := List.length_map ..
theorem vws_get (ws : List (List Nat)) (i : Nat) : (vws ws)[i]? = (ws[i]?).map fun w => V.str (wd w) := List.getElem?_map ..
theorem vws_app (a b : List (List Nat)) : vws (a ++ b) = vws a ++ vws b := List.map_append ..
theorem vws_snoc (a : List (List Nat)) (b : List Nat) : vws (a ++ [b]) = vws a ++ [V.str (wd b)] := vws_app a [b]
theorem sz {n : Nat} (h : n ≤ 16000000) : n ≤ sizeLine := Nat.le_trans h (by decide)
theorem sz' {n : Nat} (h : n < 16000000) : n < sizeLine := Nat.lt_of_lt_of_le h (by decide)

/-- a new object leaves what stood -/
theorem same_upd {H : Hp} {p : Addr} {o : HO} (h : H p = none) : Same H (upd H p o) := fun b x e => by
  rw [upd_ne (ne_of_none e h)]
  exact e
/-- a change at an address that was free at the start -/
theorem same_over {H H1 : Hp} {p : Addr} {o : HO} (s : Same H H1) (h : H p = none) : Same H (upd H1 p o) := fun b x e => by
  rw [upd_ne (ne_of_none e h)]
  exact s b x e
/-- all but a has stayed -/
def Others (a : Addr) (H H' : Hp) : Prop := ∀ b o, b ≠ a → H b = some o → H' b = some o
theorem Others.refl (a : Addr) (H : Hp) : Others a H H := fun _ _ _ h => h
theorem Others.trans {a : Addr} {H H1 H2 : Hp} (x : Others a H H1) (y : Others a H1 H2) : Others a H H2 := fun b o n h => y b o n (x b o n h)
theorem Same.others {a : Addr} {H H' : Hp} (s : Same H H') : Others a H H' := fun b o _ h => s b o h
theorem others_upd {a : Addr} {H : Hp} {o : HO} : Others a H (upd H a o) := fun b x n e => by
  rw [upd_ne n]
  exact e

/-- a walk of n turns: comprehensions -/
theorem walk_n {stop go : Nat → Hp → Prop} {T : Nat → Hp → (Hp → Prop) → Prop} {H0 : Hp} {Qd : Hp → Prop} (n : Nat) (Pv : Nat → Hp → Prop) (h0 : Pv 0 H0)
    (hs : ∀ i H, i < n → Pv i H → go i H ∧ T i H (Pv (i + 1))) (hd : ∀ H, Pv n H → stop n H ∧ Qd H) :
    ∃ W : Nat → Nat → Hp → Prop, (∃ m, W 0 m H0) ∧ ∀ i m H, W i m H → (stop i H ∧ Qd H) ∨ (go i H ∧ ∃ Nx : Hp → Prop, (∀ H', Nx H' → ∃ m', m' < m ∧ W (i + 1) m' H') ∧ T i H Nx) := by
  refine ⟨fun i m H => m = n - i ∧ i ≤ n ∧ Pv i H, ⟨n, by simp, Nat.zero_le _, h0⟩, ?_⟩
  rintro i m H ⟨rfl, hi, p⟩
  by_cases hlt : i < n
  · obtain ⟨g, t⟩ := hs i H hlt p
    exact .inr ⟨g, Pv (i + 1), fun H' p' => ⟨n - (i + 1), by omega, rfl, hlt, p'⟩, t⟩
  · have e : i = n := by omega
    subst e
    exact .inl (hd H p)
/-- a walk of n turns: for loops -/
theorem walk_f {stop go : Nat → Hp → Prop} {T : Nat → L2.St → Hp → (L2.St → Hp → Prop) → Prop} {s0 : L2.St} {H0 : Hp} {Qd : L2.St → Hp → Prop} (n : Nat) (Pv : Nat → L2.St → Hp → Prop) (h0 : Pv 0 s0 H0)
    (hs : ∀ i σ H, i < n → Pv i σ H → go i H ∧ T i σ H (Pv (i + 1))) (hd : ∀ σ H, Pv n σ H → stop n H ∧ Qd σ H) :
    ∃ W : Nat → Nat → L2.St → Hp → Prop, (∃ m, W 0 m s0 H0) ∧ ∀ i m σ H, W i m σ H → (stop i H ∧ Qd σ H) ∨ (go i H ∧ ∃ N : L2.St → Hp → Prop, (∀ σ' H', N σ' H' → ∃ m', m' < m ∧ W (i + 1) m' σ' H') ∧ T i σ H N) := by
  refine ⟨fun i m σ H => m = n - i ∧ i ≤ n ∧ Pv i σ H, ⟨n, by simp, Nat.zero_le _, h0⟩, ?_⟩
  rintro i m σ H ⟨rfl, hi, p⟩
  by_cases hlt : i < n
  · obtain ⟨g, t⟩ := hs i σ H hlt p
    exact .inr ⟨g, Pv (i + 1), fun σ' H' p' => ⟨n - (i + 1), by omega, rfl, hlt, p'⟩, t⟩
  · have e : i = n := by omega
    subst e
    exact .inl (hd σ H p)
theorem yes {σ : L2.St} {H : Hp} {Q : Bool → Hp → Prop} (h : Q true H) : tYes σ H Q := h
/-- what a list's iterator hands out -/
theorem itl_go {K : PySem.W.Frag} {a : Addr} {xs : List V} {i : Nat} {H : Hp} (h : SqL K H a xs) (hi : i < xs.length) : (Itl K a).go i H := ⟨xs, xs[i], h, List.getElem?_eq_getElem hi⟩
theorem itl_stop {K : PySem.W.Frag} {a : Addr} {xs : List V} {H : Hp} (h : SqL K H a xs) {n : Nat} (e : xs.length = n) : (Itl K a).stop n H := ⟨xs, h, by omega⟩
theorem itl_yld {K : PySem.W.Frag} {a : Addr} {xs : List V} {i : Nat} {H H' : Hp} {x : V} (h : SqL K H a xs) (y : (Itl K a).yld i H x H') : H' = H ∧ xs[i]? = some x := ⟨y.1, y.2 xs h⟩
theorem sq {K : PySem.W.Frag} {H : Hp} {a : Addr} {xs : List V} (h : H a = some (.lst xs)) : SqL K H a xs := .inl (.inl h)

/-- all words of length n with q signs, rising -/
def allD (q : Nat) : Nat → List (List Nat)
  | 0 => [[]]
  | n + 1 => (allD q n).flatMap fun w => (List.range q).map fun s => w ++ [s]
def spAW : Sp := fun vs H Q _ => ∃ (q n : Nat), vs = [.int q, .int n] ∧ q ≤ 3 ∧ n ≤ 8 ∧ ∀ H' p, Same H H' → H p = none → H' p = some (.lst (vws (allD q n))) → Q (.ref p) H'
theorem flat_len {α β : Type} {f : α → List β} {q : Nat} : ∀ {l : List α}, (∀ x ∈ l, (f x).length = q) → (l.flatMap f).length = l.length * q
  | [], _ => by simp
  | a :: l, h => by
    rw [List.flatMap_cons, List.length_append, flat_len (l := l) fun x hx => h x (List.mem_cons_of_mem _ hx), h a List.mem_cons_self, List.length_cons, Nat.succ_mul]
    omega
theorem allD_len (q : Nat) : ∀ n, (allD q n).length = q ^ n
  | 0 => rfl
  | n + 1 => by
    show ((allD q n).flatMap _).length = _
    rw [flat_len (q := q) (fun x _ => by rw [List.length_map, List.length_range]), allD_len q n, Nat.pow_succ]
theorem allD_mem {q : Nat} : ∀ {n : Nat} {w : List Nat}, w ∈ allD q n → w.length = n ∧ ∀ d ∈ w, d < q
  | 0, w, h => by
    have e : w = [] := List.mem_singleton.mp h
    subst e
    exact ⟨rfl, fun d hd => absurd hd (by simp)⟩
  | n + 1, w, h => by
    obtain ⟨u, hu, hw⟩ := List.mem_flatMap.mp h
    obtain ⟨s, hs, rfl⟩ := List.mem_map.mp hw
    obtain ⟨h1, h2⟩ := allD_mem hu
    refine ⟨by rw [List.length_append, h1]; rfl, fun d hd => ?_⟩
    rcases List.mem_append.mp hd with z | z
    · exact h2 d z
    · rw [List.mem_singleton.mp z]
      exact List.mem_range.mp hs
theorem pow_bound {q n : Nat} (hq : q ≤ 3) (hn : n ≤ 8) : q ^ n ≤ 6561 := Nat.le_trans (Nat.pow_le_pow_left hq n) (Nat.le_trans (Nat.pow_le_pow_right (by decide) hn) (by decide))
theorem flat_take {α β : Type} {f : α → List β} {i : Nat} {l : List α} {x : α} (h : l[i]? = some x) : (l.take (i + 1)).flatMap f = (l.take i).flatMap f ++ f x := by
  rw [List.take_add_one, h, List.flatMap_append]
  show _ ++ ([x].flatMap f) = _
  rw [List.flatMap_singleton]
theorem range_take {q i : Nat} (h : i < q) : (List.range q).take (i + 1) = (List.range q).take i ++ [i] := by
  rw [List.take_add_one, List.getElem?_range h]
  rfl
end Wa
/-! lists of words and of numbers as data: equality -/
namespace Wa
open PySem PySem.Spec PyProof.Rows L2
def dws (ws : List (List Nat)) : PyData := .list (ws.map fun w => .str (wd w))
def dns (ns : List Int) : PyData := .list (ns.map PyData.int)
theorem dp_ws {K : PySem.W.Frag} {H : Hp} : ∀ (ws : List (List Nat)), DpAll K H (vws ws) (ws.map fun w => .str (wd w))
  | [] => .nil
  | w :: r => .cons (.str (wd w)) (dp_ws r)
theorem dp_ns {K : PySem.W.Frag} {H : Hp} : ∀ (ns : List Int), DpAll K H (ns.map V.int) (ns.map PyData.int)
  | [] => .nil
  | w :: r => .cons (.int w) (dp_ns r)
theorem sh_list {ds : List PyData} (h : ∀ d ∈ ds, d.canLay0 = true ∧ d.depth = 0) : SeqAt.shaped (.list ds) = true := by
  have h1 : ∀ {ds : List PyData}, (∀ d ∈ ds, d.canLay0 = true ∧ d.depth = 0) → PyData.canLayAll0 ds = true ∧ PyData.depthAll ds = 0 := by
    intro ds
    induction ds with
    | nil => exact fun _ => ⟨rfl, rfl⟩
    | cons d r ih =>
      intro h
      obtain ⟨i1, i2⟩ := ih fun x hx => h x (List.mem_cons_of_mem _ hx)
      obtain ⟨j1, j2⟩ := h d List.mem_cons_self
      refine ⟨?_, ?_⟩
      · show (d.canLay0 && PyData.canLayAll0 r) = true
        rw [i1, j1]
        rfl
      · show max d.depth (PyData.depthAll r) = 0
        rw [i2, j2]
        rfl
  obtain ⟨a, b⟩ := h1 h
  unfold SeqAt.shaped
  rw [Bool.and_eq_true]
  refine ⟨a, decide_eq_true ?_⟩
  show PyData.depthAll ds + 1 ≤ 64
  rw [b]
  decide
/-- words of figures -/
def Figs (ws : List (List Nat)) : Prop := ∀ w ∈ ws, ∀ d ∈ w, d < 10
theorem allD_figs {q n : Nat} (h : q ≤ 3) : Figs (allD q n) := fun w hw d hd => by
  have := (allD_mem hw).2 d hd
  omega
theorem wd_ok {w : List Nat} (h : ∀ d ∈ w, d < 10) : PyData.strOk (wd w) = true := by
  show (w.map (48 + ·)).toArray.all (· < 0x110000) = true
  rw [List.all_toArray, List.all_eq_true]
  intro x hx
  obtain ⟨d, hd, rfl⟩ := List.mem_map.mp hx
  have := h d hd
  exact decide_eq_true (by omega)
theorem sh_ws {ws : List (List Nat)} (h : Figs ws) : SeqAt.shaped (dws ws) = true := sh_list fun d hd => by
  obtain ⟨w, hw, rfl⟩ := List.mem_map.mp hd
  exact ⟨wd_ok (h w hw), rfl⟩
theorem sh_ns (ns : List Int) : SeqAt.shaped (dns ns) = true := sh_list fun d hd => by
  obtain ⟨w, _, rfl⟩ := List.mem_map.mp hd
  exact ⟨rfl, rfl⟩
theorem eqv_ws : ∀ (a b : List (List Nat)), PyData.eqv (dws a) (dws b) = decide (a = b)
  | [], [] => rfl
  | [], _ :: _ => rfl
  | _ :: _, [] => rfl
  | x :: a, y :: b => by
    have ih := eqv_ws a b
    show (wd x == wd y && PyData.eqv (dws a) (dws b)) = _
    rw [ih]
    by_cases e : x = y
    · subst e
      rw [beq_self_eq_true, Bool.true_and]
      by_cases e2 : a = b
      · rw [e2, decide_eq_true rfl, decide_eq_true rfl]
      · rw [decide_eq_false e2, decide_eq_false fun z => e2 (List.cons.inj z).2]
    · rw [beq_eq_false_iff_ne.mpr fun z => e (wd_inj z), Bool.false_and, decide_eq_false fun z => e (List.cons.inj z).1]
theorem eqv_ns : ∀ (a b : List Int), PyData.eqv (dns a) (dns b) = decide (a = b)
  | [], [] => rfl
  | [], _ :: _ => rfl
  | _ :: _, [] => rfl
  | x :: a, y :: b => by
    have ih := eqv_ns a b
    show (x == y && PyData.eqv (dns a) (dns b)) = _
    rw [ih]
    by_cases e : x = y
    · subst e
      rw [beq_self_eq_true, Bool.true_and]
      by_cases e2 : a = b
      · rw [e2, decide_eq_true rfl, decide_eq_true rfl]
      · rw [decide_eq_false e2, decide_eq_false fun z => e2 (List.cons.inj z).2]
    · rw [beq_eq_false_iff_ne.mpr e, Bool.false_and, decide_eq_false fun z => e (List.cons.inj z).1]
end Wa
/-! generator expressions over the layer: the element is any expression with a rule -/
namespace Gx
open PySem PySem.Spec PyProof.Rows L2
/-- the context in which a generator expression's own code runs -/
abbrev gcx (X : Cx) (s : Shared) (H : Hp) (cenv : Env) (fp : List Addr) (A : Around) : Cx :=
  { X with A := A, s_0 := s, H_0 := H, env := cenv, outer := X.stack, stack := cenv :: X.stack, ex := fp, fn := fun _ => false, pn := [], xe := fun _ _ => False }
theorem clo_old {X : Cx} {pins : List (Addr × Obj)} {σ : L2.St} {H : Hp} {s : Shared} {scope : Scope} {own : List (Str × Nat)} (I : Inv X pins σ H s) (ok : BlkOk X.N X.env.scope scope own) {y : Str} {c : Addr}
    (e : (cloFrom X.env.cells scope.names []).lookup y = some c) : X.env.cells.lookup y = some c ∧ scope.names.lookup y = some .free ∧ c < s.heap.objs.size := by
  rcases cloFrom_mem (PySem.mem_of_lookup e) with z | ⟨m1, m2⟩
  · cases z
  · have hc : ∃ c, X.env.cells.lookup y = some c := (ok.free _ m1 rfl).elim (fun k => I.ok.has _ (.inl k)) fun k => I.ok.has _ (.inr k)
    obtain ⟨c', hc'⟩ := hc
    rw [hc'] at m2
    have m3 : c = c' := m2
    subst m3
    obtain ⟨v, z⟩ := I.cell _ _ hc'
    exact ⟨hc', ok.uniq _ m1, z.lt⟩
theorem clo_has {X : Cx} {pins : List (Addr × Obj)} {σ : L2.St} {H : Hp} {s : Shared} {scope : Scope} {own : List (Str × Nat)} (I : Inv X pins σ H s) (ok : BlkOk X.N X.env.scope scope own) {y : Str}
    (hl : scope.names.lookup y = some .free) : ∃ c, (cloFrom X.env.cells scope.names []).lookup y = some c := mem_lookup (cloFrom_has (cells := X.env.cells) (acc := []) (PySem.mem_of_lookup hl))
/-- the generator's own frame, laid -/
theorem gen_start {X : Cx} {pins : List (Addr × Obj)} {σ : L2.St} {H : Hp} {s s5 : Shared} {scope : Scope} {own : List (Str × Nat)} {fp : List Addr} {code : Value} {A : Around} {m0 : Str → Option Value}
    (I : Inv X pins σ H s) (ok : BlkOk X.N X.env.scope scope own) (nocell : ∀ y ∈ scope.names, y.2 ≠ .cell) (hN : X.N.Nodup) (hfp : ∀ b ∈ fp, FpOk X pins H b ∧ b < s.heap.objs.size)
    (hh : A.handled = none) (hf : A.frames = some (genEnv scope (cloFrom X.env.cells scope.names []) s.heap.objs.size code builtinsNs X.env :: X.stack))
    (kp : ∀ b o, s.heap.get? b = some o → s5.heap.get? b = some o) (hns : s5.heap.Ns s.heap.objs.size m0) (hos : s5.os = s.os) (hb : AllBare s5.gens) :
    Inv (gcx X s H (genEnv scope (cloFrom X.env.cells scope.names []) s.heap.objs.size code builtinsNs X.env) fp A) [] (wipe σ (own.map (·.2))) H s5 := by
  have old := fun {y : Str} {c : Addr} (e : (cloFrom X.env.cells scope.names []).lookup y = some c) => clo_old I ok e
  have kinds : ∀ {y : Str} {k : NameKind}, scope.names.lookup y = some k → k = .cell ∨ k = .free → scope.names.lookup y = some .free := fun {y k} h1 h2 => by
    rcases h2 with z | z
    · exact absurd z (nocell _ (PySem.mem_of_lookup h1))
    · rw [h1, z]
  have okG : (gcx X s H (genEnv scope (cloFrom X.env.cells scope.names []) s.heap.objs.size code builtinsNs X.env) fp A).Ok := {
    mod := I.ok.mod
    kind := ok.kind
    glob := I.ok.glob
    blt := rfl
    above := Nat.le_refl _
    inj := fun x y c e1 e2 => I.ok.inj x y c (old e1).1 (old e2).1
    has := fun x hx => clo_has I ok (hx.elim (fun z => kinds z (.inl rfl)) fun z => kinds z (.inr rfl))
    cab := fun x c z _ => Bool.noConfusion z
    hd := fun _ => hh
    frames := hf
    stk := .inr ⟨rfl, rfl⟩
    exf := fun b hb => ⟨Nat.ne_of_lt (hfp b hb).2, fun x c e => (hfp b hb).1.2.2.2.2.1 x c (old e).1⟩
    bs := I.bs
    bsz := Nat.le_trans I.ok.bsz I.sz
    noex := fun b o e hb => by
      rcases (hfp b hb).1.2.2.2.1 with z | z
      · exact I.ok.noex b o e z
      · have h1 := Nat.lt_of_lt_of_le (Heap.lt_size e) I.ok.bsz
        exact absurd (Nat.lt_of_lt_of_le h1 z) (Nat.lt_irrefl _)
    exfs := fun b hb z => (List.mem_cons.mp (I.stkSub b z)).elim (hfp b hb).1.2.1 (hfp b hb).1.2.2.1
    funs := I.stack
    frf := I.stkFree }
  exact {
    ok := okG
    os := hos
    bare := hb
    base := Un.kept kp
    loc := ⟨m0, hns, fun i y av e1 e2 e3 => by
      obtain ⟨e2, hne⟩ := wipe_some e2
      have e1 : X.N[i]? = some y := e1
      have hy : scope.names.lookup y = some .free := by
        have key : ∀ k, scope.names.lookup y = some k → k = .local → False := fun k hk z => by
          rcases ok.own _ (PySem.mem_of_lookup hk) (.inl z) with q | q
          · obtain ⟨p, hp, hpy⟩ := List.mem_map.mp q
            have e4 := ok.ix p hp
            have hpy : p.1 = y := hpy
            rw [hpy] at e4
            exact hne (List.mem_map.mpr ⟨p, hp, nodup_ix hN e4 e1⟩)
          · exact q (List.mem_of_getElem? e1)
        have e3 : Vis scope y := e3
        rcases e3 with z | z | z
        · exact (key _ z rfl).elim
        · exact kinds z (.inl rfl)
        · exact z
      obtain ⟨c, hc⟩ := clo_has I ok hy
      obtain ⟨m, hn, hl⟩ := I.loc
      have hv : Vis X.env.scope y := (ok.free _ (PySem.mem_of_lookup hy) rfl).elim (fun k => .inr (.inl k)) fun k => .inr (.inr k)
      obtain ⟨u, r, q⟩ := hl i y av e1 e2 hv
      refine ⟨u, r, .inr ⟨.inr hy, c, hc, ?_⟩⟩
      rcases q with ⟨k, _⟩ | ⟨_, c', e', z⟩
      · have k : X.env.scope.names.lookup y = some .local := k
        rcases ok.free _ (PySem.mem_of_lookup hy) rfl with k' | k'
        · rw [k] at k'; cases k'
        · rw [k] at k'; cases k'
      · rw [(old hc).1] at e'
        cases e'
        exact z.keeps kp⟩
    cell := fun y c e => by
      obtain ⟨v, z⟩ := I.cell y c (old e).1
      exact ⟨v, z.keeps kp⟩
    free := I.hok.fresh (Nat.le_refl _)
    freeC := fun y c e => I.freeC y c (old e).1
    pin := fun p hp => absurd (show p ∈ ([] : List (Addr × Obj)) from hp) (by simp)
    hok := I.hok.kept kp
    len := by rw [wipe_length]; exact I.len }
/-- while a generator sleeps its consumer may change what stands at cs, and lay new objects -/
structure Slept (cs : List Addr) (s s' : Shared) : Prop where
  os : s'.os = s.os
  bare : AllBare s'.gens
  keep : ∀ b o, b ∉ cs → s.heap.get? b = some o → s'.heap.get? b = some o
def Stood (cs : List Addr) (s : Shared) : Prop := ∀ b ∈ cs, ∃ o, s.heap.get? b = some o ∧ ∀ v, o.data ≠ .cell v
/-- the consumer's places: younger than the generator's frame -/
structure CsOk (G : Cx) (cs : List Addr) : Prop where
  young : ∀ b ∈ cs, G.s_0.heap.objs.size < b
  loc : G.env.locals = G.s_0.heap.objs.size
  cells : ∀ x c, G.env.cells.lookup x = some c → c < G.s_0.heap.objs.size
  pn : G.pn = []
theorem slept_inv {G : Cx} {σ : L2.St} {H : Hp} {s s' : Shared} {cs : List Addr} (I : Inv G [] σ H s) (c : CsOk G cs) (hH : ∀ b ∈ cs, H b = none) (z : Slept cs s s') : Inv G [] σ H s' := by
  obtain ⟨hh, g, d, t, o⟩ := s'
  obtain ⟨z1, z2, z3⟩ := z
  have ho : o = s.os := z1
  subst ho
  have nt : ∀ b u, H b = some u → b ∉ cs := fun b u e hb => by rw [hH b hb] at e; cases e
  refine I.step (g' := g) (t' := t) (d' := d) (h' := hh) (ch := cs) (fun b hb => ⟨.inr (Nat.le_of_lt (c.young b hb)), fun e => ?_, fun x k e q => ?_, fun p hp => ?_⟩) (fun b u _ _ hc e _ => z3 b u hc e) (fun b u _ _ hc e _ => ⟨u.slots, z3 b u hc e⟩) (fun _ _ _ _ n => n) (fun b u hc e => ⟨u, z3 b u hc e⟩)
    (fun _ _ e => e) (fun _ _ _ e => e) (fun b ps e => ⟨#[], by rw [e]; simp⟩) (fun m hm => ?_) (fun b u e => ?_) z2
  · have := c.young b hb
    rw [e, c.loc] at this
    exact Nat.lt_irrefl _ this
  · have h1 := c.young b hb
    have h2 := c.cells x k e
    rw [q] at h2
    exact absurd (Nat.lt_trans h1 h2) (Nat.lt_irrefl _)
  · rw [c.pn] at hp
    exact absurd hp (by simp)
  · obtain ⟨ob, es, ep, ho, r⟩ := hm
    refine ⟨ob, es, ep, z3 _ ob (fun hb => ?_) ho, r⟩
    have := c.young _ hb
    rw [c.loc] at this
    exact Nat.lt_irrefl _ this
  · refine (I.hok b u e).stay (fun k v hk q => z3 k v ?_ q) (fun _ q => q) fun _ _ q => q
    rcases hk with y | y
    · rw [y]; exact nt b u e
    · exact nt k _ y
theorem cs_fp {G : Cx} {σ : L2.St} {H : Hp} {s : Shared} {cs : List Addr} (I : Inv G [] σ H s) (c : CsOk G cs) (hH : ∀ b ∈ cs, H b = none) : ∀ b ∈ cs, FpOk G [] H b := fun b hb => by
  have yb := c.young b hb
  refine ⟨hH b hb, fun e => ?_, fun z => ?_, .inr (Nat.le_of_lt yb), fun x k e q => ?_, fun p hp => ?_⟩
  · rw [e, c.loc] at yb
    exact Nat.lt_irrefl _ yb
  · obtain ⟨_, o, ho, _⟩ := I.ok.funs.mem z
    exact absurd (Nat.lt_trans yb (Heap.lt_size ho)) (Nat.lt_irrefl _)
  · have h2 := c.cells x k e
    rw [q] at h2
    exact absurd (Nat.lt_trans yb h2) (Nat.lt_irrefl _)
  · rw [c.pn] at hp
    exact absurd hp (by simp)
end Gx
/-! the generator's loop -/
namespace Gx
open PySem PySem.Spec PyProof.Rows L2
theorem seg_yield_0 {M : Model} {A : Around} {R : GenEnd} {Y : Protocol} {s₀ s : Shared} {c : Code} {fs : List Frame} {v : Value} {g : Bool} {l : List Value} {k : Resume → Sem PySem.Fin} (hf : splitAtGen fs = none) (hg : g = false) (hd : fs.any Frame.guarded = false)
    (h : Y 0 s₀ v s fun _ _ => False) : Seg M A R Y 0 s₀ c (.yield v g l k) fs s := by
  rintro Γ p rfl _
  refine ⟨_, s, Runs.yield' fs hf, ?_, h⟩
  simp [End.quiet, hg, hd]
/-- what a turn of the generator's loop asks: W by the turn, a measure, what is out; on: what the consumer asks of an item (C: that it goes on); fin: of the end -/
def Turns (J : It) (g : TG) (tt : TT) (te : TE) (vs : List Nat) (σ : L2.St) (on : List V → V → Hp → Prop → Prop) (fin : List V → Hp → Prop) (W : Nat → Nat → List V → Hp → Prop) : Prop :=
  ∀ i m acc H, W i m acc H → (J.stop i H ∧ fin acc H) ∨ (J.go i H ∧ ∃ Nx : List V → Hp → Prop, (∀ acc' H', Nx acc' H' → ∃ m', m' < m ∧ W (i + 1) m' acc' H') ∧ ∀ x H', J.yld i H x H' → g x (wipe σ vs) H' fun σ2 H2 => wipe σ2 vs = wipe σ vs ∧ tt σ2 H2 fun b H3 =>
    if b = true then te σ2 H3 fun y H4 => on acc y H4 (Nx (acc ++ [y]) H4) else Nx acc H3)
def GY (G : Cx) (σw : L2.St) (cs : List Addr) (CR : List V → Shared → Prop) (on : List V → V → Hp → Prop → Prop) : Protocol := fun n s₀ v s kap =>
  ∃ (acc : List V) (y : V) (H : Hp) (C : Prop), RelV y v ∧ Inv G [] σw H s ∧ (∀ b ∈ cs, H b = none ∧ ∀ o, s₀.heap.get? b = some o → s.heap.get? b = some o) ∧ CR acc s ∧ on acc y H C ∧
    (C → ∀ s', Slept cs s s' → Stood cs s' → CR (acc ++ [y]) s' → kap (.send .none) s')
def GP (G : Cx) (σw : L2.St) (cs : List Addr) (CR : List V → Shared → Prop) (fin : List V → Hp → Prop) (_ : Nat) (s₀ s : Shared) : Prop :=
  ∃ (acc : List V) (H : Hp), Inv G [] σw H s ∧ (∀ b ∈ cs, H b = none ∧ ∀ o, s₀.heap.get? b = some o → s.heap.get? b = some o) ∧ CR acc s ∧ fin acc H
/-- the consumer's relation hangs on its own objects alone -/
def Stable (cs : List Addr) (CR : List V → Shared → Prop) : Prop := ∀ acc s s', (∀ b ∈ cs, ∀ o, s.heap.get? b = some o → s'.heap.get? b = some o) → CR acc s → CR acc s'
section
variable {X : Cx} {s3 : Shared} {H3 : Hp} {cenv : Env} {fp : List Addr} {B : Around} {it : Addr} {tn : Nat → Heap → Prop} {J : It} {elt tg iter : Expr} {ifs : List Expr} {scope : Scope} {pos : Pos} {g : TG} {tt : TT} {te : TE} {vs : List Nat} {σ : L2.St}
  {on : List V → V → Hp → Prop → Prop} {fin : List V → Hp → Prop} {W : Nat → Nat → List V → Hp → Prop} {cs : List Addr} {CR : List V → Shared → Prop}
theorem seg_gx (hc : X.calm = true) (T : Turn X.prog X.w X.K tg J fp it tn) (hco : cenv.scope.isCoroutine = false) (hfp : ∀ b ∈ fp, b < s3.heap.objs.size)
    (hg : PG (gcx X s3 H3 cenv fp (B.deeper cenv)) tg g) (ht : PTs (gcx X s3 H3 cenv fp (B.deeper cenv)) ifs tt) (he : PE (gcx X s3 H3 cenv fp (B.deeper cenv)) elt te)
    (K : CsOk (gcx X s3 H3 cenv fp (B.deeper cenv)) cs) (hCR : Stable cs CR) (turn : Turns J g tt te vs σ on fin W) :
    ∀ (m n i : Nat) (acc : List V) (H : Hp) (s₀ s : Shared), m ≤ n → Inv (gcx X s3 H3 cenv fp (B.deeper cenv)) ([] ++ pinsAt cs s₀.heap) (wipe σ vs) H s → Stood cs s₀ → tn i s.heap → (∀ b ∈ fp, H b = none) → CR acc s → W i m acc H →
      Seg (model X.prog X.w) B (fun n s₀ r s₁ => r = .ok .next ∧ GP (gcx X s3 H3 cenv fp (B.deeper cenv)) (wipe σ vs) cs CR fin n s₀ s₁) (GY (gcx X s3 H3 cenv fp (B.deeper cenv)) (wipe σ vs) cs CR on) n s₀
        (.compLoop (.GeneratorExp elt [⟨tg, iter, ifs, 0⟩] scope pos) 0 (.ref it) .none cenv) ((model X.prog X.w).den (.compLoop (.GeneratorExp elt [⟨tg, iter, ifs, 0⟩] scope pos) 0 (.ref it) .none cenv)) [] s := by
  intro m
  induction m using Nat.strongRecOn with
  | ind m ih =>
    intro n i acc H s₀ s hmn I hS st nfp hcr w
    have hov : B.over (.compLoop (.GeneratorExp elt [⟨tg, iter, ifs, 0⟩] scope pos) 0 (.ref it) .none cenv) [] = B.deeper cenv := rfl
    have csP : ∀ {p : Addr × Obj}, p ∈ [] ++ pinsAt cs s₀.heap → p.1 ∈ cs := fun {p} hp => (of_pinsAt (show p ∈ pinsAt cs s₀.heap from hp)).1
    have stat : ∀ {σ' : L2.St} {H' : Hp} {s' : Shared}, Inv (gcx X s3 H3 cenv fp (B.deeper cenv)) ([] ++ pinsAt cs s₀.heap) σ' H' s' → (∀ b ∈ fp, H' b = none) → ∀ b ∈ fp, FpOk (gcx X s3 H3 cenv fp (B.deeper cenv)) ([] ++ pinsAt cs s₀.heap) H' b := fun {σ' H' s'} I' hn b hb =>
      ⟨hn b hb, (I'.ok.exf b hb).1, I'.ok.exfs b hb, .inl hb, fun x c e => (I'.ok.exf b hb).2 x c e, fun p hp e => by
        have h1 := K.young _ (csP (show p ∈ [] ++ pinsAt cs s₀.heap from hp))
        rw [e] at h1
        exact absurd (Nat.lt_trans h1 (hfp b hb)) (Nat.lt_irrefl _)⟩
    -- what stands at cs is as it was
    have csK : ∀ {pl : List (Addr × Obj)} {σ' : L2.St} {H' : Hp} {s' : Shared}, Inv (gcx X s3 H3 cenv fp (B.deeper cenv)) ([] ++ pinsAt cs s₀.heap ++ pl) σ' H' s' → ∀ b ∈ cs, H' b = none ∧ ∀ o, s₀.heap.get? b = some o → s'.heap.get? b = some o := fun {pl σ' H' s'} I' b hb => by
      obtain ⟨o, e, _⟩ := hS b hb
      have hp : (b, o) ∈ ([] : List (Addr × Obj)) ++ ([] ++ pinsAt cs s₀.heap ++ pl) := List.mem_append_right _ (List.mem_append_left _ (List.mem_append_right _ (mem_pinsAt hb e)))
      obtain ⟨h1, h2, _⟩ := I'.pin (b, o) hp
      exact ⟨h2, fun o' e' => by rw [e] at e'; cases e'; exact h1⟩
    have crK : ∀ {pl : List (Addr × Obj)} {σ' : L2.St} {H' : Hp} {s' : Shared}, Inv (gcx X s3 H3 cenv fp (B.deeper cenv)) ([] ++ pinsAt cs s₀.heap ++ pl) σ' H' s' → CR acc s' := fun {pl σ' H' s'} I' =>
      hCR acc s s' (fun b hb o e => by
        obtain ⟨u, eu, _⟩ := hS b hb
        have h0 := ((csK (pl := []) (by rw [List.append_nil]; exact I) b hb).2 u eu)
        rw [e] at h0
        cases h0
        exact (csK I' b hb).2 _ eu) hcr
    show Seg _ B _ _ _ s₀ _ ((compTurn (.GeneratorExp elt [⟨tg, iter, ifs, 0⟩] scope pos) 0 (.ref it) .none cenv).onRaise (leaving cenv)) [] s
    have etree : compTurn (.GeneratorExp elt [⟨tg, iter, ifs, 0⟩] scope pos) 0 (.ref it) .none cenv = (do
        standAt iter.pos
        match ← pyNext (.ref it) with
        | none => pure (.done .next)
        | some v =>
          letOwnedTupleGo tg (.ref it) v
          assign tg cenv v
          let mut ok := true
          for c in ifs do
            if ok then ok ← isTrue c cenv (eval c cenv)
          if ok then
            (do let v ← eval elt cenv; standAt elt.pos; let _ ← yieldOut cenv v)
          again (.compLoop (.GeneratorExp elt [⟨tg, iter, ifs, 0⟩] scope pos) 0 (.ref it) .none cenv)) := by rfl
    rw [etree, Sem.onRaise_eq_wrap]
    refine seg_bind_wrap (wpAny_standAt ?_)
    rcases turn i m acc H w with ⟨stop, hfin⟩ | ⟨go, Nx, hNx, step⟩
    · refine seg_bind_wrap (wpAny_mono (T.done (gcx X s3 H3 cenv fp (B.deeper cenv)) rfl rfl rfl hc i _ s _ H (fun _ _ => False) I (stat I nfp) st stop) (fun r s6 hr => ?_) fun _ _ z => z.elim)
      obtain ⟨rfl, I6⟩ := hr
      have I6' : Inv (gcx X s3 H3 cenv fp (B.deeper cenv)) ([] ++ pinsAt cs s₀.heap ++ []) (wipe σ vs) H s6 := by rw [List.append_nil]; exact I6
      exact seg_end (.ok .next) ⟨rfl, acc, H, I6.unpinned, fun b hb => csK I6' b hb, crK I6', hfin⟩
    · refine seg_bind_wrap (wpAny_mono (T.item (gcx X s3 H3 cenv fp (B.deeper cenv)) rfl rfl rfl hc i _ s _ H (fun _ _ => False) I (stat I nfp) st go) (fun r s6 hr => ?_) fun _ _ z => z.elim)
      obtain ⟨u, rfl, h6⟩ := hr
      refine seg_bind_wrap (wpAny_mono h6 (fun _ s7 h7 => ?_) fun _ _ z => z.elim)
      obtain ⟨x, H7, I7, r7, y7, st7, n7⟩ := h7
      have I7' := I7.pinned (stat I7 n7) (T.obj _ _ st7)
      refine seg_bind_wrap (wpAny_mono (hg.run _ s7 _ H7 x u _ I7' r7 (step x H7 y7)) (fun _ s8 h8 => ?_) fun _ _ z => z.elim)
      obtain ⟨σ8, H8, I8, hw8, q8⟩ := h8
      refine seg_bind_wrap (wpAny_mono (ht.run _ s8 σ8 H8 _ I8 q8) (fun b s9 h9 => ?_) fun _ _ z => z.elim)
      obtain ⟨H9, I9, q9⟩ := h9
      have hl8 : (wipe σ vs).length = σ8.length := by rw [← hw8, wipe_length]
      have weak8 : ∀ {pl : List (Addr × Obj)} {H' : Hp} {s' : Shared}, Inv (gcx X s3 H3 cenv fp (B.deeper cenv)) pl σ8 H' s' → Inv (gcx X s3 H3 cenv fp (B.deeper cenv)) pl (wipe σ vs) H' s' := fun I' => I'.weak hl8 fun j v e => by
        rw [← hw8] at e
        exact (wipe_some e).1
      have fpK : ∀ {H' : Hp} {s' : Shared}, Inv (gcx X s3 H3 cenv fp (B.deeper cenv)) ([] ++ pinsAt cs s₀.heap ++ pinsAt fp s7.heap) σ8 H' s' → ∀ b ∈ fp, H' b = none ∧ ∀ o, s7.heap.get? b = some o → s'.heap.get? b = some o := fun {H' s'} I' b hb => by
        obtain ⟨o, e, _⟩ := T.obj _ _ st7 b hb
        obtain ⟨h1, h2, _⟩ := I'.pin (b, o) (List.mem_append_right _ (List.mem_append_right _ (mem_pinsAt hb e)))
        exact ⟨h2, fun o' e' => by rw [e] at e'; cases e'; exact h1⟩
      cases b with
      | false =>
        simp only [Bool.false_eq_true, if_false] at q9 ⊢
        obtain ⟨m', hm, w'⟩ := hNx _ _ q9
        exact seg_again rfl (ih m' hm n (i + 1) acc H9 s₀ s9 (by omega) (weak8 I9.unpinned) hS (T.keep _ _ _ st7 fun b hb o e => (fpK I9 b hb).2 o e) (fun b hb => (fpK I9 b hb).1) (crK I9) w')
      | true =>
        simp only [if_true] at q9 ⊢
        have hyo : ∀ v, yieldOut cenv v = yieldValue v := fun v => by simp only [yieldOut, hco, Bool.false_eq_true, if_false]
        simp only [hyo]
        rw [Sem.bind_eq_wrap', Sem.bind_eq_wrap', Sem.wrap_wrap, Sem.wrap_wrap]
        refine seg_wrap (wpAny_mono (he.run _ s9 σ8 H9 _ I9 q9) (fun z s10 h10 => ?_) fun _ _ z => z.elim)
        obtain ⟨yv, H10, I10, r10, q10⟩ := h10
        cases n with
        | zero =>
          refine seg_at (seg_yield_0 rfl rfl rfl ⟨acc, yv, H10, Nx (acc ++ [yv]) H10, r10, weak8 I10.unpinned.unpinned, fun b hb => csK I10 b hb, crK I10, q10, fun nx s' _ _ _ => ?_⟩)
          obtain ⟨m', hm, _⟩ := hNx _ _ nx
          exact absurd hm (by omega)
        | succ n =>
          refine seg_at (seg_yield rfl rfl rfl ⟨acc, yv, H10, Nx (acc ++ [yv]) H10, r10, weak8 I10.unpinned.unpinned, fun b hb => csK I10 b hb, crK I10, q10, fun nx s' hsl hst' hcr' => ?_⟩)
          obtain ⟨m', hm, w'⟩ := hNx _ _ nx
          have hH10 : ∀ b ∈ cs, H10 b = none := fun b hb => (csK I10 b hb).1
          have I11 := slept_inv (weak8 I10.unpinned.unpinned) K hH10 hsl
          have I12 := I11.pinned (cs_fp I11 K hH10) hst'
          have ncs : ∀ b ∈ fp, b ∉ cs := fun b hb z => absurd (Nat.lt_trans (hfp b hb) (K.young b z)) (Nat.lt_irrefl _)
          exact seg_again rfl (ih m' hm n (i + 1) (acc ++ [yv]) H10 s' s' (by omega) I12 hst' (T.keep _ _ _ st7 fun b hb o e => hsl.keep b o (ncs b hb) ((fpK I10 b hb).2 o e)) (fun b hb => (fpK I10 b hb).1) hcr' w')
end
end Gx
/-! the generator made, asleep, asked -/
namespace Gx
open PySem PySem.Spec PyProof.Rows L2
/-- the generator that was made: at a, with the number gn; s4: ahead of its frame -/
structure Made (X : Cx) (pins : List (Addr × Obj)) (σ : L2.St) (elt tg iter : Expr) (ifs : List Expr) (scope : Scope) (gpos : Pos) (J : It) (H2 : Hp) (a gn : Nat) (s4 s5 : Shared) (cenv : Env) (fp : List Addr) (it : Addr) (tn : Nat → Heap → Prop) : Prop where
  inv : Inv X pins σ H2 s4
  turn : Turn X.prog X.w X.K tg J fp it tn
  at0 : tn 0 s4.heap
  fpok : ∀ b ∈ fp, FpOk X pins H2 b ∧ b < s4.heap.objs.size
  env : ∃ code, cenv = genEnv scope (cloFrom X.env.cells scope.names []) s4.heap.objs.size code builtinsNs X.env
  kept : ∀ b o, s4.heap.get? b = some o → s5.heap.get? b = some o
  ns : ∃ m0, s5.heap.Ns s4.heap.objs.size m0
  os : s5.os = s4.os
  gens : s5.gens = s4.gens.push (.fresh (.compStart (.GeneratorExp elt [⟨tg, iter, ifs, 0⟩] scope gpos) 0 (.ref it) .none cenv))
  num : gn = s4.gens.size
  isgen : s5.heap.IsGen a gn
  young : s4.heap.objs.size < a
  size : s5.heap.objs.size = a + 1
theorem gx_eval {X : Cx} {pins : List (Addr × Obj)} {σ : L2.St} {H : Hp} {s : Shared} {c P : Addr} {elt tg iter : Expr} {ifs : List Expr} {gpos : Pos} {scope : Scope} {own : List (Str × Nat)} {wi : TI} {k : Nat} {Q' : Value → Shared → Prop} {R : It → Hp → Prop}
    (hr : Room k X.A) (TB : GxR.TabB X.base X.mg c P) (hcode : X.env.code = .ref c) (hco : scope.isCoroutine = false) (ok : BlkOk X.N X.env.scope scope own) (nocell : ∀ y ∈ scope.names, y.2 ≠ .cell) (dot : scope.names.lookup (".0" : Str) = some NameKind.local)
    (hi : PI X tg iter wi) (hs : ∀ v, genFold iter X.env v = pure v) (I : Inv X pins σ H s) (h : wi σ H fun J H1 => GxR.TabG H1 P ∧ ∀ H2, GxR.Tabbed P H1 H2 → R J H2)
    (hQ : ∀ J H2 a gn s4 s5 cenv fp it tn, Made X pins σ elt tg iter ifs scope gpos J H2 a gn s4 s5 cenv fp it tn → R J H2 → Q' (.ref a) s5) :
    wpAny (model X.prog X.w) X.A (eval (.GeneratorExp elt [⟨tg, iter, ifs, 0⟩] scope gpos) X.env) Q' X.xe s := by
  have hfree : ∀ y ∈ scope.names, y.2 = .free → ∃ c, X.env.cells.lookup y.1 = some c := fun y hy e => (ok.free y hy e).elim (fun z => I.ok.has _ (.inl z)) fun z => I.ok.has _ (.inr z)
  refine wpAny_GeneratorExp_make hco (closure_ok hfree) nocell dot ok.kind (by have := hr.dp; omega) ?_ hs
  refine thn (hi.run pins s σ H _ I h) fun xv s1 hx => thn hx fun itv s2 h2 => ?_
  obtain ⟨it, fp, tn, J, H1, rfl, I1, T, st, f1, ⟨ps, hP, ht⟩, hR⟩ := h2
  have hPs : s2.heap.get? P = some { cls := .none, data := .fields ps } := I1.hok P _ hP
  have cd : PySem.W.CodeHd s2.heap c P := TB.code.keeps I1.bk
  have fpP : ∀ b ∈ fp, b ≠ P := fun b hb e => by
    have := (f1 b hb).1
    rw [e, hP] at this
    cases this
  have cont : ∀ (code : Value) (h3 : Heap) (tk : Nat) (ps' : Array Value), Heap.ExtBut P s2.heap h3 → s2.heap.objs.size ≤ h3.objs.size → h3.get? P = some { cls := .none, data := .fields ps' } → (∃ more, ps' = ps ++ more) → TriplesOk ps'.toList →
      wpAny (model X.prog X.w) X.A (builtinsFor X.env.globals X.env.builtins) (fun bi s₄ => ∀ h', h'.Ns s₄.heap.objs.size (fun y => if y = ".0" then some (.ref it) else none) → Heap.SameBut s₄.heap.objs.size (s₄.heap.push { cls := .type "frame", data := .dict #[] }) h' →
          Q' (.ref h'.objs.size) { s₄ with
            gens := s₄.gens.push (.fresh (.compStart (.GeneratorExp elt [⟨tg, iter, ifs, 0⟩] scope gpos) 0 (.ref it) .none (genEnv scope (cloFrom X.env.cells scope.names []) s₄.heap.objs.size code bi X.env))),
            toks := s₄.toks + 1 + 1 + 1,
            heap := h'.push { cls := .type "generator", data := .fields #[.int s₄.gens.size 0, .str "<genexpr>" (s₄.toks + 1), .str (X.env.qual ++ "<genexpr>") (s₄.toks + 1 + 1)] } }) X.xe { s2 with heap := h3, toks := tk } := by
    intro code h3 tk ps' hx hsz hP3 hmore ht3
    obtain ⟨bm, ob, e1, e2, e3, e4, e5, e6, e7, e8⟩ := TB.bm
    have keep3 : ∀ b u, b ≠ P → s2.heap.get? b = some u → h3.get? b = some u := fun b u hb e => hx b u hb e
    refine wpAny_builtinsFor (m := X.mg) (by rw [I1.ok.glob]; exact (I1.mod.glob.keeps I1.bk).extBut hx TB.gP) e1 e2 (keep3 _ _ e4 (I1.bk _ _ e5)) e6 e7 e8 ?_
    intro h' hn' hs'
    obtain ⟨more, em⟩ := hmore
    have J4 := GxR.inv_tab (more := more) (h' := h3) (g' := s2.gens) (d' := s2.drawn) (t' := tk) I1 hP (fun b u hb e => keep3 b u hb e) (by rw [← em]; exact hP3) I1.bare
    have hT2 : GxR.Tabbed P H1 (upd H1 P (.tbl (ps ++ more))) := ⟨⟨ps ++ more, upd_same, by rw [← em]; exact ht3⟩, fun b hb => upd_ne hb⟩
    have hsz' : h'.objs.size = h3.objs.size + 1 := by rw [hs'.1, Heap.size_push]
    have kept1 : ∀ b o, h3.get? b = some o → h'.get? b = some o := fun b o e => hs'.extBut b o (Nat.ne_of_lt (Heap.lt_size e)) (Heap.get?_push_of_some _ e)
    refine hQ J _ h'.objs.size s2.gens.size { s2 with heap := h3, toks := tk } _ _ fp it tn {
      inv := J4
      turn := T
      at0 := T.keep _ _ _ st fun b hb o e => keep3 b o (fpP b hb) e
      fpok := fun b hb => ⟨⟨by rw [upd_ne (fpP b hb)]; exact (f1 b hb).1, (f1 b hb).2⟩, by
        obtain ⟨o, e, _⟩ := T.obj _ _ st b hb
        exact Nat.lt_of_lt_of_le (Heap.lt_size e) hsz⟩
      env := ⟨code, rfl⟩
      kept := fun b o e => Heap.get?_push_of_some _ (kept1 b o e)
      ns := ⟨_, hn'.push _⟩
      os := rfl
      gens := rfl
      num := rfl
      isgen := ⟨_, _, _, Heap.get?_push_size _ rfl, rfl, rfl, rfl⟩
      young := by show h3.objs.size < h'.objs.size; omega
      size := by show (h'.push _).objs.size = _; rw [Heap.size_push] } (hR _ hT2)
  refine ⟨I1.nolimit, ?_⟩
  cases hf : codeAmong gpos ps.toList with
  | none =>
    refine wpAny_genexprCodeX hcode (cd.code hPs ht) (cd.tab hPs) hf fun c' h' tk hx hge hlt hco' _ htab' _ => ?_
    obtain ⟨o1, vs, f1, tf, fl, tg, inF, tx, tt, op, _, _, _, _, _, _, _, _, _, htr, _⟩ := hco'
    exact cont _ h' tk _ hx (Nat.le_trans hge (Nat.le_of_lt hlt)) htab'.2 ⟨_, rfl⟩ htr
  | some cv =>
    refine wpAny_genexprCode_hit hcode (cd.code hPs ht) hf ?_
    exact cont cv s2.heap s2.toks ps (Heap.ExtBut.refl _ _) (Nat.le_refl _) hPs ⟨#[], by simp⟩ ht
/-- the generator number gn sleeps; n: how often it may still hand out -/
def Asleep (M : Model) (B : Around) (G : Cx) (σw : L2.St) (cs : List Addr) (CR : List V → Shared → Prop) (on : List V → V → Hp → Prop → Prop) (fin : List V → Hp → Prop) (gn n : Nat) (acc : List V) (s : Shared) : Prop :=
  ∃ gs, s.gens[gn]? = some gs ∧ ∀ s', Slept cs s s' → Stood cs s' → CR acc s' → gs.Goes M B (fun n s₀ r s₁ => r = .ok .next ∧ GP G σw cs CR fin n s₀ s₁) (GY G σw cs CR on) n (.send .none) s'
theorem setg_other (s : Shared) (g : Nat) (x : GenState) (h : AllBare s.gens) (hx : x.bare = true) : AllBare (s.setGen g x).gens := fun y hy => by
  have e : (s.setGen g x).gens = s.gens.setIfInBounds g x := rfl
  rw [e] at hy
  obtain ⟨i, hi, rfl⟩ := Array.mem_iff_getElem.mp hy
  have hi2 : i < s.gens.size := by
    rw [Array.size_setIfInBounds] at hi
    exact hi
  rw [Array.getElem_setIfInBounds hi2]
  split
  · exact hx
  · exact h _ (Array.getElem_mem hi2)
theorem slept_set {cs : List Addr} {s s' : Shared} {g : Nat} {x : GenState} (z : Slept cs (s.setGen g x) s') : Slept cs s s' := ⟨z.os, z.bare, z.keep⟩
section
variable {X : Cx} {pins : List (Addr × Obj)} {σ : L2.St} {elt tg iter : Expr} {ifs : List Expr} {scope : Scope} {gpos : Pos} {J : It} {H2 : Hp} {a gn : Nat} {s4 s5 : Shared} {cenv : Env} {fp : List Addr} {it : Addr} {tn : Nat → Heap → Prop} {own : List (Str × Nat)}
  {g : TG} {tt : TT} {te : TE} {on : List V → V → Hp → Prop → Prop} {fin : List V → Hp → Prop} {W : Nat → Nat → List V → Hp → Prop} {cs : List Addr} {CR : List V → Shared → Prop} {B : Around}
theorem made_cs (Z : Made X pins σ elt tg iter ifs scope gpos J H2 a gn s4 s5 cenv fp it tn) (ok : BlkOk X.N X.env.scope scope own) (hy : ∀ b ∈ cs, s4.heap.objs.size < b) : CsOk (gcx X s4 H2 cenv fp (B.deeper cenv)) cs := by
  obtain ⟨code, rfl⟩ := Z.env
  exact ⟨hy, rfl, fun x c e => (clo_old Z.inv ok e).2.2, rfl⟩
theorem made_asleep (Z : Made X pins σ elt tg iter ifs scope gpos J H2 a gn s4 s5 cenv fp it tn) (hc : X.calm = true) (hco : scope.isCoroutine = false) (ok : BlkOk X.N X.env.scope scope own) (nocell : ∀ y ∈ scope.names, y.2 ≠ .cell) (hN : X.N.Nodup)
    (hB : B.handled = none) (hBf : B.frames = X.A.frames)
    (hg : PG (gcx X s4 H2 cenv fp (B.deeper cenv)) tg g) (ht : PTs (gcx X s4 H2 cenv fp (B.deeper cenv)) ifs tt) (he : PE (gcx X s4 H2 cenv fp (B.deeper cenv)) elt te)
    (hy : ∀ b ∈ cs, s4.heap.objs.size < b) (hCR : Stable cs CR) (turn : Turns J g tt te (own.map (·.2)) σ on fin W) {m0 : Nat} (w0 : W 0 m0 [] H2) {s : Shared} (hs : Slept cs s5 s) (hsg : s.gens[gn]? = s5.gens[gn]?) :
    Asleep (model X.prog X.w) B (gcx X s4 H2 cenv fp (B.deeper cenv)) (wipe σ (own.map (·.2))) cs CR on fin gn m0 [] s := by
  refine ⟨.fresh (.compStart (.GeneratorExp elt [⟨tg, iter, ifs, 0⟩] scope gpos) 0 (.ref it) .none cenv), by rw [hsg, Z.gens, Z.num]; exact Array.getElem?_push_size .., fun s' hsl hst hcr => ⟨rfl, ?_⟩⟩
  have K := made_cs (B := B) Z ok hy
  obtain ⟨m1, hns⟩ := Z.ns
  have hco' : cenv.scope.isCoroutine = false := by
    obtain ⟨code, e⟩ := Z.env
    rw [e]
    exact hco
  have bare5 : AllBare s5.gens := by
    rw [Z.gens]
    exact Z.inv.bare.push rfl
  have I5 : Inv (gcx X s4 H2 cenv fp (B.deeper cenv)) [] (wipe σ (own.map (·.2))) H2 s5 := by
    obtain ⟨code, rfl⟩ := Z.env
    exact gen_start Z.inv ok nocell hN Z.fpok hB (by show Option.map _ B.frames = _; rw [hBf, Z.inv.ok.frames]; rfl) Z.kept hns Z.os bare5
  have hH : ∀ b ∈ cs, H2 b = none := fun b hb => Z.inv.hok.fresh (Nat.le_of_lt (hy b hb))
  have I6 := slept_inv (slept_inv I5 K hH hs) K hH hsl
  have ncs : ∀ b ∈ fp, b ∉ cs := fun b hb z => absurd (Nat.lt_trans (Z.fpok b hb).2 (hy b z)) (Nat.lt_irrefl _)
  have tn6 : tn 0 s'.heap := Z.turn.keep _ _ _ Z.at0 fun b hb o e => hsl.keep b o (ncs b hb) (hs.keep b o (ncs b hb) (Z.kept b o e))
  have loop := seg_gx (iter := iter) (scope := scope) (pos := gpos) hc Z.turn hco' (fun b hb => (Z.fpok b hb).2) hg ht he K hCR turn m0 m0 0 [] H2 s' s' (Nat.le_refl _) (I6.pinned (cs_fp I6 K hH) hst) hst tn6 (fun b hb => (Z.fpok b hb).1.1) hcr w0
  show Seg _ B _ _ _ s' _ ((compStart (.GeneratorExp elt [⟨tg, iter, ifs, 0⟩] scope gpos) 0 (.ref it) .none cenv).onRaise (leaving cenv)) [] s'
  unfold compStart
  rw [Sem.onRaise_eq_wrap]
  show Seg _ B _ _ _ s' _ ((ask >>= _).wrap _ _ _ _) [] s'
  refine seg_bind_wrap (wpAny_askSetting ?_)
  split
  · exact seg_again rfl loop
  · refine seg_bind_wrap (wpAny_rule ?_)
    show Seg _ B _ _ _ s' _ ((standAt iter.pos >>= _).wrap _ _ _ _) [] s'
    refine seg_bind_wrap (wpAny_standAt ?_)
    exact seg_bind_wrap (Z.turn.self _ 0 s' _ _ tn6 (seg_again rfl loop))
/-- back in the def's own frame -/
theorem made_back (Z : Made X pins σ elt tg iter ifs scope gpos J H2 a gn s4 s5 cenv fp it tn) {σw : L2.St} {H : Hp} {s s' : Shared} (I : Inv (gcx X s4 H2 cenv fp (B.deeper cenv)) [] σw H s) (hos : s'.os = s.os) (hb : AllBare s'.gens) (hk : ∀ b o, s.heap.get? b = some o → s'.heap.get? b = some o) : Inv X pins σ H s' :=
  Z.inv.call' (ch := fp) (hos.trans I.os) (I.base.trans (Un.kept hk)) (I.hok.kept hk) hb fun b hb => ⟨(Z.fpok b hb).1.2.2.2.1, (Z.fpok b hb).1.2.1, (Z.fpok b hb).1.2.2.2.2.1, (Z.fpok b hb).1.2.2.2.2.2⟩
/-- the consumer asks for the next item -/
theorem gx_next (Z : Made X pins σ elt tg iter ifs scope gpos J H2 a gn s4 s5 cenv fp it tn) {σw : L2.St} {A1 : Around} {n : Nat} {acc : List V} {s : Shared} {Q : Option Value → Shared → Prop} {E : Value → Shared → Prop}
    (hh : A1.handled = none) (hroom : A1.depth < recursionLimit) (hl : s.heap.NoLimit) (hgen : s.heap.IsGen a gn) (hb : AllBare s.gens) (S : Asleep (model X.prog X.w) A1.in1 (gcx X s4 H2 cenv fp (A1.in1.deeper cenv)) σw cs CR on fin gn n acc s) (hst : Stood cs s) (hcr : CR acc s)
    (hY : ∀ v y acc' H C s', RelV y v → Inv X pins σ H s' → AllBare s'.gens → (∀ b ∈ cs, ∀ o, s.heap.get? b = some o → s'.heap.get? b = some o) → CR acc' s' → on acc' y H C →
      (C → ∀ s'', Slept cs s' s'' → s''.gens[gn]? = s'.gens[gn]? → Stood cs s'' → CR (acc' ++ [y]) s'' → 0 < n ∧ Asleep (model X.prog X.w) A1.in1 (gcx X s4 H2 cenv fp (A1.in1.deeper cenv)) σw cs CR on fin gn (n - 1) (acc' ++ [y]) s'') → Q (some v) s')
    (hP : ∀ acc' H s', Inv X pins σ H s' → (∀ b ∈ cs, ∀ o, s.heap.get? b = some o → s'.heap.get? b = some o) → CR acc' s' → fin acc' H → Q none s') (hCR : Stable cs CR) :
    wpAny (model X.prog X.w) A1 (pyNext (.ref a)) Q E s := by
  obtain ⟨gs, hgs, hgo⟩ := S
  have hlt : gn < s.gens.size := by
    rcases Nat.lt_or_ge gn s.gens.size with z | z
    · exact z
    · rw [Array.getElem?_eq_none z] at hgs; cases hgs
  refine GenW.wpAny_gsz (n := gn + 1) hlt ?_
  refine wpAny_pyNext_genexpQ (P := GP (gcx X s4 H2 cenv fp (A1.in1.deeper cenv)) σw cs CR fin) (Y := GY (gcx X s4 H2 cenv fp (A1.in1.deeper cenv)) σw cs CR on) (n := n) hh hl hroom hgen hgs (hgo (s.setGen gn .running) ⟨rfl, setg_other s gn _ hb rfl, fun b o _ e => e⟩ hst (hCR acc s _ (fun _ _ _ e => e) hcr)) (fun v s₁ gs' hbs hv => ?_) (fun s₁ hp h' hkk => ?_)
  · intro hsz
    obtain ⟨acc', y, H, C, rv, I, hk, cr', ho, kap⟩ := hv
    have b1 := setg_other s₁ gn gs' I.bare hbs
    refine hY v y acc' H C _ rv (made_back Z I rfl b1 fun b o e => e) b1 (fun b hb o e => (hk b hb).2 o e) (hCR acc' s₁ _ (fun _ _ _ e => e) cr') ho fun hC s'' hsl hge hsd hcr2 => ?_
    have hsz' : gn < s₁.gens.size := by
      rw [GenW.setGen_size] at hsz
      exact hsz
    have e1 : (s₁.setGen gn gs').gens[gn]? = some gs' := by
      show (s₁.gens.setIfInBounds gn gs')[gn]? = some gs'
      rw [Array.getElem?_setIfInBounds_self_of_lt hsz']
    cases n with
    | zero =>
      exact (kap hC s'' (slept_set hsl) hsd hcr2).elim
    | succ n => exact ⟨Nat.succ_pos _, gs', hge.trans e1, fun s3 z1 z2 z3 => kap hC s3 ⟨z1.os.trans hsl.os, z1.bare, fun b o nb e => z1.keep b o nb (hsl.keep b o nb e)⟩ z2 z3⟩
  · intro _
    obtain ⟨acc', H, I, hk, cr', hf⟩ := hp
    refine hP acc' H _ (made_back Z I rfl (setg_other s₁ gn .finished I.bare rfl) fun b o e => hkk b o e) (fun b hb o e => hkk b o ((hk b hb).2 o e)) (hCR acc' s₁ _ (fun _ _ o e => hkk _ o e) cr') hf
end
end Gx
/-! all, sum and join over a generator expression -/
namespace Gx
open PySem PySem.Spec PyProof.Rows L2
/-- the rules of a generator expression's parts, in whatever frame it runs -/
structure Parts (X : Cx) (k : Nat) (c P : Addr) (elt tg : Expr) (ifs : List Expr) (scope : Scope) (own : List (Str × Nat)) (g : TG) (tt : TT) (te : TE) : Prop where
  tab : GxR.TabB X.base X.mg c P
  code : X.env.code = .ref c
  co : scope.isCoroutine = false
  ok : BlkOk X.N X.env.scope scope own
  nocell : ∀ y ∈ scope.names, y.2 ≠ .cell
  dot : scope.names.lookup (".0" : Str) = some NameKind.local
  calm : X.calm = true
  nd : X.N.Nodup
  pg : ∀ (s : Shared) (H : Hp) (C : Addr) (cl : List (Str × Addr)) (cd : Value) (fp : List Addr) (A : Around), PG (gcx X s H (genEnv scope cl C cd builtinsNs X.env) fp A) tg g
  pt : ∀ (s : Shared) (H : Hp) (C : Addr) (cl : List (Str × Addr)) (cd : Value) (fp : List Addr) (A : Around), Room k A → PTs (gcx X s H (genEnv scope cl C cd builtinsNs X.env) fp A) ifs tt
  pe : ∀ (s : Shared) (H : Hp) (C : Addr) (cl : List (Str × Addr)) (cd : Value) (fp : List Addr) (A : Around), Room k A → PE (gcx X s H (genEnv scope cl C cd builtinsNs X.env) fp A) elt te
/-- the reading: the table may have grown; then the turns -/
def tGx (P : Addr) (wi : TI) (g : TG) (tt : TT) (te : TE) (vs : List Nat) (on : VK → List V → V → Hp → Prop → Prop) (fin : VK → List V → Hp → Prop) : TE := fun σ H Q => wi σ H fun J H1 => GxR.TabG H1 P ∧ ∀ H2, GxR.Tabbed P H1 H2 →
  ∃ W : Nat → Nat → List V → Hp → Prop, (∃ m, W 0 m [] H2) ∧ Turns J g tt te vs σ (on Q) (fin Q) W
def onAll : VK → List V → V → Hp → Prop → Prop := fun Q _ y H C => ∃ b, y = .bl b ∧ if b = true then C else Q (.bl false) H
def finAll : VK → List V → Hp → Prop := fun Q _ H => Q (.bl true) H
def isum : List V → Int
  | [] => 0
  | .int i :: r => i + isum r
  | _ :: r => isum r
theorem isum_app : ∀ (a : List V) (i : Int), isum (a ++ [.int i]) = isum a + i
  | [], i => by show i + 0 = 0 + i; omega
  | .int j :: r, i => by show j + isum (r ++ [.int i]) = j + isum r + i; rw [isum_app r i]; omega
  | .non :: r, i => isum_app r i
  | .bl _ :: r, i => isum_app r i
  | .str _ :: r, i => isum_app r i
  | .byt _ :: r, i => isum_app r i
  | .flt _ :: r, i => isum_app r i
  | .ref _ :: r, i => isum_app r i
  | .ty _ :: r, i => isum_app r i
def onSum : VK → List V → V → Hp → Prop → Prop := fun _ acc y _ C => ∃ j, y = .int j ∧ (-(2 ^ 63) ≤ j ∧ j < 2 ^ 63) ∧ (-(2 ^ 63) ≤ isum acc + j ∧ isum acc + j < 2 ^ 63) ∧ C
def finSum : VK → List V → Hp → Prop := fun Q acc H => Q (.int (isum acc)) H
def onStr : VK → List V → V → Hp → Prop → Prop := fun _ acc y _ C => (∃ x, y = .str x) ∧ acc.length < sizeLine ∧ C
def finStr (sep : Str) : VK → List V → Hp → Prop := fun Q acc H => ∃ ws : List Str, acc = ws.map V.str ∧ JoinOk sep ws = true ∧ Q (.str (Txt.join sep ws)) H
section
variable {X : Cx} {pins : List (Addr × Obj)} {σ : L2.St} {elt tg iter : Expr} {ifs : List Expr} {scope : Scope} {gpos : Pos} {J : It} {H2 : Hp} {a gn : Nat} {s4 s5 : Shared} {cenv : Env} {fp : List Addr} {it : Addr} {tn : Nat → Heap → Prop} {own : List (Str × Nat)}
  {g : TG} {tt : TT} {te : TE} {k : Nat} {c P : Addr} {Q : VK} {W : Nat → Nat → List V → Hp → Prop}
theorem slept_keep {cs : List Addr} {s : Shared} {h' : Heap} {t' : Nat} (hb : AllBare s.gens) (hk : ∀ b o, b ∉ cs → s.heap.get? b = some o → h'.get? b = some o) : Slept cs s { s with heap := h', toks := t' } := ⟨rfl, hb, hk⟩
theorem gen_stood {a gn : Nat} {s : Shared} (h : s.heap.IsGen a gn) : ∃ o, s.heap.get? a = some o ∧ ∀ v, o.data ≠ .cell v := by
  obtain ⟨o, nm, qn, e, _, d, _⟩ := h
  exact ⟨o, e, fun v z => by rw [d] at z; cases z⟩
theorem gen_at {a gn : Nat} {s s' : Shared} (h : s.heap.IsGen a gn) (k : ∀ o, s.heap.get? a = some o → s'.heap.get? a = some o) : s'.heap.IsGen a gn := by
  obtain ⟨o, nm, qn, e, r⟩ := h
  exact ⟨o, nm, qn, k o e, r⟩
theorem all_loop (Z : Made X pins σ elt tg iter ifs scope gpos J H2 a gn s4 s5 cenv fp it tn) (hr : Room (k + 3) X.A) {σw : L2.St} : ∀ (n : Nat) (acc : List V) (s : Shared), s.heap.NoLimit → AllBare s.gens → s.heap.IsGen a gn →
    Asleep (model X.prog X.w) X.A.in1.in1 (gcx X s4 H2 cenv fp (X.A.in1.in1.deeper cenv)) σw [a] (fun _ s => s.heap.IsGen a gn) (onAll Q) (finAll Q) gn n acc s →
    codeAny (model X.prog X.w) X.A (.builtin "all.loop" ⟨[.ref a], []⟩) (fun r s' => ∃ v x H', r = .ok (.ret v) ∧ Inv X pins σ H' s' ∧ RelV x v ∧ Q x H') s := by
  have stab : Stable [a] (fun _ s => s.heap.IsGen a gn) := fun _ s s' hk h => gen_at h fun o e => hk a List.mem_cons_self o e
  intro n
  induction n with
  | zero =>
    intro acc s hl hb hg S
    refine codeAny_builtin F.entry_all_loop ?_
    rw [Around.under_plainId F.plain_all_loop _]
    show wpAny _ X.A.in1 (pyNext (.ref a) >>= _) _ _ s
    refine wpAny_bind (gx_next (A1 := X.A.in1) Z hr.hd (by have := hr.dp; show X.A.depth < _; omega) hl hg hb S (fun b hb => by rw [List.mem_singleton.mp hb]; exact gen_stood hg) hg (fun v y acc' H C s' rv I b' hk cr ho go => ?_) (fun acc' H s' I hk cr hf => ?_) stab)
    · obtain ⟨b, rfl, q⟩ := ho
      obtain rfl : v = Value.bool b := rv
      refine wpAny_bind (wpAny_holding (wpAny_truthy_bool ?_))
      refine wpAny_bind (wpAny_letGo ?_)
      cases b with
      | true =>
        rw [if_pos rfl] at q
        obtain ⟨z, _⟩ := go q s' ⟨rfl, b', fun _ _ _ e => e⟩ rfl (fun b hb => by rw [List.mem_singleton.mp hb]; exact gen_stood cr) cr
        exact absurd z (Nat.lt_irrefl _)
      | false =>
        rw [if_neg Bool.false_ne_true] at q
        simp only [Bool.false_eq_true, if_false]
        exact wpAny_bind (wpAny_rule (wpAny_pure ⟨_, .bl false, H, rfl, I, rfl, q⟩))
    · exact wpAny_bind (wpAny_rule (wpAny_pure ⟨_, .bl true, H, rfl, I, rfl, hf⟩))
  | succ n ih =>
    intro acc s hl hb hg S
    refine codeAny_builtin F.entry_all_loop ?_
    rw [Around.under_plainId F.plain_all_loop _]
    show wpAny _ X.A.in1 (pyNext (.ref a) >>= _) _ _ s
    refine wpAny_bind (gx_next (A1 := X.A.in1) Z hr.hd (by have := hr.dp; show X.A.depth < _; omega) hl hg hb S (fun b hb => by rw [List.mem_singleton.mp hb]; exact gen_stood hg) hg (fun v y acc' H C s' rv I b' hk cr ho go => ?_) (fun acc' H s' I hk cr hf => ?_) stab)
    · obtain ⟨b, rfl, q⟩ := ho
      obtain rfl : v = Value.bool b := rv
      refine wpAny_bind (wpAny_holding (wpAny_truthy_bool ?_))
      refine wpAny_bind (wpAny_letGo ?_)
      cases b with
      | true =>
        rw [if_pos rfl] at q
        obtain ⟨_, S'⟩ := go q s' ⟨rfl, b', fun _ _ _ e => e⟩ rfl (fun b hb => by rw [List.mem_singleton.mp hb]; exact gen_stood cr) cr
        simp only [if_true]
        exact wpAny_pure ⟨plainId_quiet F.plain_all_loop _, ih _ s' I.nolimit b' cr S'⟩
      | false =>
        rw [if_neg Bool.false_ne_true] at q
        simp only [Bool.false_eq_true, if_false]
        exact wpAny_bind (wpAny_rule (wpAny_pure ⟨_, .bl false, H, rfl, I, rfl, q⟩))
    · exact wpAny_bind (wpAny_rule (wpAny_pure ⟨_, .bl true, H, rfl, I, rfl, hf⟩))
theorem room_gen {A : Around} (hr : Room (k + 3) A) (env : Env) : Room k (A.in1.in1.deeper env) := (hr.in1.in1).deeper env
theorem Made.inv5 (Z : Made X pins σ elt tg iter ifs scope gpos J H2 a gn s4 s5 cenv fp it tn) : Inv X pins σ H2 s5 ∧ AllBare s5.gens := by
  have b5 : AllBare s5.gens := by
    rw [Z.gens]
    exact Z.inv.bare.push rfl
  exact ⟨Z.inv.call' (ch := []) Z.os (Un.kept Z.kept) (Z.inv.hok.kept Z.kept) b5 fun b hb => absurd hb (by simp), b5⟩
theorem boot_all_ : bootBuiltins "all" = some (.builtin "all") := by decide +kernel
theorem boot_sum_ : bootBuiltins "sum" = some (.builtin "sum") := by decide +kernel
theorem pe_allG {p pos : Pos} {wi : TI} (hr : Room (k + 3) X.A) (hg : Gl X "all") (hm : X.mg "all" = none) (D : Parts X k c P elt tg ifs scope own g tt te) (hi : PI X tg iter wi) (hs : ∀ v, genFold iter X.env v = pure v := by intro _; rfl)
    (he : starEach [.GeneratorExp elt [⟨tg, iter, ifs, 0⟩] scope gpos] X.env = (false, eval (.GeneratorExp elt [⟨tg, iter, ifs, 0⟩] scope gpos) X.env) :: starEach [] X.env := by rfl) :
    PE X (.Call (.Name "all" p) [.GeneratorExp elt [⟨tg, iter, ifs, 0⟩] scope gpos] [] pos) (tGx P wi g tt te (own.map (·.2)) onAll finAll) := by
  refine ⟨fun pins s σ H Q I h => ?_⟩
  refine wpAny_Call_Name_kw (ld_blt I hg hm boot_all_ ?_)
  refine PyProof.Rows.callWith_builtin1 ?_ he (by rfl)
  rw [he]
  show wpAny _ _ (spliced ((false, eval (.GeneratorExp elt [⟨tg, iter, ifs, 0⟩] scope gpos) X.env) :: backTo pos (starEach [] X.env))) _ _ s
  refine Calls.spliced_cons (gx_eval hr D.tab D.code D.co D.ok D.nocell D.dot hi hs I h fun J H2 a gn s4 s5 cenv fp it tn Z hR => ?_)
  obtain ⟨W, ⟨m0, w0⟩, turn⟩ := hR
  obtain ⟨I5, b5⟩ := Z.inv5
  refine Calls.spliced_nil ?_
  refine call_function_tree F.kind_all F.plain_all F.entry_all (F.args_all1 _) ?_
  unfold Builtin.«all»
  refine wpAny_bind (m := oneArg "all" _) (wpAny_pure ?_)
  refine wpAny_bind (wpAny_pyIter_gen Z.isgen ?_)
  have pp : PG (gcx X s4 H2 cenv fp (X.A.in1.in1.deeper cenv)) tg g ∧ PTs (gcx X s4 H2 cenv fp (X.A.in1.in1.deeper cenv)) ifs tt ∧ PE (gcx X s4 H2 cenv fp (X.A.in1.in1.deeper cenv)) elt te := by
    obtain ⟨cd, rfl⟩ := Z.env
    exact ⟨D.pg _ _ _ _ _ _ _, D.pt _ _ _ _ _ _ _ (room_gen hr _), D.pe _ _ _ _ _ _ _ (room_gen hr _)⟩
  have S := made_asleep (B := X.A.in1.in1) (cs := [a]) (CR := fun _ s => s.heap.IsGen a gn) Z D.calm D.co D.ok D.nocell D.nd hr.hd rfl pp.1 pp.2.1 pp.2.2 (fun b hb => by rw [List.mem_singleton.mp hb]; exact Z.young)
    (fun _ s s' hk h => gen_at h fun o e => hk a List.mem_cons_self o e) turn w0 (s := s5) ⟨rfl, b5, fun _ _ _ e => e⟩ rfl
  refine wpAny_pure ⟨plainId_quiet F.plain_all_loop _, codeAny_mono (all_loop Z hr m0 [] s5 I5.nolimit b5 Z.isgen S) fun r s' hx => ?_⟩
  obtain ⟨v, x, H', rfl, I', rv, q⟩ := hx
  exact ⟨x, H', I', rv, q⟩
end
end Gx
namespace Gx
open PySem PySem.Spec PyProof.Rows L2
/-! sum -/
abbrev sumObj (i : Int) (t : Tok) (c : Nat) : Obj := { cls := .type "list", dict := none, data := .seq #[.int i t] c, slots := #[] }
def CRsum (a gn S : Nat) (acc : List V) (s : Shared) : Prop := s.heap.IsGen a gn ∧ ∃ t c, s.heap.get? S = some (sumObj (isum acc) t c)
section
variable {X : Cx} {pins : List (Addr × Obj)} {σ : L2.St} {elt tg iter : Expr} {ifs : List Expr} {scope : Scope} {gpos : Pos} {J : It} {H2 : Hp} {a gn : Nat} {s4 s5 : Shared} {cenv : Env} {fp : List Addr} {it : Addr} {tn : Nat → Heap → Prop} {own : List (Str × Nat)}
  {g : TG} {tt : TT} {te : TE} {k : Nat} {c P : Addr} {Q : VK} {W : Nat → Nat → List V → Hp → Prop} {S : Nat}
theorem crsum_stable : Stable [a, S] (CRsum a gn S) := fun acc s s' hk h => by
  obtain ⟨h1, t, c, h2⟩ := h
  exact ⟨gen_at h1 fun o e => hk a List.mem_cons_self o e, t, c, hk S (List.mem_cons_of_mem _ List.mem_cons_self) _ h2⟩
theorem crsum_stood {acc : List V} {s : Shared} (h : CRsum a gn S acc s) : Stood [a, S] s := fun b hb => by
  obtain ⟨h1, t, c, h2⟩ := h
  rcases List.mem_cons.mp hb with z | z
  · rw [z]; exact gen_stood h1
  · rw [List.mem_singleton.mp z]; exact ⟨_, h2, fun v q => by cases q⟩
theorem sum_loop (Z : Made X pins σ elt tg iter ifs scope gpos J H2 a gn s4 s5 cenv fp it tn) (hr : Room (k + 3) X.A) {σw : L2.St} (haS : a ≠ S) : ∀ (n : Nat) (acc : List V) (s : Shared), s.heap.NoLimit → AllBare s.gens → CRsum a gn S acc s →
    Asleep (model X.prog X.w) X.A.in1.in1 (gcx X s4 H2 cenv fp (X.A.in1.in1.deeper cenv)) σw [a, S] (CRsum a gn S) (onSum Q) (finSum Q) gn n acc s →
    codeAny (model X.prog X.w) X.A (.builtin "sum.loop" ⟨[.ref a, .ref S, rawInt 0, rawInt 0], []⟩) (fun r s' => ∃ v x H', r = .ok (.ret v) ∧ Inv X pins σ H' s' ∧ RelV x v ∧ Q x H') s := by
  intro n
  induction n with
  | zero =>
    intro acc s hl hb hcr A0
    obtain ⟨hg, tA, cA, hS⟩ := _root_.id hcr
    refine codeAny_builtin F.entry_sum_loop ?_
    rw [Around.under_plainId F.plain_sum_loop _]
    show wpAny _ X.A.in1 (seqItems? (.ref S) >>= _) _ _ s
    refine wpAny_bind (wpAny_seqItems hS rfl ?_)
    show wpAny _ X.A.in1 (tryCatch (pyNext (.ref a)) _ >>= _) _ _ s
    refine wpAny_bind (wpAny_tryCatch (gx_next (A1 := X.A.in1) Z hr.hd (by have := hr.dp; show X.A.depth < _; omega) hl hg hb A0 (crsum_stood hcr) hcr (fun v y acc' H C s' rv I b' hk cr ho go => ?_) (fun acc' H s' I hk cr hf => ?_) crsum_stable))
    · obtain ⟨j, rfl, hj, hj2, hC⟩ := ho
      obtain ⟨hg', t', c', hS'⟩ := _root_.id cr
      have hup : ∀ b o, b ≠ S → s'.heap.get? b = some o → (s'.heap.update S (Obj.mapSeq fun _ => #[.int (isum acc' + j) s'.toks])).get? b = some o := fun b o hb e => (Heap.get?_update_other _ _ (Ne.symm hb)).trans e
      have hS2 := Heap.get?_update_self (Obj.mapSeq fun _ => #[.int (isum acc' + j) s'.toks]) hS' rfl
      have cr2 : CRsum a gn S (acc' ++ [.int j]) { s' with heap := s'.heap.update S (Obj.mapSeq fun _ => #[.int (isum acc' + j) s'.toks]), toks := s'.toks + 1 } := ⟨gen_at hg' fun o e => hup a o haS e, s'.toks, _, by rw [isum_app]; exact hS2⟩
      obtain ⟨z, _⟩ := go hC { s' with heap := s'.heap.update S (Obj.mapSeq fun _ => #[.int (isum acc' + j) s'.toks]), toks := s'.toks + 1 } (slept_keep b' fun b o hb e => hup b o (fun z => hb (by rw [z]; exact List.mem_cons_of_mem _ List.mem_cons_self)) e) rfl (crsum_stood cr2) cr2
      exact absurd z (Nat.lt_irrefl _)
    · obtain ⟨_, t', c', hS'⟩ := _root_.id cr
      have e := hk S (List.mem_cons_of_mem _ List.mem_cons_self) _ hS
      rw [hS'] at e
      have e2 : isum acc' = isum acc := by
        have e3 := congrArg (fun o => match o with | some ob => ob.data | none => .plain) e
        injection e3 with e4 _
        have e5 := congrArg (fun l => l.toList) e4
        injection e5 with e6 _
        injection e6
      refine wpAny_pure ⟨_, .int (isum acc), H, rfl, I, ⟨_, rfl⟩, ?_⟩
      rw [← e2]
      exact hf
  | succ n ih =>
    intro acc s hl hb hcr A0
    obtain ⟨hg, tA, cA, hS⟩ := _root_.id hcr
    refine codeAny_builtin F.entry_sum_loop ?_
    rw [Around.under_plainId F.plain_sum_loop _]
    show wpAny _ X.A.in1 (seqItems? (.ref S) >>= _) _ _ s
    refine wpAny_bind (wpAny_seqItems hS rfl ?_)
    show wpAny _ X.A.in1 (tryCatch (pyNext (.ref a)) _ >>= _) _ _ s
    refine wpAny_bind (wpAny_tryCatch (gx_next (A1 := X.A.in1) Z hr.hd (by have := hr.dp; show X.A.depth < _; omega) hl hg hb A0 (crsum_stood hcr) hcr (fun v y acc' H C s' rv I b' hk cr ho go => ?_) (fun acc' H s' I hk cr hf => ?_) crsum_stable))
    · obtain ⟨j, rfl, hj, hj2, hC⟩ := ho
      obtain ⟨t, rfl⟩ : ∃ t, v = Value.int j t := rv
      obtain ⟨hg', t', c', hS'⟩ := _root_.id cr
      have e := hk S (List.mem_cons_of_mem _ List.mem_cons_self) _ hS
      have e2 : isum acc' = isum acc := by
        rw [hS'] at e
        have e3 := congrArg (fun o => match o with | some ob => ob.data | none => .plain) e
        injection e3 with e4 _
        have e5 := congrArg (fun l => l.toList) e4
        injection e5 with e6 _
        injection e6
      rw [e2] at hj2 hS'
      have hup : ∀ b o, b ≠ S → s'.heap.get? b = some o → (s'.heap.update S (Obj.mapSeq fun _ => #[.int (isum acc + j) s'.toks])).get? b = some o := fun b o hb e => (Heap.get?_update_other _ _ (Ne.symm hb)).trans e
      have hS2 := Heap.get?_update_self (Obj.mapSeq fun _ => #[.int (isum acc + j) s'.toks]) hS' rfl
      have hcc : ((decide (-(2 ^ 63) ≤ j) && decide (j < 2 ^ 63)) && (decide (-(2 ^ 63) ≤ isum acc + j) && decide (isum acc + j < 2 ^ 63))) = true := by
        simp only [Bool.and_eq_true, decide_eq_true_eq]
        exact ⟨hj, hj2⟩
      show wpAny _ X.A.in1 (if (_ : Bool) = true then (mkInt (isum acc + j) >>= _) else _) _ _ _
      split
      · refine wpAny_bind (wpAny_mkInt ?_)
        show wpAny _ X.A.in1 (updateSeq S (fun _ => #[.int (isum acc + j) s'.toks]) >>= _) _ _ _
        refine wpAny_bind ?_
        have cr2 : ∀ tk, CRsum a gn S (acc' ++ [.int j]) { s' with heap := s'.heap.update S (Obj.mapSeq fun _ => #[.int (isum acc + j) s'.toks]), toks := tk } := fun tk => ⟨gen_at hg' fun o e => hup a o haS e, s'.toks, _, by rw [isum_app, e2]; exact hS2⟩
        have sl : ∀ tk, Slept [a, S] s' { s' with heap := s'.heap.update S (Obj.mapSeq fun _ => #[.int (isum acc + j) s'.toks]), toks := tk } := fun tk => slept_keep b' fun b o hb e => hup b o (fun z => hb (by rw [z]; exact List.mem_cons_of_mem _ List.mem_cons_self)) e
        refine wpAny_updateSeq hS' rfl (wpAny_pure ⟨plainId_quiet F.plain_sum_loop _, ?_⟩)
        have A1 := (go hC _ (sl (s'.toks + 1)) rfl (crsum_stood (cr2 _)) (cr2 _)).2
        have lim : s'.heap.NoLimit := I.nolimit
        refine ih _ _ ?_ b' (cr2 _) A1
        obtain ⟨mc, hns, hnn⟩ := lim
        refine ⟨mc, hns.at' fun o e => hup _ o (fun z => ?_) e, hnn⟩
        obtain ⟨o2, _, _, e3, d3, _⟩ := hns
        rw [z, hS'] at e3
        cases e3
        cases d3
      · rename_i hneg
        exact absurd hcc hneg
    · obtain ⟨_, t', c', hS'⟩ := _root_.id cr
      have e := hk S (List.mem_cons_of_mem _ List.mem_cons_self) _ hS
      rw [hS'] at e
      have e2 : isum acc' = isum acc := by
        have e3 := congrArg (fun o => match o with | some ob => ob.data | none => .plain) e
        injection e3 with e4 _
        have e5 := congrArg (fun l => l.toList) e4
        injection e5 with e6 _
        injection e6
      refine wpAny_pure ⟨_, .int (isum acc), H, rfl, I, ⟨_, rfl⟩, ?_⟩
      rw [← e2]
      exact hf
theorem pe_sumG {p pos : Pos} {wi : TI} (hr : Room (k + 3) X.A) (hg : Gl X "sum") (hm : X.mg "sum" = none) (D : Parts X k c P elt tg ifs scope own g tt te) (hi : PI X tg iter wi) (hs : ∀ v, genFold iter X.env v = pure v := by intro _; rfl)
    (he : starEach [.GeneratorExp elt [⟨tg, iter, ifs, 0⟩] scope gpos] X.env = (false, eval (.GeneratorExp elt [⟨tg, iter, ifs, 0⟩] scope gpos) X.env) :: starEach [] X.env := by rfl) :
    PE X (.Call (.Name "sum" p) [.GeneratorExp elt [⟨tg, iter, ifs, 0⟩] scope gpos] [] pos) (tGx P wi g tt te (own.map (·.2)) onSum finSum) := by
  refine ⟨fun pins s σ H Q I h => ?_⟩
  refine wpAny_Call_Name_kw (ld_blt I hg hm boot_sum_ ?_)
  refine PyProof.Rows.callWith_builtin1 ?_ he (by rfl)
  rw [he]
  show wpAny _ _ (spliced ((false, eval (.GeneratorExp elt [⟨tg, iter, ifs, 0⟩] scope gpos) X.env) :: backTo pos (starEach [] X.env))) _ _ s
  refine Calls.spliced_cons (gx_eval hr D.tab D.code D.co D.ok D.nocell D.dot hi hs I h fun J H2 a gn s4 s5 cenv fp it tn Z hR => ?_)
  obtain ⟨W, ⟨m0, w0⟩, turn⟩ := hR
  obtain ⟨I5, b5⟩ := Z.inv5
  refine Calls.spliced_nil ?_
  refine call_function_tree F.kind_sum F.plain_sum F.entry_sum (F.args_sum1 _) ?_
  unfold Builtin.«sum»
  simp only [List.length_cons, List.length_nil]
  rw [if_neg (by decide)]
  refine wpAny_bind (wpAny_of_eq (show Builtin.Builtins.bindParams "sum" ["start"] 0 { } = pure [none] from rfl) ?_)
  refine wpAny_bind (wpAny_pyIter_gen Z.isgen ?_)
  refine wpAny_bind (wpAny_mkInt ?_)
  refine wpAny_bind (wpAny_pure ?_)
  simp only [List.forIn_cons, List.forIn_nil]
  refine wpAny_bind (wpAny_bind (wpAny_bind (wpAny_isInstance (T := "int") (b := false) (typeIs_int _ _ _) PySem.sub_int_str ?_)))
  simp only [Bool.false_eq_true, if_false]
  refine wpAny_pure (wpAny_bind (wpAny_bind (wpAny_isInstance (T := "int") (b := false) (typeIs_int _ _ _) PySem.sub_int_bytes ?_)))
  simp only [Bool.false_eq_true, if_false]
  refine wpAny_pure (wpAny_bind (wpAny_bind (wpAny_isInstance (T := "int") (b := false) (typeIs_int _ _ _) PySem.sub_int_bytearray ?_)))
  simp only [Bool.false_eq_true, if_false]
  refine wpAny_pure (wpAny_pure ?_)
  refine wpAny_bind (wpAny_newObj_type ?_)
  have pp : PG (gcx X s4 H2 cenv fp (X.A.in1.in1.deeper cenv)) tg g ∧ PTs (gcx X s4 H2 cenv fp (X.A.in1.in1.deeper cenv)) ifs tt ∧ PE (gcx X s4 H2 cenv fp (X.A.in1.in1.deeper cenv)) elt te := by
    obtain ⟨cd, rfl⟩ := Z.env
    exact ⟨D.pg _ _ _ _ _ _ _, D.pt _ _ _ _ _ _ _ (room_gen hr _), D.pe _ _ _ _ _ _ _ (room_gen hr _)⟩
  have hSa : s5.heap.objs.size = a + 1 := Z.size
  have hya := Z.young
  have ya : ∀ b ∈ [a, s5.heap.objs.size], s4.heap.objs.size < b := fun b hb => by
    rcases List.mem_cons.mp hb with z | z
    · rw [z]; exact hya
    · rw [List.mem_singleton.mp z]; exact Nat.lt_of_lt_of_le hya (by omega)
  have kp : ∀ (o' : Obj) b o, s5.heap.get? b = some o → (s5.heap.push o').get? b = some o := fun o' b o e => Heap.get?_push_of_some _ e
  refine wpAny_pure ⟨plainId_quiet F.plain_sum_loop _, codeAny_mono (sum_loop Z hr (S := s5.heap.objs.size) (by omega) m0 [] _ (I5.nolimit.push _) b5 ⟨gen_at Z.isgen fun o e => kp _ _ _ e, _, _, Heap.get?_push_size _ rfl⟩
    (made_asleep (B := X.A.in1.in1) (cs := [a, s5.heap.objs.size]) (CR := CRsum a gn s5.heap.objs.size) Z D.calm D.co D.ok D.nocell D.nd hr.hd rfl pp.1 pp.2.1 pp.2.2 ya crsum_stable turn w0 (slept_keep b5 fun b o _ e => kp _ b o e) rfl)) fun r s' hx => ?_⟩
  obtain ⟨v, x, H', rfl, I', rv, q⟩ := hx
  exact ⟨x, H', I', rv, q⟩
end
end Gx
namespace Gx
open PySem PySem.Spec PyProof.Rows L2
/-! sep.join(..) -/
abbrev lsObj (xs : Array Value) (c : Nat) : Obj := { cls := .type "list", dict := none, data := .seq xs c, slots := #[] }
def CRlst (a gn S : Nat) (acc : List V) (s : Shared) : Prop := s.heap.IsGen a gn ∧ ∃ xs c, Vals acc xs.toList ∧ s.heap.get? S = some (lsObj xs c)
section
variable {X : Cx} {pins : List (Addr × Obj)} {σ : L2.St} {elt tg iter : Expr} {ifs : List Expr} {scope : Scope} {gpos : Pos} {J : It} {H2 : Hp} {a gn : Nat} {s4 s5 : Shared} {cenv : Env} {fp : List Addr} {it : Addr} {tn : Nat → Heap → Prop} {own : List (Str × Nat)}
  {g : TG} {tt : TT} {te : TE} {k : Nat} {c P : Addr} {Q : VK} {W : Nat → Nat → List V → Hp → Prop} {S : Nat} {sep : Str}
theorem crlst_stable : Stable [a, S] (CRlst a gn S) := fun acc s s' hk h => by
  obtain ⟨h1, xs, c, hv, h2⟩ := h
  exact ⟨gen_at h1 fun o e => hk a List.mem_cons_self o e, xs, c, hv, hk S (List.mem_cons_of_mem _ List.mem_cons_self) _ h2⟩
theorem crlst_stood {acc : List V} {s : Shared} (h : CRlst a gn S acc s) : Stood [a, S] s := fun b hb => by
  obtain ⟨h1, xs, c, _, h2⟩ := h
  rcases List.mem_cons.mp hb with z | z
  · rw [z]; exact gen_stood h1
  · rw [List.mem_singleton.mp z]; exact ⟨_, h2, fun v q => by cases q⟩
theorem ext_loop (Z : Made X pins σ elt tg iter ifs scope gpos J H2 a gn s4 s5 cenv fp it tn) (hr : Room (k + 4) X.A) {σw : L2.St} (haS : a ≠ S) : ∀ (n : Nat) (acc : List V) (s : Shared), s.heap.NoLimit → AllBare s.gens → CRlst a gn S acc s →
    Asleep (model X.prog X.w) X.A.in1.in1.in1 (gcx X s4 H2 cenv fp (X.A.in1.in1.in1.deeper cenv)) σw [a, S] (CRlst a gn S) (onStr Q) (finStr sep Q) gn n acc s →
    codeAny (model X.prog X.w) X.A.in1 (.builtin "list.extend.loop" ⟨[.ref S, .ref a, .ref S], []⟩) (fun r s' => r = .ok (.ret (.ref S)) ∧ ∃ acc H xs c, Inv X pins σ H s' ∧ Vals acc xs.toList ∧ s'.heap.get? S = some (lsObj xs c) ∧ finStr sep Q acc H) s := by
  intro n
  induction n with
  | zero =>
    intro acc s hl hb hcr A0
    refine codeAny_builtin F.entry_extend_loop ?_
    rw [Around.under_plainId F.plain_extend_loop _]
    show wpAny _ X.A.in1.in1 (pyNext (.ref a) >>= _) _ _ s
    refine wpAny_bind (gx_next (A1 := X.A.in1.in1) Z hr.hd (by have := hr.dp; show X.A.depth < _; omega) hl hcr.1 hb A0 (crlst_stood hcr) hcr (fun v y acc' H C s' rv I b' hk cr ho go => ?_) (fun acc' H s' I hk cr hf => ?_) crlst_stable)
    · obtain ⟨⟨x, rfl⟩, hsz, hC⟩ := ho
      obtain ⟨hg', xs, c', hv, hS'⟩ := _root_.id cr
      have hup : ∀ b o, b ≠ S → s'.heap.get? b = some o → (s'.heap.update S (Obj.mapSeq (·.push v))).get? b = some o := fun b o hb e => (Heap.get?_update_other _ _ (Ne.symm hb)).trans e
      have hS2 := Heap.get?_update_self (Obj.mapSeq (·.push v)) hS' rfl
      have cr2 : CRlst a gn S (acc' ++ [.str x]) { s' with heap := s'.heap.update S (Obj.mapSeq (·.push v)), toks := s'.toks } := ⟨gen_at hg' fun o e => hup a o haS e, xs.push v, _, by rw [Array.toList_push]; exact hv.append (.cons rv .nil), hS2⟩
      obtain ⟨z, _⟩ := go hC { s' with heap := s'.heap.update S (Obj.mapSeq (·.push v)), toks := s'.toks } (slept_keep b' fun b o hb e => hup b o (fun z => hb (by rw [z]; exact List.mem_cons_of_mem _ List.mem_cons_self)) e) rfl (crlst_stood cr2) cr2
      exact absurd z (Nat.lt_irrefl _)
    · obtain ⟨_, xs, c', hv, hS'⟩ := cr
      exact wpAny_pure ⟨rfl, acc', H, xs, c', I, hv, hS', hf⟩
  | succ n ih =>
    intro acc s hl hb hcr A0
    refine codeAny_builtin F.entry_extend_loop ?_
    rw [Around.under_plainId F.plain_extend_loop _]
    show wpAny _ X.A.in1.in1 (pyNext (.ref a) >>= _) _ _ s
    refine wpAny_bind (gx_next (A1 := X.A.in1.in1) Z hr.hd (by have := hr.dp; show X.A.depth < _; omega) hl hcr.1 hb A0 (crlst_stood hcr) hcr (fun v y acc' H C s' rv I b' hk cr ho go => ?_) (fun acc' H s' I hk cr hf => ?_) crlst_stable)
    · obtain ⟨⟨x, rfl⟩, hsz, hC⟩ := ho
      obtain ⟨hg', xs, c', hv, hS'⟩ := _root_.id cr
      have hup : ∀ b o, b ≠ S → s'.heap.get? b = some o → (s'.heap.update S (Obj.mapSeq (·.push v))).get? b = some o := fun b o hb e => (Heap.get?_update_other _ _ (Ne.symm hb)).trans e
      have hS2 := Heap.get?_update_self (Obj.mapSeq (·.push v)) hS' rfl
      have hxl : xs.size = acc'.length := by
        have := hv.length
        rw [this, Array.length_toList]
      have cr2 : ∀ tk, CRlst a gn S (acc' ++ [.str x]) { s' with heap := s'.heap.update S (Obj.mapSeq (·.push v)), toks := tk } := fun tk => ⟨gen_at hg' fun o e => hup a o haS e, xs.push v, _, by rw [Array.toList_push]; exact hv.append (.cons rv .nil), hS2⟩
      have sl : ∀ tk, Slept [a, S] s' { s' with heap := s'.heap.update S (Obj.mapSeq (·.push v)), toks := tk } := fun tk => slept_keep b' fun b o hb e => hup b o (fun z => hb (by rw [z]; exact List.mem_cons_of_mem _ List.mem_cons_self)) e
      show wpAny _ X.A.in1.in1 (updateSeq S (·.push v) >>= _) _ _ _
      refine wpAny_bind ?_
      refine wpAny_updateSeq hS' rfl (wpAny_pure ⟨plainId_quiet F.plain_extend_loop _, ?_⟩) (by omega) (by show (xs.push v).size ≤ sizeLine + 1; rw [Array.size_push]; omega)
      refine ih _ _ ?_ b' (cr2 _) (go hC _ (sl _) rfl (crlst_stood (cr2 _)) (cr2 _)).2
      obtain ⟨mc, hns, hnn⟩ := I.nolimit
      refine ⟨mc, hns.at' fun o e => hup _ o (fun z => ?_) e, hnn⟩
      obtain ⟨o2, _, _, e3, d3, _⟩ := hns
      rw [z, hS'] at e3
      cases e3
      cases d3
    · obtain ⟨_, xs, c', hv, hS'⟩ := cr
      exact wpAny_pure ⟨rfl, acc', H, xs, c', I, hv, hS', hf⟩
theorem strs_of : ∀ {ws : List Str} {vs : List Value}, Vals (ws.map V.str) vs → ∃ l : List (Str × Tok), strValues l = vs ∧ l.map (·.1) = ws
  | [], _, .nil => ⟨[], rfl, rfl⟩
  | w :: r, _, .cons h t => by
    obtain ⟨u, rfl⟩ := (show ∃ u, _ = Value.str w u from h)
    obtain ⟨l, e1, e2⟩ := strs_of t
    exact ⟨(w, u) :: l, by rw [← e1]; rfl, by rw [← e2]; rfl⟩
/-- the reading of sep.join(..) -/
def tJoinGx (P : Addr) (to : TE) (wi : TI) (g : TG) (tt : TT) (te : TE) (vs : List Nat) : TE := fun σ H Q => to σ H fun v H0 => ∃ sep : Str, v = .str sep ∧ tGx P wi g tt te vs onStr (finStr sep) σ H0 Q
theorem pe_joinG {o : Expr} {apos cpos : Pos} {to : TE} {wi : TI} (hr : Room (k + 4) X.A) (ho : PE X o to) (D : Parts X k c P elt tg ifs scope own g tt te) (hi : PI X tg iter wi) (hs : ∀ v, genFold iter X.env v = pure v := by intro _; rfl)
    (he : starEach [.GeneratorExp elt [⟨tg, iter, ifs, 0⟩] scope gpos] X.env = (false, eval (.GeneratorExp elt [⟨tg, iter, ifs, 0⟩] scope gpos) X.env) :: starEach [] X.env := by rfl)
    (hbase : attributeBase o "join" X.env (eval o X.env) = eval o X.env := by rfl) (hline : (apos.endLine == cpos.line) = true := by rfl)
    (hfew : ((backTo cpos (starEach [.GeneratorExp elt [⟨tg, iter, ifs, 0⟩] scope gpos] X.env)).all (fun x => !x.1) && (backToKw cpos (keywordEach [] X.env)).all (fun x => x.1.isSome) && decide (([.GeneratorExp elt [⟨tg, iter, ifs, 0⟩] scope gpos] : List Expr).length + ([] : List Keyword).length + (if ([] : List Keyword).isEmpty then 0 else 1) < 30)) = true := by rfl)
    (hplain : (backTo cpos (starEach [] X.env)).any (·.1) = false := by rfl) :
    PE X (.Call (.Attribute o "join" apos) [.GeneratorExp elt [⟨tg, iter, ifs, 0⟩] scope gpos] [] cpos) (tJoinGx P to wi g tt te (own.map (·.2))) := by
  refine ⟨fun pins s σ H Q I h => ?_⟩
  refine wpAny_Call_method_late hbase hfew hline rfl (thn (ho.run pins s σ H _ I h) fun v s1 hv1 => ?_)
  obtain ⟨_, H1, I1, r1, sep, rfl, q1⟩ := hv1
  obtain ⟨tk, rfl⟩ := (show ∃ t, v = Value.str sep t from r1)
  refine ⟨"str", _, PySem.F.plainAttrs_str, PySem.F.slot_str_join, PySem.F.type_str_join, typeIs_str _ _ _, (fun _ e => nomatch e), ?_⟩
  rw [he]
  refine Calls.callWith_builtin (by show (false || (backTo cpos (starEach [] X.env)).any (·.1)) = false; rw [hplain] <;> rfl) (Calls.evalArgs_plain ?_)
  show wpAny _ _ (spliced ((false, eval (.GeneratorExp elt [⟨tg, iter, ifs, 0⟩] scope gpos) X.env) :: backTo cpos (starEach [] X.env))) _ _ s1
  refine Calls.spliced_cons (gx_eval hr D.tab D.code D.co D.ok D.nocell D.dot hi hs I1 q1 fun J H2 a gn s4 s5 cenv fp it tn Z hR => ?_)
  obtain ⟨W, ⟨m0, w0⟩, turn⟩ := hR
  obtain ⟨I5, b5⟩ := Z.inv5
  refine Calls.spliced_nil ?_
  refine wpAny_call (codeAny_call_builtin F.slot_str_join.plain F.entry_str_join (F.slot_str_join.check _ _ _ _ _ _ _ _ (typeIs_str _ _ _) (F.args_str_join_2 _ _) ?_))
  show wpAny _ X.A.in1 (Builtin.«str.join» ⟨[.str sep tk, .ref a], []⟩) _ _ s5
  rw [join_tree_other]
  refine wpAny_bind (wpAny_typeOf Z.isgen.typeIs ?_)
  show wpAny _ X.A.in1 ((pyIter (.ref a)).tryCatch _ >>= fun it => collect it >>= fun items => joinTail sep items) _ _ s5
  refine wpAny_bind (wpAny_tryCatch (wpAny_pyIter_gen Z.isgen ?_))
  have hSa : s5.heap.objs.size = a + 1 := Z.size
  have hya := Z.young
  have hSI : s5.heap.objs.size ≠ a := by omega
  have pp : PG (gcx X s4 H2 cenv fp (X.A.in1.in1.in1.deeper cenv)) tg g ∧ PTs (gcx X s4 H2 cenv fp (X.A.in1.in1.in1.deeper cenv)) ifs tt ∧ PE (gcx X s4 H2 cenv fp (X.A.in1.in1.in1.deeper cenv)) elt te := by
    obtain ⟨cd, rfl⟩ := Z.env
    exact ⟨D.pg _ _ _ _ _ _ _, D.pt _ _ _ _ _ _ _ (room_gen hr.in1 _), D.pe _ _ _ _ _ _ _ (room_gen hr.in1 _)⟩
  unfold collect
  refine wpAny_bind (wpAny_bind (wpAny_runValue (codeAny_builtin F.entry_proto_collect ?_)))
  rw [Around.under_plainId F.plain_proto_collect _]
  show wpAny _ X.A.in1.in1 (newList [] >>= fun l => again (.builtin "list.__iadd__" ⟨[l, .ref a], []⟩)) _ _ s5
  refine wpAny_bind (wpAny_newObj_type ?_)
  refine wpAny_pure ⟨plainId_quiet F.plain_list_iadd _, codeAny_builtin F.entry_list_iadd ?_⟩
  rw [Around.under_plainId F.plain_list_iadd _]
  have g1 : (s5.heap.push { cls := .type "list", data := .seq ([] : List Value).toArray }).IsGen a gn := Z.isgen.push _
  show wpAny _ X.A.in1.in1 (Builtin.List.listExtendWith (.ref s5.heap.objs.size) (.ref a) (.ref s5.heap.objs.size)) _ _ _
  unfold Builtin.List.listExtendWith
  refine wpAny_bind (wpAny_typeOf (Heap.IsGen.typeIs (s := { s5 with heap := s5.heap.push { cls := .type "list", data := .seq ([] : List Value).toArray } }) g1) ?_)
  have h1 : Builtin.List.listSameRef (.ref s5.heap.objs.size) (.ref a) = false := by simp [Builtin.List.listSameRef, hSI]
  have h2 : (Value.type "generator" == Value.type "list") = false := by decide
  have h3 : (Value.type "generator" == Value.type "tuple") = false := by decide
  simp only [h1, h2, h3, Bool.or_false, Bool.false_eq_true, if_false]
  refine wpAny_bind (wpAny_pyIter_gen g1 ?_)
  refine wpAny_bind (wpAny_holding ?_)
  unfold Builtin.List.listLengthHint
  refine wpAny_bind (wpAny_specialOf (Heap.IsGen.typeIs (s := { s5 with heap := s5.heap.push { cls := .type "list", data := .seq ([] : List Value).toArray } }) g1) F.gen_no_len ?_)
  show wpAny _ X.A.in1.in1 (specialOf (Value.ref a) (Str.ofString "__length_hint__") >>= _) _ _ _
  refine wpAny_bind (wpAny_specialOf (Heap.IsGen.typeIs (s := { s5 with heap := s5.heap.push { cls := .type "list", data := .seq ([] : List Value).toArray } }) g1) F.gen_no_hint ?_)
  refine wpAny_pure ?_
  show wpAny _ X.A.in1.in1 (rule "list.extend.makes-room" >>= fun _ => Builtin.List.listTouch (.ref s5.heap.objs.size) >>= fun _ => again (.builtin "list.extend.loop" ⟨[.ref s5.heap.objs.size, .ref a, .ref s5.heap.objs.size], []⟩)) _ _ _
  refine wpAny_bind (wpAny_rule ?_)
  have k1 : (s5.heap.push { cls := .type "list", data := .seq ([] : List Value).toArray }).get? s5.heap.objs.size = some { cls := .type "list", data := .seq ([] : List Value).toArray } := Heap.get?_push_size _ rfl
  refine wpAny_bind ?_
  show wpAny _ X.A.in1.in1 (updateSeq s5.heap.objs.size (·.push .none) >>= fun _ => updateSeq s5.heap.objs.size (·.pop)) _ _ _
  refine wpAny_bind (wpAny_updateSeq k1 rfl ?_)
  have k2 := Heap.get?_update_self (Obj.mapSeq (·.push Value.none)) k1 rfl
  refine wpAny_updateSeq k2 rfl ?_
  have k3 := Heap.get?_update_self (Obj.mapSeq (·.pop)) k2 rfl
  have oth : ∀ b o, b ≠ s5.heap.objs.size → s5.heap.get? b = some o →
      (((s5.heap.push { cls := .type "list", data := .seq ([] : List Value).toArray }).update s5.heap.objs.size (Obj.mapSeq (·.push Value.none))).update s5.heap.objs.size (Obj.mapSeq (·.pop))).get? b = some o :=
    fun b o hb e => (Heap.get?_update_other _ _ (Ne.symm hb)).trans ((Heap.get?_update_other _ _ (Ne.symm hb)).trans (Heap.get?_push_of_some _ e))
  have ya : ∀ b ∈ [a, s5.heap.objs.size], s4.heap.objs.size < b := fun b hb => by
    rcases List.mem_cons.mp hb with z | z
    · rw [z]; exact hya
    · rw [List.mem_singleton.mp z]; exact Nat.lt_of_lt_of_le hya (by omega)
  refine wpAny_pure ⟨plainId_quiet F.plain_extend_loop _, codeAny_mono (ext_loop (S := s5.heap.objs.size) (sep := sep) Z hr (Ne.symm hSI) m0 [] _ ?_ b5 ⟨gen_at Z.isgen fun o e => oth a o (Ne.symm hSI) e, _, _, .nil, k3⟩
    (made_asleep (B := X.A.in1.in1.in1) (cs := [a, s5.heap.objs.size]) (CR := CRlst a gn s5.heap.objs.size) Z D.calm D.co D.ok D.nocell D.nd hr.hd rfl pp.1 pp.2.1 pp.2.2 ya crlst_stable turn w0 (slept_keep b5 fun b o hb e => oth b o (fun z => hb (by rw [z]; exact List.mem_cons_of_mem _ List.mem_cons_self)) e) rfl)) fun r s' hx => ?_⟩
  · obtain ⟨mc, hns, hnn⟩ := I5.nolimit
    exact ⟨mc, hns.at' fun o e => oth _ o (Nat.ne_of_lt (Heap.lt_size e)) e, hnn⟩
  · obtain ⟨rfl, acc, H, xs, c', I', hv, hS', ws, rfl, hok, q⟩ := hx
    show wpAny _ X.A.in1 (load s5.heap.objs.size >>= _) _ _ s'
    refine wpAny_bind (wpAny_load hS' ?_)
    obtain ⟨l, e1, e2⟩ := strs_of hv
    refine wpAny_pure ?_
    show wpAny _ X.A.in1 (joinTail sep xs.toList) _ _ s'
    rw [← e1]
    rw [← e2] at hok q
    unfold JoinOk at hok
    rw [Bool.not_eq_true'] at hok
    have gv : Gives (joinTail sep (strValues l)) (joinMade sep l) := by
      have g0 := gives_joinTail sep l hok
      cases l with
      | nil => exact g0
      | cons p r => cases r with
        | nil => exact g0
        | cons q r' => exact g0
    exact gv X.prog X.w X.A (wants _ _) s' (post_join l ⟨joinFit_length hok, fun t' kk => ⟨.str _, H, I'.tok kk, ⟨t', rfl⟩, q⟩⟩)
end
end Gx
namespace Gx
open PySem PySem.Spec PyProof.Rows L2
/-! zip of two texts -/
def Itzs (x y : Str) : It :=
  ⟨fun i _ => i < min x.cps.size y.cps.size, fun i H v H' => ∃ T c d, v = .ref T ∧ H T = none ∧ H' = upd H T (.tup [.str ⟨#[c]⟩, .str ⟨#[d]⟩]) ∧ x.cps[i]? = some c ∧ y.cps[i]? = some d, fun i _ => i = min x.cps.size y.cps.size⟩
theorem turn_zips {P : Program} {w : World} {K : PySem.W.Frag} {elts : List Expr} {kk : Nat} {tpos : Pos} (N : Nat) (x y : Str) (t u : Tok) :
    Turn P w K (.Tuple elts kk tpos) (Itzs x y) ((N + 4) :: (N + 2) :: (N + 3) :: ([N] ++ [N + 1])) (N + 4)
      (fun i h => IsZip h (N + 4) (N + 2) (N + 3) .none ∧ IsTupOf2 h (N + 2) (.ref N) (.ref (N + 1)) ∧ (∃ a1 a2, IsTupOf2 h (N + 3) a1 a2) ∧ h.IsStrIter N (strIterType x) x t i ∧ h.IsStrIter (N + 1) (strIterType y) y u i) := by
  have go : ∀ (A : Around), A.handled = none → GoesN P w A (.Tuple elts kk tpos) (N + 4) ((N + 4) :: (N + 2) :: (N + 3) :: ([N] ++ [N + 1])) [N + 4, N + 3, N, N + 1] (min x.cps.size y.cps.size) _ _ := fun A hA =>
    GoesN.zip2 (zip_sep2 (N := N) (fp1 := []) (fp2 := []) (fun b hb => absurd hb (by simp)) (fun b hb => absurd hb (by simp))) (Draws.text (A := A.in1) hA N x t) (Draws.text (A := A.in1) hA (N + 1) y u)
  exact {
    mem := List.mem_cons_self
    obj := fun i h st c hc => by
      obtain ⟨hz, hTI, ⟨a1, a2, hTO⟩, ⟨o1, e1, _, d1⟩, ⟨o2, e2, _, d2⟩⟩ := st
      have e' : c = N + 4 ∨ c = N + 2 ∨ c = N + 3 ∨ c = N ∨ c = N + 1 := by simpa using hc
      rcases e' with q | q | q | q | q
      · rw [q]; exact ⟨_, hz, fun v q => nomatch q⟩
      · rw [q]; exact ⟨_, hTI, fun v q => nomatch q⟩
      · rw [q]; exact ⟨_, hTO, fun v q => nomatch q⟩
      · rw [q]; exact ⟨o1, e1, fun v q => by rw [d1] at q; cases q⟩
      · rw [q]; exact ⟨o2, e2, fun v q => by rw [d2] at q; cases q⟩
    keep := fun i h h' st k => by
      obtain ⟨hz, hTI, ⟨a1, a2, hTO⟩, ⟨o1, e1, r1⟩, ⟨o2, e2, r2⟩⟩ := st
      exact ⟨k _ (by simp) _ hz, k _ (by simp) _ hTI, ⟨a1, a2, k _ (by simp) _ hTO⟩, ⟨o1, k _ (by simp) _ e1, r1⟩, ⟨o2, k _ (by simp) _ e2, r2⟩⟩
    item := by
      intro X hP hw hK hc i pins s σ H E I hf st hg
      subst hP hw hK
      refine (go X.A (I.ok.hd hc)).goes i s (fun v s2 => ∃ x' H', Inv X pins σ H' s2 ∧ RelV x' v ∧ (Itzs x y).yld i H x' H' ∧ _ ∧ ∀ b ∈ ((N + 4) :: (N + 2) :: (N + 3) :: ([N] ++ [N + 1])), H' b = none) E hg st fun v h' tk hY st' hk htk => ?_
      obtain ⟨T, p, q, rfl, hT, ⟨c, u1, hc1, rfl⟩, ⟨d, u2, hd1, rfl⟩, hTt⟩ := hY
      have nT : H T = none := I.hok.fresh hT
      have new : ObjOk X.prog X.w (upd H T (.tup [.str ⟨#[c]⟩, .str ⟨#[d]⟩])) h' T (.tup [.str ⟨#[c]⟩, .str ⟨#[d]⟩]) := ⟨by show 2 ≤ sizeLine; decide, [_, _], .cons ⟨u1, rfl⟩ (.cons ⟨u2, rfl⟩ .nil), hTt⟩
      have lt : ∀ b ∈ ((N + 4) :: (N + 2) :: (N + 3) :: ([N] ++ [N + 1])), b < s.heap.objs.size := fun b hb => by
        obtain ⟨hz, hTI, ⟨a1, a2, hTO⟩, ⟨o1, e1, _⟩, ⟨o2, e2, _⟩⟩ := st
        have e' : b = N + 4 ∨ b = N + 2 ∨ b = N + 3 ∨ b = N ∨ b = N + 1 := by simpa using hb
        rcases e' with q | q | q | q | q
        · rw [q]; exact Heap.lt_size hz
        · rw [q]; exact Heap.lt_size hTI
        · rw [q]; exact Heap.lt_size hTO
        · rw [q]; exact Heap.lt_size e1
        · rw [q]; exact Heap.lt_size e2
      refine ⟨.ref T, _, I.turnedNew (t' := tk) (ch := ((N + 4) :: (N + 2) :: (N + 3) :: ([N] ++ [N + 1]))) (fun b o hb e => hk b o (fun z => hb ?_) e) hf hT new, rfl, ⟨T, c, d, rfl, nT, rfl, hc1, hd1⟩, st', fun b hb => ?_⟩
      · have e' : b = N + 4 ∨ b = N + 3 ∨ b = N ∨ b = N + 1 := by simpa using z
        rcases e' with q | q | q | q <;> rw [q] <;> simp
      · rw [upd_ne (Nat.ne_of_lt (Nat.lt_of_lt_of_le (lt b hb) hT))]
        exact (hf b hb).1
    done := by
      intro X hP hw hK hc i pins s σ H E I hf st hg
      subst hP hw hK
      have hi : i = min x.cps.size y.cps.size := hg
      subst hi
      refine (go X.A (I.ok.hd hc)).stops s (fun s1 => Inv X pins σ H s1) E st fun h' tk hk _ => ?_
      exact I.turnedL (t' := tk) (ch := ((N + 4) :: (N + 2) :: (N + 3) :: ([N] ++ [N + 1]))) (fun b o hb e => hk b o (fun z => hb (by
        have e' : b = N + 4 ∨ b = N + 3 ∨ b = N ∨ b = N + 1 := by simpa using z
        rcases e' with q | q | q | q <;> rw [q] <;> simp)) e) hf
    self := fun A i s Q E st h => wpAny_pyIter_zip st.1 h }
def iZips (ta : TA) : TI := fun σ H R => ta σ H fun vs H1 => ∃ x y, vs = [.str x, .str y] ∧ R (Itzs x y) H1
theorem pi_zips {X : Cx} {e e2 : Expr} {ta : TA} {p pos tpos : Pos} {elts : List Expr} {kk : Nat} (hg : Gl X "zip") (hm : X.mg "zip" = none) (ha : PA X [e, e2] ta)
    (hs : starEach [e, e2] X.env = (false, eval e X.env) :: starEach [e2] X.env := by rfl) (hpl : (backTo pos (starEach [e2] X.env)).any (·.1) = false := by rfl) :
    PI X (.Tuple elts kk tpos) (.Call (.Name "zip" p) [e, e2] [] pos) (iZips ta) := by
  refine ⟨fun pins s σ H R I h => ?_⟩
  refine Call_ (ld_blt I hg hm PyProof.Rows.boot_zip (PyProof.Rows.callWith_type1 (thn (ha.run pos pins s σ H _ I h) fun us s1 h1 => ?_) hs hpl))
  obtain ⟨vs, H1, I1, r1, x, y, rfl, q⟩ := h1
  cases r1 with
  | cons r rr =>
    cases rr with
    | cons r' rr =>
      cases rr
      obtain ⟨t, rfl⟩ := r
      obtain ⟨u, rfl⟩ := r'
      refine zip_begins2 (begins_text x t) (begins_text y u) trivial trivial fun h' hz hTI hTO g1 g2 hsz hk => wpAny_pyIter_zip hz ?_
      have I2 : Inv X pins σ H1 { s1 with heap := h' } := I1.kept (t' := s1.toks) hk
      refine ⟨s1.heap.objs.size + 4, _, _, _, H1, rfl, I2, turn_zips s1.heap.objs.size x y t u, ⟨hz, hTI, ⟨_, _, hTO⟩, ⟨_, g1, rfl, rfl⟩, ⟨_, g2, rfl, rfl⟩⟩, fun c hcm => ?_, q⟩
      have e' : c = s1.heap.objs.size + 4 ∨ c = s1.heap.objs.size + 2 ∨ c = s1.heap.objs.size + 3 ∨ c = s1.heap.objs.size ∨ c = s1.heap.objs.size + 1 := by simpa using hcm
      have hle : s1.heap.objs.size ≤ c := by
        rcases e' with z | z | z | z | z <;> rw [z]
        · exact Nat.le_add_right _ _
        · exact Nat.le_add_right _ _
        · exact Nat.le_add_right _ _
        · exact Nat.le_refl _
        · exact Nat.le_add_right _ _
      exact I1.fpOk hle (I1.hok.fresh hle)
end Gx
namespace Wa
open PySem PySem.Spec PyProof.Rows L2
/-! what stood stands; tables of code may have grown -/
structure Gr (H H' : Hp) : Prop where
  keep : ∀ b o, H b = some o → (∀ ps, o ≠ .tbl ps) → H' b = some o
  tab : ∀ b, GxR.TabG H b → GxR.TabG H' b
  there : ∀ b o, H b = some o → ∃ o', H' b = some o'
theorem Gr.refl (H : Hp) : Gr H H := ⟨fun _ _ e _ => e, fun _ h => h, fun _ o e => ⟨o, e⟩⟩
theorem Gr.of {H H' : Hp} (s : Same H H') : Gr H H' := ⟨fun b o e _ => s b o e, fun b h => by
  obtain ⟨ps, e, t⟩ := h
  exact ⟨ps, s _ _ e, t⟩, fun b o e => ⟨o, s b o e⟩⟩
theorem Gr.trans {H H1 H2 : Hp} (a : Gr H H1) (b : Gr H1 H2) : Gr H H2 := ⟨fun c o e n => b.keep c o (a.keep c o e n) n, fun c h => b.tab c (a.tab c h), fun c o e => by
  obtain ⟨o1, e1⟩ := a.there c o e
  exact b.there c o1 e1⟩
theorem Gr.tabbed {P : Addr} {H H' : Hp} (h : GxR.TabG H P) (t : GxR.Tabbed P H H') : Gr H H' where
  keep := fun b o e n => by
    by_cases hb : b = P
    · obtain ⟨ps, e2, _⟩ := h
      rw [hb, e2] at e
      cases e
      exact absurd rfl (n ps)
    · rw [t.2 b hb]
      exact e
  tab := fun b h2 => by
    by_cases hb : b = P
    · rw [hb]; exact t.1
    · obtain ⟨ps, e, q⟩ := h2
      exact ⟨ps, by rw [t.2 b hb]; exact e, q⟩
  there := fun b o e => by
    by_cases hb : b = P
    · obtain ⟨ps, e2, _⟩ := t.1
      exact ⟨_, by rw [hb]; exact e2⟩
    · exact ⟨o, by rw [t.2 b hb]; exact e⟩
theorem Gr.new {H H' : Hp} (g : Gr H H') {p : Addr} {o : HO} (n : H' p = none) : Gr H (upd H' p o) := g.trans (Gr.of (same_upd n))
theorem Gr.free {H H' : Hp} (g : Gr H H') {l : Addr} (h : H' l = none) : H l = none := by
  cases q : H l with
  | none => rfl
  | some o =>
    obtain ⟨o', e⟩ := g.there l o q
    rw [e] at h
    cases h
theorem Gr.lst {H H' : Hp} (g : Gr H H') {a : Addr} {xs : List V} (h : H a = some (.lst xs)) : H' a = some (.lst xs) := g.keep _ _ h fun _ z => by cases z
theorem Gr.tup {H H' : Hp} (g : Gr H H') {a : Addr} {xs : List V} (h : H a = some (.tup xs)) : H' a = some (.tup xs) := g.keep _ _ h fun _ z => by cases z
theorem Gr.seq {K : PySem.W.Frag} {H H' : Hp} {a : Addr} {xs : List V} (g : Gr H H') (h : SqL K H a xs) : SqL K H' a xs := by
  rcases h with (h | ⟨o, h⟩) | h
  · exact .inl (.inl (g.lst h))
  · exact .inl (.inr ⟨o, g.keep _ _ h fun _ z => by cases z⟩)
  · exact .inr h
/-- a change at an address that was free at the start -/
theorem Gr.over {H H1 : Hp} {p : Addr} {o : HO} (g : Gr H H1) (h : H p = none) : Gr H (upd H1 p o) where
  keep := fun b u e n => by
    rw [upd_ne (ne_of_none e h)]
    exact g.keep b u e n
  tab := fun b hb => by
    obtain ⟨ps, e, q⟩ := g.tab b hb
    obtain ⟨ps0, e0, _⟩ := hb
    exact ⟨ps, by rw [upd_ne (ne_of_none e0 h)]; exact e, q⟩
  there := fun b u e => by
    rw [upd_ne (ne_of_none e h)]
    exact g.there b u e
/-- a def whose code is known -/
theorem okC {P : Program} {w : World} {K : PySem.W.Frag} {mg : Str → Option Value} {base : Heap} {x qual : Str} {st : Stmt} {f c : Addr} {fd : FuncData} {N ps : List Str} {k : Nat} {sp : Sp} (F : Fun K x qual st f fd) (hcd : fd.code = .ref c) (S : FnScope N ps (defScope st)) (len : ∀ vs H Q E, sp vs H Q E → vs.length = ps.length)
    (hbody : ∀ (A : Around) (outer : List Env) (s : Shared) (H : Hp) (vs : List V) (Q : VK) (E : XK), Room k (A.deeper (envOfC qual (defScope st) s.heap.objs.size f (.ref c))) → sp vs H Q E →
      ∃ t, PSs (cxOf CX0 P w K mg base N qual (defScope st) f (.ref c) A outer s H E).nox (defBody st) t ∧ t { nx := fun _ H' => Q .non H', rt := Q } (start N vs) H) : FnOk P w K mg base CX0 (k + 1) f fd ps sp := by
  obtain ⟨oc, od, kV, doc, pm, an, cdv, ct, osl, rfl, lk, hco⟩ := F.ex
  have e : cdv = .ref c := hcd
  subst e
  refine fn_of lk hco S len fun A outer s H vs Q E hr hsp => ?_
  obtain ⟨t, h, q⟩ := hbody A outer s H vs Q E hr hsp
  exact ⟨t, h.nox, q⟩
/-- the tables of the text's defs, as the head leaves them -/
def TabsOf (q : Program) (mg : Str → Option Value) (h : Heap) : Prop := ∀ d ∈ recsOf q, ∃ a o fd c P, mg d.name = some (.ref a) ∧ h.get? a = some o ∧ o.data = .func fd ∧ fd.code = .ref c ∧ h.IsCode c P #[] ∧ h.TableAt c P #[]
theorem tab_at {q : Program} {K : PySem.W.Frag} {mg : Str → Option Value} {h : Heap} {x : Str} {f c P : Addr} {oc e : Value} {od dd : Option Addr} {fd : FuncData} {sl sl2 : Array (Option Value)} {vs : Array Value} (T : TabsOf q mg h) (hd : ((recsOf q).any fun r => r.name == x) = true) (KX : K.In h)
    (gm : mg x = some (.ref f)) (lk : K.lookup f = some ⟨oc, od, .func fd, sl⟩) (hc : fd.code = .ref c) (lc : K.lookup c = some ⟨e, dd, .fields vs, sl2⟩) (hv : vs[11]? = some (.ref P)) :
    h.get? P = some { cls := .none, data := .fields #[] } ∧ PySem.W.CodeHd h c P := by
  obtain ⟨d, hm, hn⟩ := List.any_eq_true.mp hd
  obtain ⟨a, o, fd', c', P', h1, h2, h3, h4, h5, h6⟩ := T d hm
  rw [beq_iff_eq.mp hn, gm] at h1
  cases h1
  rw [KX _ _ lk] at h2
  cases h2
  cases h3
  rw [hc] at h4
  cases h4
  obtain ⟨⟨ob, us, e1, _, e3, e4⟩, hP⟩ := _root_.id h6
  rw [KX _ _ lc] at e1
  cases e1
  cases e3
  rw [hv] at e4
  cases e4
  exact ⟨hP, .of h5 h6⟩
/-- the end of a law's row, with the tables of its defs -/
theorem walk_tabs {l : PySem.W.OpenLaw} {n k : Nat} {q : Program} {loose : List Str} {XP : (Str → Option Value) → Heap → Prop} {YP : World → Heap → Prop} {d : DefRec} {K : Params → PySem.W.Frag} {CX : World → CXT} {x : Str} (hn : l.most = some n) (hn2 : n ≤ sizeLine) (hdf : d.params.defaults = []) (hr : Room k callerA)
    (hY : ∀ (w : World) (h : Heap), YP w h → (K w.params).In h)
    (F : ∀ (w : World) (mg : Str → Option Value) (fa : Addr) (h : Heap), (K w.params).In h → h.Ns mainGlobals mg → mg d.name = some (.ref fa) → TabsOf q mg h → LamX.LawAtS l w (K w.params) (CX w) k n x mg fa h)
    (hCX : ∀ (w : World) (H : Hp) (s : Shared) (e : Value) (s' : Shared), CX w [] H s (fun _ _ _ => False) e s' → False) : PySem.W.WalkO q loose XP YP l.row.toRowW d [] (fun f vs => PySem.call f vs) := by
  refine Att.attach_callB hn hdf fun w s₀ s₁ mg mb fa o pm cd doc a vs ns G Y ho hd hcd hmg hobj hints hlen hbits hg => ?_
  have KX := hY w _ Y
  obtain ⟨fd, cs, sp, t1, t2, t3, hb, hsp, hF⟩ := F w mg fa _ KX G.T.g hmg G.T.tab
  exact LamX.law_callTs KX G.T.g G.T.b G.T.builtins G.T.nolimit hg t1 t2 t3 G.T.bmain hobj hints (Nat.le_trans hlen hn2) hr hF hb (fun H hH hS => hsp H a ns hlen hbits hH hS) fun H e s' => hCX w H s₁ e s'
end Wa
namespace Wa
open PySem PySem.Spec PyProof.Rows L2
/-! how often a sign stands in a text -/
theorem occ_count (x : Str) (c : Nat) : ∀ (l : List Nat) (st : Array Nat × Nat) (k : Nat), st.1.size ≤ k → (∀ i ∈ l, st.2 ≤ i) → l.Pairwise (· < ·) → k + l.length ≤ x.length + 1 →
    (forIn l st (StrLaws.occBody x ⟨#[c]⟩ x.length (x.length + 1))).run.fst.size = st.1.size + (l.filter fun i => decide (x.cps.toList[i]? = some c)).length
  | [], st, k, _, _, _, _ => rfl
  | a :: l, st, k, hk, hf, hp, hl => by
    rw [List.forIn_cons]
    have ha := hf a List.mem_cons_self
    have hp' := List.pairwise_cons.mp hp
    have hl' : k + (l.length + 1) ≤ x.length + 1 := hl
    by_cases hc : x.cps.toList[a]? = some c
    · obtain ⟨h1, h2⟩ := (StrLaws.subAt_one x c a).mpr hc
      have e : StrLaws.occBody x ⟨#[c]⟩ x.length (x.length + 1) a st = pure (ForInStep.yield (st.1.push a, a + (⟨#[c]⟩ : Str).length)) := by
        unfold StrLaws.occBody
        rw [if_pos ⟨⟨⟨by omega, ha⟩, h1⟩, h2⟩]
      rw [e]
      show (forIn l (st.1.push a, a + 1) (StrLaws.occBody x ⟨#[c]⟩ x.length (x.length + 1))).run.fst.size = _
      rw [occ_count x c l (st.1.push a, a + 1) (k + 1) (by show (st.1.push a).size ≤ k + 1; rw [Array.size_push]; omega) (fun i hi => hp'.1 i hi) hp'.2 (by omega)]
      show (st.1.push a).size + _ = _
      rw [Array.size_push, List.filter_cons_of_pos (by simp [hc]), List.length_cons]
      omega
    · have e : StrLaws.occBody x ⟨#[c]⟩ x.length (x.length + 1) a st = pure (ForInStep.yield (st.1, st.2)) := by
        unfold StrLaws.occBody
        rw [if_neg fun z => hc ((StrLaws.subAt_one x c a).mp ⟨z.1.2, z.2⟩)]
      rw [e]
      show (forIn l (st.1, st.2) (StrLaws.occBody x ⟨#[c]⟩ x.length (x.length + 1))).run.fst.size = _
      rw [occ_count x c l (st.1, st.2) k hk (fun i hi => hf i (List.mem_cons_of_mem _ hi)) hp'.2 (by omega)]
      rw [List.filter_cons_of_neg (by rw [decide_eq_false hc]; exact Bool.false_ne_true)]
theorem filter_at (c : Nat) : ∀ (l : List Nat), ((List.range l.length).filter fun i => decide (l[i]? = some c)).length = l.count c
  | [] => rfl
  | a :: l => by
    have ih := filter_at c l
    rw [List.length_cons, List.range_succ_eq_map, List.filter_cons, List.filter_map, List.count_cons]
    have e : ((fun i => decide ((a :: l)[i]? = some c)) ∘ Nat.succ) = fun i => decide (l[i]? = some c) := by
      funext i
      show decide ((a :: l)[i + 1]? = some c) = _
      rw [List.getElem?_cons_succ]
    rw [e]
    by_cases h : a = c
    · subst h
      rw [if_pos (by simp), List.length_cons, List.length_map, ih, if_pos (by simp)]
    · rw [if_neg (by simp [h]), List.length_map, ih, if_neg (by simp [h])]
      rfl
theorem count_sign (x : Str) (c : Nat) : Txt.count x ⟨#[c]⟩ = ((x.cps.toList.count c : Nat) : Int) := by
  show ((Builtin.Str.occurrences x ⟨#[c]⟩ 0 x.length (x.length + 1)).length : Int) = _
  rw [StrLaws.occ_eq, Array.length_toList]
  have hl : x.cps.toList.length = x.length := Array.length_toList
  rw [occ_count x c _ (#[], 0) 0 (Nat.le_refl _) (fun _ _ => Nat.zero_le _) (List.pairwise_lt_range' ..) (by rw [List.length_range']; omega)]
  have e : (List.range' 0 (x.length + 1 - 0)) = List.range (x.length + 1) := by rw [List.range_eq_range']; rfl
  rw [e, List.range_succ, List.filter_append, List.length_append, ← hl, filter_at]
  have e2 : x.cps.toList[x.cps.toList.length]? = none := List.getElem?_eq_none (Nat.le_refl _)
  rw [List.filter_cons_of_neg (by simp)]
  simp
/-! a text so many times -/
def repS (z : Str) (k : Nat) : Str := ⟨(List.replicate k z.cps).foldl (· ++ ·) #[]⟩
theorem foldl_cps (z : Array Nat) : ∀ (k : Nat) (b : Array Nat), ((List.replicate k z).foldl (· ++ ·) b).toList = b.toList ++ (List.replicate k z.toList).flatten
  | 0, b => by simp
  | k + 1, b => by
    rw [List.replicate_succ, List.foldl_cons, foldl_cps z k, List.replicate_succ, List.flatten_cons, Array.toList_append, List.append_assoc]
theorem repS_list (z : Str) (k : Nat) : (repS z k).cps.toList = (List.replicate k z.cps.toList).flatten := by
  show ((List.replicate k z.cps).foldl (· ++ ·) #[]).toList = _
  rw [foldl_cps]
  rfl
theorem repS_len (z : Str) (k : Nat) : (repS z k).length = k * z.length := by
  show (repS z k).cps.size = _
  rw [← Array.length_toList, repS_list, List.length_flatten, List.map_replicate, List.sum_replicate_nat, Array.length_toList]
  rfl
theorem op_repS {X : Cx} : OpR X (binaryOp .Mult) (fun x y H Q => ∃ (z : Str) (k : Nat), x = .str z ∧ y = .int k ∧ z.length ≤ 1000 ∧ k ≤ 1000 ∧ Q (.str (repS z k)) H) := by
  intro pins s σ H x y v u Q I rx ry h
  obtain ⟨z, k, rfl, rfl, h1, h2, q⟩ := h
  obtain ⟨t, rfl⟩ := rx
  obtain ⟨t', rfl⟩ := ry
  have hm : z.length * k ≤ 1000000 := Nat.le_trans (Nat.mul_le_mul h1 h2) (by decide)
  refine PySem.P.mul_str ?_ (fun h3 _ => ?_) (fun h3 _ => ?_) ?_
  · rw [decide_eq_false (by omega), decide_eq_false (by omega)]
    rfl
  · have e : (1000 : Int) ≤ (2 ^ 63 - 1) / (k : Int) := by
      refine Int.le_ediv_of_mul_le (by omega) ?_
      omega
    omega
  · rw [Int.toNat_natCast]
    show Builtin.Str.tooLong (z.length * k) = false
    unfold Builtin.Str.tooLong
    exact decide_eq_false (by
      have : z.length * k ≤ sizeLine := Nat.le_trans hm (by decide)
      omega)
  · by_cases c1 : (k : Int) < 1
    · have hk : k = 0 := by omega
      subst hk
      rw [if_pos c1]
      exact ⟨by decide, .str (repS z 0), H, I.tok _, ⟨_, rfl⟩, q⟩
    · rw [if_neg c1]
      by_cases c2 : ((k : Int) == 1 || z.length == 0) = true
      · rw [if_pos c2]
        have e : repS z k = z := by
          apply str_ext
          rw [repS_list]
          rcases Bool.or_eq_true_iff.mp c2 with c | c
          · have hk : k = 1 := by have := beq_iff_eq.mp c; omega
            subst hk
            simp
          · have hz : z.cps.toList = [] := List.eq_nil_of_length_eq_zero (by rw [Array.length_toList]; exact beq_iff_eq.mp c)
            rw [hz]
            simp
        rw [e] at q
        exact ⟨.str z, H, I, ⟨_, rfl⟩, q⟩
      · rw [if_neg c2]
        refine ⟨?_, .str (repS z k), H, I.tok _, ⟨_, rfl⟩, ?_⟩
        · rw [Int.toNat_natCast]
          show (repS z k).length ≤ sizeLine
          rw [repS_len, Nat.mul_comm]
          exact Nat.le_trans hm (by decide)
        · exact q
theorem rep_nought (k : Nat) : repS ("0" : Str) k = wd (List.replicate k 0) := by
  apply str_ext
  rw [repS_list, wd_list]
  have e : ("0" : Str).cps.toList = [48] := by decide +kernel
  rw [e]
  induction k with
  | zero => rfl
  | succ k ih => rw [List.replicate_succ, List.flatten_cons, ih, List.replicate_succ]; rfl
/-! the turns of a generator, counted -/
theorem turns_n {J : It} {g : TG} {tt : TT} {te : TE} {vs : List Nat} {σ : L2.St} {on : List V → V → Hp → Prop → Prop} {fin : List V → Hp → Prop} (n : Nat) (Pv : Nat → List V → Hp → Prop) {H0 : Hp} (h0 : Pv 0 [] H0)
    (hs : ∀ i acc H, i < n → Pv i acc H → J.go i H ∧ ∀ x H', J.yld i H x H' → g x (wipe σ vs) H' fun σ2 H2 => wipe σ2 vs = wipe σ vs ∧ tt σ2 H2 fun b H3 => if b = true then te σ2 H3 fun y H4 => on acc y H4 (Pv (i + 1) (acc ++ [y]) H4) else Pv (i + 1) acc H3)
    (hd : ∀ acc H, Pv n acc H → J.stop n H ∧ fin acc H) : ∃ W : Nat → Nat → List V → Hp → Prop, (∃ m, W 0 m [] H0) ∧ Gx.Turns J g tt te vs σ on fin W := by
  refine ⟨fun i m acc H => m = n - i ∧ i ≤ n ∧ Pv i acc H, ⟨n, by simp, Nat.zero_le _, h0⟩, ?_⟩
  rintro i m acc H ⟨rfl, hi, p⟩
  by_cases hlt : i < n
  · obtain ⟨g, t⟩ := hs i acc H hlt p
    exact .inr ⟨g, Pv (i + 1), fun acc' H' p' => ⟨n - (i + 1), by omega, rfl, hlt, p'⟩, t⟩
  · have e : i = n := by omega
    subst e
    exact .inl (hd acc H p)
end Wa
namespace Wa
open PySem PySem.Spec PyProof.Rows L2
/-- a def of the text, as callers use it -/
structure Df (K : PySem.W.Frag) (mg : Str → Option Value) (x : Str) (st : Stmt) (ps : List Str) (f : Addr) (fd : FuncData) : Prop where
  F : Fun K x x st f fd
  b : Binds K fd ps []
  g : mg x = some (.ref f)
theorem tri_nil : TriplesOk (#[] : Array Value).toList := by
  show TriplesOk []
  trivial
def spLaw (K : PySem.W.Frag) (Ps : List Addr) : Sp := fun vs H Q _ => ∃ (a : Addr) (ns : List Int), vs = [.ref a] ∧ SqL K H a (ns.map V.int) ∧ (∀ P ∈ Ps, GxR.TabG H P) ∧ ∀ H', Q (.bl true) H'
theorem iteTB {A B : Prop} {b : Bool} (e : b = true) (h : A) : if b = true then A else B := by
  rw [if_pos e]
  exact h
theorem iteFB {A B : Prop} {b : Bool} (e : b = false) (h : B) : if b = true then A else B := by
  rw [if_neg (by rw [e]; exact Bool.false_ne_true)]
  exact h
end Wa
namespace Wa
open PySem PySem.Spec PyProof.Rows L2
def topS (i : Nat) : Stmt := PySem.Challenge.pw_wordsapart_k04_counts_of_distances.main.body.getD i (.Pass ⟨0, 0, 0, 0⟩)
abbrev sMarks : Stmt := topS 2
abbrev sGap : Stmt := topS 3
abbrev sCounts : Stmt := topS 4
abbrev sDraws : Stmt := topS 6
abbrev sPop : Stmt := topS 7
abbrev sSize : Stmt := topS 8
abbrev sWord : Stmt := topS 9
abbrev sFar : Stmt := topS 10
abbrev sList : Stmt := topS 11
abbrev sWhole : Stmt := topS 12
abbrev sAll : Stmt := topS 13
abbrev sMany : Stmt := topS 14
abbrev sLCounts : Stmt := topS 15
abbrev sLaw : Stmt := topS 16
end Wa
namespace Wa
open PySem PySem.Spec PyProof.Rows L2
/-! the script's draws: popping -/
/-- what pop hands back, and what is left -/
def popV (ds : List Int) : Int := ds.getLast?.getD 0
theorem popV_snoc (r : List Int) (d : Int) : popV (r ++ [d]) = d := by
  unfold popV
  rw [List.getLast?_append]
  rfl
/-- draws: numbers from nought on, below a bound -/
def Drawn (ds : List Int) : Prop := ∀ d ∈ ds, 0 ≤ d ∧ d < 2147483648
theorem Drawn.pop {ds : List Int} (h : Drawn ds) : 0 ≤ popV ds ∧ popV ds < 2147483648 := by
  unfold popV
  cases e : ds.getLast? with
  | none => exact ⟨Int.le_refl _, by decide⟩
  | some d => exact h d (List.mem_of_getLast? e)
theorem Drawn.rest {ds : List Int} (h : Drawn ds) : Drawn ds.dropLast := fun d hd => h d ((List.dropLast_sublist ds).subset hd)
theorem scPop : FnScope ["_law_draws_here"] ["_law_draws_here"] (defScope sPop) := ⟨rfl, rfl, rfl, by decide +kernel, rfl, by decide +kernel, by decide +kernel⟩
def spPop : Sp := fun vs H Q _ => ∃ (a : Addr) (ds : List Int), vs = [.ref a] ∧ H a = some (.lst (ds.map V.int)) ∧ ∀ H', H' a = some (.lst (ds.dropLast.map V.int)) → (∀ b, b ≠ a → ∀ o, H b = some o → H' b = some o) → Q (.int (popV ds)) H'
section
variable {P : Program} {w : World} {K : PySem.W.Frag} {mg : Str → Option Value} {base : Heap}
theorem ok_pop {f : Addr} {fd : FuncData} {k : Nat} (F : Fun K "_law_pop" "_law_pop" sPop f fd) : FnOk P w K mg base CX0 (k + 1) f fd ["_law_draws_here"] spPop := by
  refine F.ok scPop (fun vs H Q E h => ?_) (fun cdv A outer s H vs Q E hr h => ?_)
  · obtain ⟨a, ds, rfl, _⟩ := h
    rfl
  · obtain ⟨a, ds, rfl, ha, q⟩ := h
    refine ⟨_, pss_cons (ps_if (pt_cmpR (op_eqD hr.units) (pv 0) (pe_lst pa_nil) (nomark _)) (pss_one (ps_ret pe_int)) pss_nil)
      (pss_one (ps_ret (pe_bm0 PySem.F.plainAttrs_list PySem.F.slot_list_pop PySem.F.type_list_pop mt_pop (pv 0)))), ?_⟩
    refine ⟨.ref a, rfl, Nat.zero_le _, fun p np => ?_⟩
    have ha' : (upd H p (.lst [])) a = some (.lst (ds.map V.int)) := same_upd np _ _ ha
    refine ⟨dns ds, dns [], .lst (sq ha') (dp_ns ds), .lst (sq upd_same) .nil, sh_ns _, sh_ns _, _, rfl, ?_⟩
    rw [eqv_ns]
    refine ite2 (fun e => ?_) (fun e => ?_)
    · have e0 : ds = [] := of_decide_eq_true e
      subst e0
      exact q _ ha' fun b nb o ho => same_upd np _ _ ho
    · have e0 : ds ≠ [] := fun z => e (decide_eq_true z)
      refine ⟨.ref a, rfl, .inl ⟨rfl, _, sq ha'⟩, a, ds.map V.int, .int (popV ds), rfl, rfl, ha', ?_, ?_⟩
      · rw [List.length_map, List.getElem?_map]
        rw [← List.getLast?_eq_getElem?]
        unfold popV
        cases z : ds.getLast? with
        | none => exact absurd (List.getLast?_eq_none_iff.mp z) e0
        | some d => rfl
      · refine q _ ?_ fun b nb o ho => ?_
        · rw [upd_same, List.map_dropLast]
        · rw [upd_ne nb]
          exact same_upd np _ _ ho
end
end Wa
namespace Wa
open PySem PySem.Spec PyProof.Rows L2
/-! signs and a length -/
theorem scSize : FnScope ["_law_draws_here", "_law_number", "_law_q"] ["_law_draws_here"] (defScope sSize) := ⟨rfl, rfl, rfl, by decide +kernel, rfl, by decide +kernel, by decide +kernel⟩
/-- signs and lengths as the document bounds them -/
def QN (q n : Nat) : Prop := (q = 2 ∧ 1 ≤ n ∧ n ≤ 8) ∨ (q = 3 ∧ 1 ≤ n ∧ n ≤ 5)
theorem QN.le {q n : Nat} (h : QN q n) : q ≤ 3 ∧ n ≤ 8 := by
  rcases h with ⟨h1, h2, h3⟩ | ⟨h1, h2, h3⟩ <;> omega
def spSize : Sp := fun vs H Q _ => ∃ (a : Addr) (ds : List Int), vs = [.ref a] ∧ H a = some (.lst (ds.map V.int)) ∧ Drawn ds ∧
  ∀ H' p q n, QN q n → H p = none → H' p = some (.tup [.int (q : Nat), .int (n : Nat)]) → H' a = some (.lst (ds.dropLast.map V.int)) → Others a H H' → Q (.ref p) H'
section
variable {P : Program} {w : World} {K : PySem.W.Frag} {mg : Str → Option Value} {base : Heap}
theorem ok_size {f fP : Addr} {fd fdP : FuncData} {k : Nat} (F : Fun K "_law_size" "_law_size" sSize f fd) (FP : Fun K "_law_pop" "_law_pop" sPop fP fdP) (bP : Binds K fdP ["_law_draws_here"] []) (gP : mg "_law_pop" = some (.ref fP)) :
    FnOk P w K mg base CX0 (k + 2) f fd ["_law_draws_here"] spSize := by
  have GP : FnOk P w K mg base CX0 (k + 1) fP fdP ["_law_draws_here"] spPop := ok_pop FP
  refine F.ok scSize (fun vs H Q E h => ?_) (fun cdv A outer s H vs Q E hr h => ?_)
  · obtain ⟨a, ds, rfl, _⟩ := h
    rfl
  · obtain ⟨a, ds, rfl, ha, hd, q⟩ := h
    refine ⟨_, pss_cons (ps_set (i := 1) scSize.nd rfl (.inl rfl) (pe_call GP hr (by rfl) gP FP.kp bP .nil pass0 (pa_cons (pv 0) pa_nil)))
      (pss_cons (ps_set (i := 2) scSize.nd rfl (.inl rfl) (pe_op op_add pe_int (pe_op op_mod (pv 1) pe_int)))
      (pss_one (ps_ret (pe_tup (pa_cons (pv 2) (pa_cons (pe_op op_add pe_int (pe_op op_mod (pe_op op_fdiv (pv 1) pe_int) (pe_ix ix_list (pe_lst (pa_cons pe_int (pa_cons pe_int pa_nil))) (pe_op op_sub (pv 2) pe_int) (fun _ _ => rfl)))) pa_nil)))))), ?_⟩
    refine ⟨.ref a, rfl, a, ds, rfl, ha, fun H1 e1 o1 => ?_⟩
    obtain ⟨hp0, hp1⟩ := hd.pop
    generalize popV ds = x at hp0 hp1
    -- q = 2 + x % 2
    refine ⟨.int x, rfl, x, 2, rfl, rfl, (show (0 : Int) < 2 by decide), 2, x % 2, rfl, rfl, ?_⟩
    have hm : x % 2 = 0 ∨ x % 2 = 1 := by omega
    -- the tuple
    refine ⟨.int (2 + x % 2), rfl, .int x, rfl, x, 2, rfl, rfl, ⟨by decide, by decide⟩, by decide, fun p np => ?_⟩
    refine ⟨.int (2 + x % 2), rfl, 2 + x % 2, 2, rfl, rfl, p, [.int 8, .int 5], 2 + x % 2 - 2, .int (if x % 2 = 0 then 8 else 5), rfl, rfl, sq upd_same, ?_, ?_⟩
    · rcases hm with e | e <;> rw [e] <;> rfl
    have hs1 : Same H1 (upd H1 p (.lst [.int 8, .int 5])) := same_upd np
    have nap : a ≠ p := ne_of_none e1 np
    refine ⟨x / 2, if x % 2 = 0 then 8 else 5, rfl, rfl, by split <;> decide, 1, _, rfl, rfl, (show 2 ≤ sizeLine by decide), fun t nt => ?_⟩
    have npt : a ≠ t := ne_of_none (hs1 _ _ e1) nt
    have oth : Others a H (upd (upd H1 p (.lst [.int 8, .int 5])) t (.tup [.int (2 + x % 2), .int (1 + x / 2 % (if x % 2 = 0 then 8 else 5))])) :=
      fun b o nb ho => same_upd nt _ _ (hs1 _ _ (o1 b nb o ho))
    refine q _ t (2 + x % 2).toNat (1 + x / 2 % (if x % 2 = 0 then 8 else 5)).toNat ?_ ?_ ?_ ?_ oth
    · rcases hm with e | e
      · rw [if_pos e, e]
        refine .inl ⟨rfl, by omega, by omega⟩
      · rw [if_neg (by omega), e]
        refine .inr ⟨rfl, by omega, by omega⟩
    · cases z : H t with
      | none => rfl
      | some o =>
        by_cases et : t = a
        · exact absurd et.symm npt
        · have := hs1 _ _ (o1 t et o z)
          rw [this] at nt
          cases nt
    · have e2 : (0 : Int) ≤ x / 2 % (if x % 2 = 0 then 8 else 5) := Int.emod_nonneg _ (by split <;> decide)
      rw [upd_same, Int.toNat_of_nonneg (by omega), Int.toNat_of_nonneg (by omega)]
    · rw [upd_ne npt]
      exact hs1 _ _ e1
end
end Wa
namespace Wa
open PySem PySem.Spec PyProof.Rows L2
/-! the draws of a script -/
theorem scDraws : FnScope ["_law_script", "_law_turn", "_law_many_here", "_law_cells", "_law_found", "_law_left", "_law_k", "_law_at", "_law_place", "_law_number", "_law_cell"] ["_law_script", "_law_turn", "_law_many_here"] (defScope sDraws) := ⟨rfl, rfl, rfl, by decide +kernel, rfl, by decide +kernel, by decide +kernel⟩
def spDraws (K : PySem.W.Frag) : Sp := fun vs H Q _ => ∃ (a : Addr) (ns : List Int) (t m : Nat), vs = [.ref a, .int t, .int m] ∧ SqL K H a (ns.map V.int) ∧ t ≤ 1000 ∧ m ≤ 1000 ∧
  ∀ H' p ds, Same H H' → H p = none → ds.length = m → Drawn ds → H' p = some (.lst (ds.map V.int)) → Q (.ref p) H'
theorem cut63 (ns : List Int) : cutV (ns.map V.int) none (some 63) = (ns.take 63).map V.int := by
  unfold cutV
  rw [HT.sIx_none, show HT.sIx (ns.map V.int).length (ns.map V.int).length (some 63) = min 63 (ns.map V.int).length from HT.sIx_nat _ _ 63, List.drop_zero, Nat.sub_zero, List.length_map, ← List.map_take]
  congr 1
  by_cases h : ns.length ≤ 63
  · rw [List.take_of_length_le (by omega), List.take_of_length_le h]
  · rw [show min 63 ns.length = 63 by omega]
theorem drawn_snoc {ds : List Int} {d : Int} (h : Drawn ds) (h0 : 0 ≤ d) (h1 : d < 2147483648) : Drawn (ds ++ [d]) := fun x hx => by
  rcases List.mem_append.mp hx with z | z
  · exact h x z
  · rw [List.mem_singleton.mp z]
    exact ⟨h0, h1⟩
theorem drawn_nil : Drawn [] := fun x hx => absurd hx (by simp)
theorem ixN_at {n : Nat} {k : Int} (h0 : 0 ≤ k) (h : k < n) : ixN n k = some k.toNat := by
  unfold ixN
  rw [if_pos h0, if_pos h]
theorem at_int {xs : List Int} {k : Int} (h0 : 0 ≤ k) (h : k < xs.length) : ∃ d, atI (xs.map V.int) k = some (.int d) := by
  obtain ⟨j, rfl⟩ := Int.eq_ofNat_of_zero_le h0
  have hj : j < xs.length := by omega
  refine ⟨xs[j], atI_nat ?_⟩
  rw [List.getElem?_map, List.getElem?_eq_getElem hj]
  rfl
theorem set_int {xs : List Int} {j : Nat} {d : Int} : (xs.map V.int).set j (.int d) = (xs.set j d).map V.int := List.map_set.symm
section
variable {P : Program} {w : World} {K : PySem.W.Frag} {mg : Str → Option Value} {base : Heap}
theorem ok_draws {f : Addr} {fd : FuncData} {k : Nat} (F : Fun K "_law_draws" "_law_draws" sDraws f fd) (ml : mg "len" = none) (mr : mg "range" = none) : FnOk P w K mg base CX0 (k + 1) f fd ["_law_script", "_law_turn", "_law_many_here"] (spDraws K) := by
  refine F.ok scDraws (fun vs H Q E h => ?_) (fun cdv A outer s H vs Q E hr h => ?_)
  · obtain ⟨a, ns, t, m, rfl, _⟩ := h
    rfl
  · obtain ⟨a, ns, t, m, rfl, ha, ht, hm, q⟩ := h
    refine ⟨_, pss_cons (ps_set (i := 3) scDraws.nd rfl (.inl rfl) (pe_op op_cat (pe_slice sl_list (pv 0) po_none (po_some pe_int)) (pe_lst (pa_cons (pv 1) pa_nil))))
      (pss_cons (ps_set (i := 4) scDraws.nd rfl (.inl rfl) (pe_lst pa_nil))
      (pss_cons (ps_if (pt_cmpR op_eq (pe_op op_mod (pe_op op_fdivW (pe_ix ix_list (pv 3) pe_int (fun _ _ => rfl)) pe_int) pe_int) pe_int (nomark _))
        (pss_cons (ps_setLc (i := 5) (own := [("_law_cell", 10)]) (g := gName 10) (tt := tYes) rfl scDraws.nd rfl rfl (sw_true rfl rfl rfl (by decide +kernel)) (pi_list (pv 3))
            (blkOk_by (own := [("_law_cell", 10)]) (N := ["_law_script", "_law_turn", "_law_many_here", "_law_cells", "_law_found", "_law_left", "_law_k", "_law_at", "_law_place", "_law_number", "_law_cell"]) (sc := defScope sDraws) (by decide +kernel))
            (fun _ _ _ _ _ => pg_name (i := 10) scDraws.nd rfl (Or.inl rfl)) (fun _ _ _ _ _ => pts_nil) (fun _ _ _ _ _ => pe_op op_fdivW (pv 10) pe_int))
        (pss_cons (ps_for PassesOwn.never rfl (pi_range1 rfl mr (pa_cons (pe_op op_add (pv 1) (pv 2)) pa_nil)) (pg_name (i := 6) scDraws.nd rfl (.inl rfl))
          (pss_cons (ps_set (i := 7) scDraws.nd rfl (.inl rfl) (pe_op op_mod (pv 6) (pe_callB call_len_seq (by rfl) ml PySem.boot_len (pa_cons (pv 5) pa_nil))))
          (pss_cons (ps_if (pt_cmpR op_ge (pv 6) (pv 1) (nomark _))
            (pss_one (ps_expr (pe_bm PySem.F.plainAttrs_list PySem.F.slot_list_append PySem.F.type_list_append mt_append (pv 4) (pa_cons (pe_op op_mod (pe_ix ix_list (pv 5) (pv 7) (fun _ _ => rfl)) pe_int) pa_nil)))) pss_nil)
          (pss_one (ps_asg (pe_op op_fdivW (pe_ix ix_list (pv 5) (pv 7) (fun _ _ => rfl)) pe_int) (pg_sub (pv 5) (pv 7) set_list))))))
        (pss_one (ps_ret (pv 4))))) pss_nil)
      (pss_cons (ps_for PassesOwn.never rfl (pi_range1 rfl mr (pa_cons (pv 2) pa_nil)) (pg_name (i := 6) scDraws.nd rfl (.inl rfl))
        (pss_cons (ps_set (i := 8) scDraws.nd rfl (.inl rfl) (pe_op op_add (pe_op op_mul (pe_op op_mul (pe_op op_add (pv 6) (pv 1)) (pe_op op_add (pv 6) (pv 1))) pe_int) pe_int))
        (pss_cons (ps_set (i := 9) scDraws.nd rfl (.inl rfl) (pe_op op_mod (pe_op op_mul (pe_op op_add (pe_op op_mod (pe_ix ix_list (pv 3) (pe_op op_mod (pv 6) (pe_callB call_len_seq (by rfl) ml PySem.boot_len (pa_cons (pv 3) pa_nil))) (fun _ _ => rfl)) pe_int) (pv 8)) pe_int) pe_int))
        (pss_cons (ps_set (i := 9) scDraws.nd rfl (.inl rfl) (pe_op op_mod (pe_op op_add (pe_op op_mul (pv 9) (pv 9)) (pe_op op_mul pe_int (pv 6))) pe_int))
        (pss_one (ps_expr (pe_bm PySem.F.plainAttrs_list PySem.F.slot_list_append PySem.F.type_list_append mt_append (pv 4) (pa_cons (pe_op op_mod (pe_op op_mul (pv 9) (pv 9)) pe_int) pa_nil))))))))
      (pss_one (ps_ret (pv 4)))))), ?_⟩
    -- cells
    refine ⟨.ref a, rfl, 63, rfl, a, ns.map V.int, rfl, ha, fun c nc => ?_⟩
    rw [cut63]
    have s1 : Same H (upd H c (.lst ((ns.take 63).map V.int))) := same_upd nc
    refine ⟨.int t, rfl, (show 1 ≤ sizeLine by decide), fun u nu => ?_⟩
    have ncu : c ≠ u := fun e => by
      rw [← e, upd_same] at nu
      cases nu
    have hlen : (ns.take 63).length ≤ 63 := by
      rw [List.length_take]
      omega
    refine ⟨c, u, (ns.take 63).map V.int, [.int t], rfl, rfl, by rw [upd_ne ncu, upd_same], upd_same, by rw [List.length_map]; exact sz (by show (ns.take 63).length + 1 ≤ 16000000; omega), fun l nl => ?_⟩
    have s2 : Same H (upd (upd H c (.lst ((ns.take 63).map V.int))) u (.lst [.int t])) := s1.trans (same_upd nu)
    have s3 := s2.trans (same_upd (o := .lst ((ns.take 63).map V.int ++ [.int t])) nl)
    have ecells : (ns.take 63).map V.int ++ [V.int t] = (ns.take 63 ++ [(t : Int)]).map V.int := by rw [List.map_append]; rfl
    rw [ecells] at s3 ⊢
    have hcl : (ns.take 63 ++ [(t : Int)]).length ≤ 64 ∧ 0 < (ns.take 63 ++ [(t : Int)]).length := by
      rw [List.length_append]
      constructor
      · show _ + 1 ≤ 64
        omega
      · show 0 < _ + 1
        omega
    have hl : (upd (upd (upd H c (.lst ((ns.take 63).map V.int))) u (.lst [.int t])) l (.lst ((ns.take 63 ++ [(t : Int)]).map V.int))) l = some (.lst ((ns.take 63 ++ [(t : Int)]).map V.int)) := upd_same
    generalize (ns.take 63 ++ [(t : Int)]) = cs at s3 hcl hl ⊢
    generalize (upd (upd (upd H c (.lst ((ns.take 63).map V.int))) u (.lst [.int t])) l (.lst (cs.map V.int))) = H3 at s3 hl ⊢
    have nHl : H l = none := s2.free nl
    -- found
    refine ⟨Nat.zero_le _, fun o no => ?_⟩
    have nHo : H o = none := s3.free no
    have nlo : l ≠ o := ne_of_none hl no
    have s4 : Same H (upd H3 o (.lst [])) := s3.trans (same_upd no)
    have hl4 : (upd H3 o (.lst [])) l = some (.lst (cs.map V.int)) := by rw [upd_ne nlo]; exact hl
    have ho4 : (upd H3 o (.lst [])) o = some (.lst (([] : List Int).map V.int)) := upd_same
    generalize (upd H3 o (.lst [])) = H4 at s4 hl4 ho4 ⊢
    obtain ⟨c0, hc0⟩ := at_int (xs := cs) (k := 0) (Int.le_refl _) (by omega)
    refine ⟨.ref l, rfl, l, cs.map V.int, 0, .int c0, rfl, rfl, sq hl4, hc0, c0, 50000, rfl, rfl, wide_div (b := 17) (by decide) (by decide) (by decide) (by decide), _, 2, rfl, rfl, (show (0 : Int) < 2 by decide), rfl, _, rfl, ite2 (fun e => ?_) (fun e => ?_)⟩
    · -- left
      refine ⟨.ref l, rfl, l, rfl, ⟨_, sq hl4⟩, fun D nD => ?_⟩
      have nHD : H D = none := s4.free nD
      have nlD : l ≠ D := ne_of_none hl4 nD
      have noD : o ≠ D := ne_of_none ho4 nD
      refine walk_n cs.length (fun i H' => Same H H' ∧ H' l = some (.lst (cs.map V.int)) ∧ H' o = some (.lst (([] : List Int).map V.int)) ∧ H' D = some (.lst (((cs.take i).map (· / 100000)).map V.int)))
        ⟨same_over s4 nHD, by rw [upd_ne nlD]; exact hl4, by rw [upd_ne noD]; exact ho4, upd_same⟩ (fun i H' hi ⟨i1, i2, i3, i4⟩ => ⟨itl_go (sq i2) (by rw [List.length_map]; exact hi), fun x H'' y => ?_⟩) (fun H' ⟨i1, i2, i3, i4⟩ => ⟨itl_stop (sq i2) (by rw [List.length_map]), ?_⟩)
      · obtain ⟨rfl, ex⟩ := itl_yld (sq i2) y
        rw [List.getElem?_map, List.getElem?_eq_getElem hi] at ex
        cases ex
        refine ⟨rfl, yes (iteT ?_)⟩
        refine ⟨_, rfl, cs[i], 100000, rfl, rfl, wide_div (b := 17) (by decide) (by decide) (by decide) (by decide), _, i4, ?_, ?_⟩
        · rw [List.length_map, List.length_map, List.length_take]
          exact sz' (by omega)
        · refine ⟨same_over i1 nHD, by rw [upd_ne nlD]; exact i2, by rw [upd_ne noD]; exact i3, ?_⟩
          rw [upd_same, List.take_add_one, List.getElem?_eq_getElem hi, List.map_append, List.map_append]
          rfl
      · rw [List.take_length] at i4
        have hll : (cs.map (· / 100000)).length = cs.length := List.length_map ..
        generalize cs.map (· / 100000) = ls0 at i4 hll
        -- the loop
        refine ⟨.int t, rfl, .int m, rfl, t, m, rfl, rfl, (t : Int) + m, rfl, by omega, by omega, ?_⟩
        refine walk_f (t + m) (fun i σ H' => ∃ (ls ds : List Int) (y6 y7 : Option V), σ = [some (.ref a), some (.int t), some (.int m), some (.ref l), some (.ref o), some (.ref D), y6, y7, none, none, none] ∧ Same H H' ∧ H' D = some (.lst (ls.map V.int)) ∧ ls.length = cs.length ∧
            H' o = some (.lst (ds.map V.int)) ∧ ds.length = i - t ∧ Drawn ds) ⟨ls0, [], none, none, rfl, i1, i4, hll, i3, by rw [Nat.zero_sub]; rfl, drawn_nil⟩ (fun i σ H' hi hp => ?_) (fun σ H' hp => ?_)
        · obtain ⟨ls, ds, y6, y7, rfl, j1, j2, j3, j4, j5, j6⟩ := hp
          refine ⟨by show i < ((t : Int) + m).toNat; omega, fun x H'' y => ?_⟩
          obtain ⟨rfl, rfl⟩ := y
          refine ⟨.int (0 + (i : Int)), rfl, .ref D, rfl, D, _, rfl, .inl (sq j2), 0 + (i : Int), _, rfl, rfl, (by rw [List.length_map]; omega), ?_⟩
          have hlp : (0 : Int) < (ls.map V.int).length := by rw [List.length_map]; omega
          have hk0 : 0 ≤ (0 + (i : Int)) % ((ls.map V.int).length : Int) := Int.emod_nonneg _ (by omega)
          have hk1 : (0 + (i : Int)) % ((ls.map V.int).length : Int) < ls.length := by
            have := Int.emod_lt_of_pos (0 + (i : Int)) hlp
            rw [List.length_map] at this ⊢
            exact this
          obtain ⟨kk, ekk⟩ : ∃ kk, kk = (0 + (i : Int)) % ((ls.map V.int).length : Int) := ⟨_, rfl⟩
          rw [← ekk] at hk0 hk1
          obtain ⟨d, hd⟩ := at_int hk0 hk1
          have nDo : D ≠ o := fun z => noD z.symm
          have store : ∀ H5 : Hp, Same H H5 → H5 D = some (.lst (ls.map V.int)) → ∀ ds' : List Int, H5 o = some (.lst (ds'.map V.int)) → ds'.length = (i + 1) - t → Drawn ds' →
              (tAsg (tOp (rI CDivW fun i j => V.int (i / j)) (tOp (rIxL K) (tVar 5) (tVar 7)) (tC (.int 2147483587))) (gSub (tVar 5) (tVar 7) rSetL)) { nx := fun σ H' => ∃ (ls ds : List Int) (y6 y7 : Option V), σ = [some (.ref a), some (.int t), some (.int m), some (.ref l), some (.ref o), some (.ref D), y6, y7, none, none, none] ∧ Same H H' ∧ H' D = some (.lst (ls.map V.int)) ∧ ls.length = cs.length ∧ H' o = some (.lst (ds.map V.int)) ∧ ds.length = (i + 1) - t ∧ Drawn ds, rt := Q } [some (.ref a), some (.int t), some (.int m), some (.ref l), some (.ref o), some (.ref D), some (.int (0 + (i : Int))), some (.int kk), none, none, none] H5 := by
            intro H5 k1 k2 ds' k3 k4 k5
            refine ⟨.ref D, rfl, .int kk, rfl, D, _, kk, _, rfl, rfl, sq k2, hd, d, 2147483587, rfl, rfl, wide_div (b := 32) (by decide) (by decide) (by decide) (by decide), .ref D, rfl, .int kk, rfl, D, _, kk, kk.toNat, rfl, rfl, k2, ?_, ?_⟩
            · rw [List.length_map]
              exact ixN_at hk0 hk1
            · refine ⟨ls.set kk.toNat (d / 2147483587), ds', _, _, rfl, same_over k1 nHD, ?_, by rw [List.length_set]; exact j3, by rw [upd_ne noD]; exact k3, k4, k5⟩
              rw [upd_same, set_int]
          subst ekk
          refine ⟨.int (0 + (i : Int)), rfl, .int t, rfl, _, _, rfl, rfl, _, rfl, ite2 (fun z => ?_) (fun z => ?_)⟩
          · have z' : (t : Int) ≤ 0 + (i : Int) := of_decide_eq_true z
            refine ⟨.ref o, rfl, .inl ⟨rfl, _, sq j4⟩, .ref D, rfl, .int _, rfl, D, _, _, _, rfl, rfl, sq j2, hd, d, 2147483587, rfl, rfl, (show (0 : Int) < 2147483587 by decide), o, _, _, rfl, rfl, j4, ?_, ?_⟩
            · rw [List.length_map]
              exact sz' (by omega)
            · refine store _ (same_over j1 nHo) (by rw [upd_ne nDo]; exact j2) (ds ++ [d % 2147483587]) ?_ ?_ ?_
              · rw [upd_same, List.map_append]
                rfl
              · rw [List.length_append]
                show ds.length + 1 = _
                omega
              · have h1 := Int.emod_nonneg d (show (2147483587 : Int) ≠ 0 by decide)
                have h2 := Int.emod_lt_of_pos d (show (0 : Int) < 2147483587 by decide)
                exact drawn_snoc j6 h1 (by omega)
          · have z' : ¬ (t : Int) ≤ 0 + (i : Int) := fun y => z (decide_eq_true y)
            exact store _ j1 j2 ds j4 (by omega) j6
        · obtain ⟨ls, ds, y6, y7, rfl, j1, j2, j3, j4, j5, j6⟩ := hp
          refine ⟨by show ((t : Int) + m).toNat ≤ t + m; omega, .ref o, rfl, q _ o ds j1 nHo (by omega) j6 j4⟩
    · -- the second way
      refine ⟨.int m, rfl, (m : Int), rfl, by omega, by omega, ?_⟩
      refine walk_f m (fun i σ H' => ∃ (ds : List Int) (y6 y8 y9 : Option V), σ = [some (.ref a), some (.int t), some (.int m), some (.ref l), some (.ref o), none, y6, none, y8, y9, none] ∧ Same H H' ∧ H' l = some (.lst (cs.map V.int)) ∧
            H' o = some (.lst (ds.map V.int)) ∧ ds.length = i ∧ Drawn ds) ⟨[], none, none, none, rfl, s4, hl4, ho4, rfl, drawn_nil⟩ (fun i σ H' hi hp => ?_) (fun σ H' hp => ?_)
      · obtain ⟨ds, y6, y8, y9, rfl, j1, j2, j3, j4, j5⟩ := hp
        refine ⟨by show i < (m : Int).toNat; omega, fun x H'' y => ?_⟩
        obtain ⟨rfl, rfl⟩ := y
        have hi2 : (0 + (i : Int)) = (i : Int) := by omega
        rw [hi2]
        have hsum : (0 : Int) ≤ (i : Int) + t ∧ (i : Int) + t ≤ 2000 := by omega
        -- place
        refine ⟨.int i, rfl, .int t, rfl, _, _, rfl, rfl, .int i, rfl, .int t, rfl, _, _, rfl, rfl, (i : Int) + t, (i : Int) + t, rfl, rfl, .inl ⟨by omega, by omega⟩, _, 7919, rfl, rfl, .inr ⟨by decide, by decide⟩, _, 104729, rfl, rfl, ?_⟩
        have hpl : (0 : Int) ≤ ((i : Int) + t) * ((i : Int) + t) * 7919 + 104729 := by
          have := Int.mul_nonneg hsum.1 hsum.1
          omega
        dsimp only
        generalize ((i : Int) + t) * ((i : Int) + t) * 7919 + 104729 = pl at hpl ⊢
        have hcp : (0 : Int) < (cs.map V.int).length := by rw [List.length_map]; omega
        have hk0 : 0 ≤ (i : Int) % ((cs.map V.int).length : Int) := Int.emod_nonneg _ (by omega)
        have hk1 : (i : Int) % ((cs.map V.int).length : Int) < cs.length := by
          have := Int.emod_lt_of_pos (i : Int) hcp
          rw [List.length_map] at this ⊢
          exact this
        obtain ⟨d, hd⟩ := at_int hk0 hk1
        refine ⟨.ref l, rfl, .int i, rfl, .ref l, rfl, l, _, rfl, .inl (sq j2), _, _, rfl, rfl, hcp, l, _, _, _, rfl, rfl, sq j2, hd, d, 2147483647, rfl, rfl, (show (0 : Int) < 2147483647 by decide), .int pl, rfl, _, pl, rfl, rfl, _, 48271, rfl, rfl, .inr ⟨by decide, by decide⟩, _, 2147483647, rfl, rfl, (show (0 : Int) < 2147483647 by decide), ?_⟩
        have hn0 := Int.emod_nonneg ((d % 2147483647 + pl) * 48271) (show (2147483647 : Int) ≠ 0 by decide)
        have hn1 := Int.emod_lt_of_pos ((d % 2147483647 + pl) * 48271) (show (0 : Int) < 2147483647 by decide)
        dsimp only
        generalize (d % 2147483647 + pl) * 48271 % 2147483647 = nu at hn0 hn1 ⊢
        refine ⟨.int nu, rfl, .int nu, rfl, nu, nu, rfl, rfl, .inl ⟨by omega, by omega⟩, .int i, rfl, 69621, i, rfl, rfl, .inl ⟨by decide, by decide⟩, _, _, rfl, rfl, _, 2147483629, rfl, rfl, (show (0 : Int) < 2147483629 by decide), ?_⟩
        have hm0 := Int.emod_nonneg (nu * nu + 69621 * (i : Int)) (show (2147483629 : Int) ≠ 0 by decide)
        have hm1 := Int.emod_lt_of_pos (nu * nu + 69621 * (i : Int)) (show (0 : Int) < 2147483629 by decide)
        dsimp only
        generalize (nu * nu + 69621 * (i : Int)) % 2147483629 = mu at hm0 hm1 ⊢
        refine ⟨.ref o, rfl, .inl ⟨rfl, _, sq j3⟩, .int mu, rfl, .int mu, rfl, mu, mu, rfl, rfl, .inl ⟨by omega, by omega⟩, _, 2147483587, rfl, rfl, (show (0 : Int) < 2147483587 by decide), o, _, _, rfl, rfl, j3, ?_, ?_⟩
        · rw [List.length_map]
          exact sz' (by omega)
        · have hx0 := Int.emod_nonneg (mu * mu) (show (2147483587 : Int) ≠ 0 by decide)
          have hx1 := Int.emod_lt_of_pos (mu * mu) (show (0 : Int) < 2147483587 by decide)
          refine ⟨ds ++ [mu * mu % 2147483587], _, _, _, rfl, same_over j1 nHo, by rw [upd_ne nlo]; exact j2, ?_, ?_, drawn_snoc j5 hx0 (by omega)⟩
          · rw [upd_same, List.map_append]
            rfl
          · rw [List.length_append, j4]
            rfl
      · obtain ⟨ds, y6, y8, y9, rfl, j1, j2, j3, j4, j5⟩ := hp
        refine ⟨by show (m : Int).toNat ≤ m; omega, .ref o, rfl, q _ o ds j1 nHo j4 j5 j3⟩
end
end Wa
namespace Wa
open PySem PySem.Spec PyProof.Rows L2
/-! a word of a drawn number -/
abbrev nWord : List Str := ["_law_number", "_law_q", "_law_n", "_law_word_here", "_law_k"]
theorem scWord : FnScope nWord ["_law_number", "_law_q", "_law_n"] (defScope sWord) := ⟨rfl, rfl, rfl, by decide +kernel, rfl, by decide +kernel, by decide +kernel⟩
/-- a word of length n with q signs -/
def Wd (q n : Nat) (ds : List Nat) : Prop := ds.length = n ∧ ∀ d ∈ ds, d < q
def spWord : Sp := fun vs H Q _ => ∃ (x : Int) (q n : Nat), vs = [.int x, .int q, .int n] ∧ 0 ≤ x ∧ 1 ≤ q ∧ q ≤ 3 ∧ n ≤ 100 ∧ ∀ ds, Wd q n ds → Q (.str (wd ds)) H
theorem figs_of {q n : Nat} {ws : List (List Nat)} (hq : q ≤ 3) (h : ∀ w ∈ ws, Wd q n w) : Figs ws := fun w hw d hd => by
  have := (h w hw).2 d hd
  omega
section
variable {P : Program} {w : World} {K : PySem.W.Frag} {mg : Str → Option Value} {base : Heap}
theorem ok_word {f : Addr} {fd : FuncData} {k : Nat} (D : Df K mg "_law_word" sWord ["_law_number", "_law_q", "_law_n"] f fd) (mr : mg "range" = none) (mt : mg "str" = none) : FnOk P w K mg base CX0 (k + 1) f fd ["_law_number", "_law_q", "_law_n"] spWord := by
  refine D.F.ok scWord (fun vs H Q E h => ?_) (fun cdv A outer s H vs Q E hr h => ?_)
  · obtain ⟨x, q, n, rfl, _⟩ := h
    rfl
  · obtain ⟨x, q, n, rfl, hx, hq1, hq, hn, ret⟩ := h
    refine ⟨_, pss_cons (ps_set (i := 3) scWord.nd rfl (.inl rfl) pe_str)
      (pss_cons (ps_for PassesOwn.never rfl (pi_range1 rfl mr (pa_cons (pv 2) pa_nil)) (pg_name (i := 4) scWord.nd rfl (.inl rfl))
        (pss_cons (ps_set (i := 3) scWord.nd rfl (.inl rfl) (pe_op op_add_str (pv 3) (pe_callTy call_str_int (by rfl) mt (by decide +kernel) (pa_cons (pe_op op_mod (pv 0) (pv 1)) pa_nil))))
        (pss_one (ps_set (i := 0) scWord.nd rfl (.inl rfl) (pe_op op_fdiv (pv 0) (pv 1))))))
      (pss_one (ps_ret (pv 3)))), ?_⟩
    refine ⟨_, rfl, (n : Int), rfl, by omega, by omega, ?_⟩
    refine walk_f n (fun i σ H' => ∃ (y : Int) (ds : List Nat) (y4 : Option V), σ = [some (.int y), some (.int q), some (.int n), some (.str (wd ds)), y4] ∧ H' = H ∧ 0 ≤ y ∧ Wd q i ds) ⟨x, [], none, rfl, rfl, hx, rfl, fun d hd => absurd hd (by simp)⟩ (fun i σ H' hi hp => ?_) (fun σ H' hp => ?_)
    · obtain ⟨y, ds, y4, rfl, rfl, hy, hw⟩ := hp
      refine ⟨by show i < (n : Int).toNat; omega, fun z H'' yy => ?_⟩
      obtain ⟨rfl, rfl⟩ := yy
      have m0 := Int.emod_nonneg y (show (q : Int) ≠ 0 by omega)
      have m1 := Int.emod_lt_of_pos y (show (0 : Int) < q by omega)
      obtain ⟨s, hs⟩ := Int.eq_ofNat_of_zero_le m0
      have hs3 : s < 3 := by omega
      refine ⟨_, rfl, _, rfl, _, rfl, y, (q : Int), rfl, rfl, (show (0 : Int) < q by omega), _, rfl, ?_, wd ds, _, rfl, rfl, ?_, ?_⟩
      · rw [hs]
        exact small_log hs3
      · rw [hs, str_fig hs3, wd_len, wd_len, hw.1]
        exact sz (by show i + 1 ≤ 16000000; omega)
      · rw [hs, str_fig hs3, wd_app]
        refine ⟨_, rfl, _, rfl, y, (q : Int), rfl, rfl, ⟨by omega, by omega⟩, y / q, ds ++ [s], _, rfl, rfl, Int.ediv_nonneg hy (by omega), ?_, fun d hd => ?_⟩
        · rw [List.length_append, hw.1]
          rfl
        · rcases List.mem_append.mp hd with z | z
          · exact hw.2 d z
          · rw [List.mem_singleton.mp z]
            omega
    · obtain ⟨y, ds, y4, rfl, rfl, hy, hw⟩ := hp
      exact ⟨by show (n : Int).toNat ≤ n; omega, _, rfl, ret ds hw⟩
end
end Wa
namespace Wa
open PySem PySem.Spec PyProof.Rows L2
/-! distances -/
def dist : List Nat → List Nat → Nat
  | x :: a, y :: b => (if x = y then 0 else 1) + dist a b
  | _, _ => 0
theorem dist_le : ∀ (a b : List Nat), dist a b ≤ a.length
  | [], _ => Nat.le_refl _
  | _ :: _, [] => Nat.zero_le _
  | x :: a, y :: b => by
    have := dist_le a b
    show (if x = y then 0 else 1) + dist a b ≤ a.length + 1
    split <;> omega
theorem dist_comm : ∀ (a b : List Nat), dist a b = dist b a
  | [], [] => rfl
  | [], _ :: _ => rfl
  | _ :: _, [] => rfl
  | x :: a, y :: b => by
    show (if x = y then 0 else 1) + dist a b = (if y = x then 0 else 1) + dist b a
    rw [dist_comm a b]
    by_cases e : x = y
    · rw [if_pos e, if_pos e.symm]
    · rw [if_neg e, if_neg fun z => e z.symm]
theorem dist_take : ∀ {a b : List Nat} {i x y : Nat}, a[i]? = some x → b[i]? = some y → dist (a.take (i + 1)) (b.take (i + 1)) = dist (a.take i) (b.take i) + (if x = y then 0 else 1)
  | [], _, _, _, _, h, _ => by simp at h
  | _ :: _, [], _, _, _, _, h => by simp at h
  | u :: a, v :: b, 0, x, y, h1, h2 => by
    cases h1
    cases h2
    show (if u = v then 0 else 1) + dist (a.take 0) (b.take 0) = 0 + _
    rw [List.take_zero, List.take_zero]
    show (if u = v then 0 else 1) + 0 = _
    omega
  | u :: a, v :: b, i + 1, x, y, h1, h2 => by
    have ih := dist_take (a := a) (b := b) (i := i) h1 h2
    show (if u = v then 0 else 1) + dist (a.take (i + 1)) (b.take (i + 1)) = (if u = v then 0 else 1) + dist (a.take i) (b.take i) + _
    rw [ih]
    omega
theorem sign_ne (c d : Nat) : decide ((V.str ⟨#[48 + c]⟩ : V) = V.str ⟨#[48 + d]⟩) = decide (c = d) := by
  by_cases e : c = d
  · rw [e, decide_eq_true rfl, decide_eq_true rfl]
  · rw [decide_eq_false e, decide_eq_false fun z => e (by
      injection z with z
      injection z with z
      have := congrArg (fun l => l.toList) z
      have h : [48 + c] = [48 + d] := this
      injection h with h _
      omega)]
end Wa
namespace Wa
open PySem PySem.Spec PyProof.Rows L2
/-! the law's own distance -/
abbrev nFar : List Str := ["_law_one", "_law_other", "_law_k"]
theorem scFar : FnScope nFar ["_law_one", "_law_other"] (defScope sFar) := ⟨rfl, rfl, rfl, by decide +kernel, rfl, by decide +kernel, by decide +kernel⟩
def spFar : Sp := fun vs H Q _ => ∃ (a b : List Nat), vs = [.str (wd a), .str (wd b)] ∧ a.length = b.length ∧ a.length ≤ 1000 ∧ ∀ H', Same H H' → Q (.int (dist a b)) H'
section
variable {P : Program} {w : World} {K : PySem.W.Frag} {mg : Str → Option Value} {base : Heap}
theorem ok_far {f : Addr} {fd : FuncData} {k : Nat} (D : Df K mg "_law_far" sFar ["_law_one", "_law_other"] f fd) (mr : mg "range" = none) (ml : mg "len" = none) : FnOk P w K mg base CX0 (k + 1) f fd ["_law_one", "_law_other"] spFar := by
  refine D.F.ok scFar (fun vs H Q E h => ?_) (fun cdv A outer s H vs Q E hr h => ?_)
  · obtain ⟨a, b, rfl, _⟩ := h
    rfl
  · obtain ⟨a, b, rfl, hl, hl2, ret⟩ := h
    refine ⟨_, pss_one (ps_ret (pe_callB call_len_seq (by rfl) ml PySem.boot_len (pa_cons (pe_lc (own := [("_law_k", 2)]) (g := gName 2) rfl scFar.nd (pi_range1 rfl mr (pa_cons (pe_callB call_len_str (by rfl) ml PySem.boot_len (pa_cons (pv 0) pa_nil)) pa_nil))
      (blkOk_by (own := [("_law_k", 2)]) (N := nFar) (sc := defScope sFar) (by decide +kernel)) (fun _ _ _ _ _ => pg_name (i := 2) scFar.nd rfl (Or.inl rfl))
      (fun _ _ _ _ _ => pts_one (pt_cmpR op_ne (pe_item_str (pv 0) (pv 2) (fun _ _ => rfl)) (pe_item_str (pv 1) (pv 2) (fun _ _ => rfl)) (nomark _))) (fun _ _ _ _ _ => pv 2)) pa_nil))), ?_⟩
    refine ⟨_, rfl, wd a, rfl, by rw [wd_len]; exact sz (by omega), _, rfl, by omega, ?_, fun D nD => ?_⟩
    · rw [wd_len]
      omega
    · have lt : ((wd a).length : Int).toNat = a.length := by rw [wd_len]; omega
      refine walk_n a.length (fun i H' => Same H H' ∧ ∃ xs : List Int, H' D = some (.lst (xs.map V.int)) ∧ xs.length = dist (a.take i) (b.take i)) ⟨same_upd nD, [], upd_same, by rw [List.take_zero]; rfl⟩
        (fun i H' hi ⟨i1, xs, i2, i3⟩ => ⟨by show i < ((wd a).length : Int).toNat; omega, fun x H'' y => ?_⟩) (fun H' ⟨i1, xs, i2, i3⟩ => ⟨by show ((wd a).length : Int).toNat ≤ a.length; omega, ?_⟩)
      · obtain ⟨rfl, rfl⟩ := y
        have e1 : a[i]? = some a[i] := List.getElem?_eq_getElem hi
        have hib : i < b.length := by omega
        have e2 : b[i]? = some b[i] := List.getElem?_eq_getElem hib
        have ht := dist_take e1 e2
        have hd := dist_le (a.take (i + 1)) (b.take (i + 1))
        rw [List.length_take] at hd
        have ei : (0 + (i : Int)).toNat = i := by omega
        have nHD : H D = none := nD
        refine ⟨rfl, _, rfl, _, rfl, wd a, 0 + (i : Int), 48 + a[i], rfl, rfl, by omega, by omega, by rw [wd_len]; omega, by rw [ei]; exact wd_ix e1, _, rfl, _, rfl, wd b, 0 + (i : Int), 48 + b[i], rfl, rfl, by omega, by omega, by rw [wd_len]; omega, by rw [ei]; exact wd_ix e2, rfl, _, rfl, ?_⟩
        rw [sign_ne]
        by_cases e : a[i] = b[i]
        · rw [decide_eq_true e]
          exact iteF ⟨i1, xs, i2, by rw [ht, if_pos e, i3]; rfl⟩
        · rw [decide_eq_false e]
          rw [if_neg e] at ht
          refine iteT ⟨_, rfl, _, i2, ?_, same_over i1 nHD, xs ++ [0 + (i : Int)], ?_, ?_⟩
          · rw [List.length_map, i3]
            exact sz' (by omega)
          · rw [upd_same, List.map_append]
            rfl
          · rw [List.length_append, i3, ht]
            rfl
      · rw [List.take_length, hl, List.take_length] at i3
        refine ⟨D, _, rfl, .inl (sq i2), ?_⟩
        rw [List.length_map, i3]
        exact ret _ i1
end
end Wa
namespace Wa
open PySem PySem.Spec PyProof.Rows L2
/-! a whole number that is no truth -/
theorem scWhole : FnScope ["_law_found"] ["_law_found"] (defScope sWhole) := ⟨rfl, rfl, rfl, by decide +kernel, rfl, by decide +kernel, by decide +kernel⟩
def spWhole : Sp := fun vs H Q _ => ∃ (i : Int), vs = [.int i] ∧ Q (.bl true) H
section
variable {P : Program} {w : World} {K : PySem.W.Frag} {mg : Str → Option Value} {base : Heap}
theorem ok_whole {f : Addr} {fd : FuncData} {k : Nat} (D : Df K mg "_law_whole" sWhole ["_law_found"] f fd) (mi : mg "isinstance" = none) (mint : mg "int" = none) (mbool : mg "bool" = none) : FnOk P w K mg base CX0 (k + 1) f fd ["_law_found"] spWhole := by
  refine D.F.ok scWhole (fun vs H Q E h => ?_) (fun cdv A outer s H vs Q E hr h => ?_)
  · obtain ⟨i, rfl, _⟩ := h
    rfl
  · obtain ⟨i, rfl, ret⟩ := h
    refine ⟨_, pss_one (ps_ret (pe_and (pe_callB call_isi (by rfl) mi (by decide +kernel) (pa_cons (pv 0) (pa_cons (pe_bltn (v := .ty "int") (by rfl) mint (by decide +kernel) rfl) pa_nil)))
      (pe_one (pe_not (pe_callB call_isi (by rfl) mi (by decide +kernel) (pa_cons (pv 0) (pa_cons (pe_bltn (v := .ty "bool") (by rfl) mbool (by decide +kernel) rfl) pa_nil))))))), ?_⟩
    exact ⟨_, rfl, _, .ty "int", .type "int", .type "int", true, rfl, .ty _, .base (.int i), kit_ty (by decide +kernel), true, rfl, iteT ⟨_, rfl, _, .ty "bool", .type "int", .type "bool", false, rfl, .ty _, .base (.int i), kit_ty (by decide +kernel), false, rfl, ret⟩⟩
end
end Wa
namespace Wa
open PySem PySem.Spec PyProof.Rows L2
/-! signs joined to words -/
theorem str_app_assoc (x y z : Str) : x ++ y ++ z = x ++ (y ++ z) := by
  apply str_ext
  rw [str_app, str_app, str_app, str_app, List.append_assoc]
theorem str_app_nil (x : Str) : x ++ ("" : Str) = x := by
  apply str_ext
  rw [str_app]
  have e : ("" : Str).cps.toList = [] := by decide +kernel
  rw [e, List.append_nil]
theorem join_signs : ∀ cs : List Nat, Txt.join ("" : Str) (cs.map fun c => wd [c]) = wd cs := by
  have h : ∀ cs : List Nat, Str.join ("" : Str) (cs.map fun c => wd [c]) = wd cs := by
    intro cs
    induction cs with
    | nil => exact (by decide +kernel : Str.join ("" : Str) [] = wd [])
    | cons c r ih =>
      cases r with
      | nil => rfl
      | cons d r' =>
        show wd [c] ++ ("" : Str) ++ Str.join ("" : Str) ((d :: r').map fun c => wd [c]) = _
        rw [ih, str_app_nil, wd_app]
        rfl
  intro cs
  show Builtin.Str.glued ("" : Str) _ = _
  rw [StrLaws.glued_eq_join]
  exact h cs
theorem joinOk_signs {cs : List Nat} (h : cs.length ≤ 1000) : JoinOk ("" : Str) (cs.map fun c => wd [c]) = true := by
  unfold JoinOk
  rw [StrLaws.joinTotal, Bool.not_eq_true']
  have e0 : ("" : Str).length = 0 := by decide +kernel
  have e1 : ((cs.map fun c => wd [c]).map (·.length)).sum = cs.length := by
    rw [List.map_map]
    have : ((fun x : Str => x.length) ∘ fun c => wd [c]) = fun _ => 1 := by
      funext c
      exact wd_len [c]
    rw [this, List.map_const', List.sum_replicate_nat]
    omega
  rw [e1, e0, Nat.mul_zero, Nat.add_zero]
  exact decide_eq_false (by
    have : sizeLine = 16777216 := by decide
    omega)
theorem int_fig {c : Nat} (h : c < 3) : PySem.intText? (⟨#[48 + c]⟩ : Str) = some ((c : Nat) : Int) := by
  match c, h with
  | 0, _ => decide +kernel
  | 1, _ => decide +kernel
  | 2, _ => decide +kernel
/-- the signs' texts of a list -/
theorem strs_snoc (cs : List Nat) (c : Nat) : (cs.map fun c => V.str (wd [c])) ++ [V.str (wd [c])] = (cs ++ [c]).map fun c => V.str (wd [c]) := by
  rw [List.map_append]
  rfl
def addW (q : Nat) (a b : List Nat) : List Nat := List.zipWith (fun x y => (x + y) % q) a b
def mulW (q t : Nat) (a : List Nat) : List Nat := a.map fun x => x * t % q
def addT (q t : Nat) (a b : List Nat) : List Nat := List.zipWith (fun x y => (x + t * y) % q) a b
theorem zip_take {α β γ : Type} {f : α → β → γ} : ∀ {a : List α} {b : List β} {i : Nat} {x : α} {y : β}, a[i]? = some x → b[i]? = some y → (List.zipWith f a b).take (i + 1) = (List.zipWith f a b).take i ++ [f x y] := fun {a b i x y} h1 h2 => by
  rw [List.take_add_one]
  have e : (List.zipWith f a b)[i]? = some (f x y) := by
    rw [List.getElem?_zipWith, h1, h2]
  rw [e]
  rfl
theorem addW_len {q : Nat} {a b : List Nat} (h : a.length = b.length) : (addW q a b).length = a.length := by
  unfold addW
  rw [List.length_zipWith]
  omega
theorem addT_len {q t : Nat} {a b : List Nat} (h : a.length = b.length) : (addT q t a b).length = a.length := by
  unfold addT
  rw [List.length_zipWith]
  omega
end Wa
/-! numbers in bits as texts -/
namespace Wa
open PySem PySem.Spec PyProof.Rows L2 Builtin
theorem gives_after_typeNameOfCut {k0 : Nat} {v : Value} {T : String} {k : String → Sem Fin} {m : Made} (hT : ∀ s : Shared, s.TypeIs v T)
    (hn : (Value.type T == Value.type "builtin_function_or_method") = false) (g : ∀ n, Gives (k n) m) : Gives (do let n ← typeNameOfCut k0 v; k n) m := fun prog w A R s hq => by
  unfold typeNameOfCut shownTypeOf
  refine wpAny_bind (wpAny_bind (wpAny_bind (wpAny_typeOf (hT s) ?_)))
  simp only [hn, Bool.false_eq_true, if_false]
  refine wpAny_pure ?_
  show wpAny _ _ (pure _) _ _ s
  exact wpAny_pure (g _ prog w A R s hq)
/-- the bits of a number as a text -/
def bitsS (n : Nat) : Str := ⟨((Nat.toDigits 2 n).map Char.toNat).toArray⟩
theorem field_b {ds : List Nat} (h : ds ≠ []) : (⟨(List.replicate ((-1 : Int) - ((([] : List Nat).length : Int) + (([] : List Nat).length : Int) + (([] : List Nat).length : Int)) - ((if ds.isEmpty = true then [] else List.replicate ((0 : Int).toNat - ds.length) 48 ++ ds).length : Int)).toNat 32 ++ [] ++ [] ++ List.replicate 0 32 ++ (if ds.isEmpty = true then [] else List.replicate ((0 : Int).toNat - ds.length) 48 ++ ds) ++ [] ++ List.replicate 0 32).toArray⟩ : Str) = ⟨ds.toArray⟩ := by
  have e1 : ds.isEmpty = false := by cases ds with
    | nil => exact absurd rfl h
    | cons _ _ => rfl
  rw [e1]
  have e2 : (0 : Int).toNat - ds.length = 0 := by omega
  simp only [Bool.false_eq_true, if_false, e2, List.replicate_zero, List.nil_append, List.append_nil, List.length_nil]
  have e3 : ((-1 : Int) - (((0 : Nat) : Int) + ((0 : Nat) : Int) + ((0 : Nat) : Int)) - (ds.length : Int)).toNat = 0 := by omega
  rw [e3]
  rfl
theorem format_b_eq (n : Nat) (t u : Tok) : «int.__format__» ⟨[.int n t, .str ⟨#[98]⟩ u], []⟩ = (typeNameOf (.str ⟨#[98]⟩ u) >>= fun _ => typeNameOfCut 200 (.int n t) >>= fun _ =>
    retStr ⟨(List.replicate ((-1 : Int) - ((([] : List Nat).length : Int) + (([] : List Nat).length : Int) + (([] : List Nat).length : Int)) - ((if ((Nat.toDigits 2 n).map Char.toNat).isEmpty = true then [] else List.replicate ((0 : Int).toNat - ((Nat.toDigits 2 n).map Char.toNat).length) 48 ++ ((Nat.toDigits 2 n).map Char.toNat)).length : Int)).toNat 32 ++ [] ++ [] ++ List.replicate 0 32 ++ (if ((Nat.toDigits 2 n).map Char.toNat).isEmpty = true then [] else List.replicate ((0 : Int).toNat - ((Nat.toDigits 2 n).map Char.toNat).length) 48 ++ ((Nat.toDigits 2 n).map Char.toNat)) ++ [] ++ List.replicate 0 32).toArray⟩) := by
  kernel_rfl
theorem toDigits_ne (n : Nat) : (Nat.toDigits 2 n).map Char.toNat ≠ [] := fun h => by
  have h1 := List.map_eq_nil_iff.mp h
  have h2 := Nat.length_toDigits_pos (b := 2) (n := n)
  rw [h1] at h2
  exact absurd h2 (by decide)
theorem gives_format_b (n : Nat) (t u : Tok) : Gives («int.__format__» ⟨[.int n t, .str ("b" : Str) u], []⟩) (.str (bitsS n)) := by
  have eb : ("b" : Str) = ⟨#[98]⟩ := by decide +kernel
  rw [eb, format_b_eq]
  refine gives_after_typeNameOf (T := "str") (fun s => typeIs_str s _ _) (by decide) fun _ => ?_
  refine gives_after_typeNameOfCut (T := "int") (fun s => typeIs_int s _ _) (by decide) fun name => ?_
  rw [field_b (toDigits_ne n)]
  exact .of_eq rfl
section
variable {X : Cx}
/-- {x:b} -/
def tFmtB (te : TE) : TE := fun σ H Q => te σ H fun x H1 => ∃ n : Nat, x = .int n ∧ (bitsS n).length ≤ sizeLine ∧ Q (.str (bitsS n)) H1
theorem pe_fmtB {e : Expr} {te : TE} {k : Nat} {p p2 pos : Pos} (he : PE X e te) : PE X (.FormattedValue e (-1) (some (.JoinedStr [.Constant (.str ("b" : Str)) k p] p2)) pos) (tFmtB te) := by
  refine ⟨fun pins s σ H Q I h => ?_⟩
  refine wpAny_FormattedValue_spec (thn (he.run pins s σ H _ I h) fun v s1 hv => ?_)
  obtain ⟨x, H1, I1, r1, n, rfl, hz, q⟩ := hv
  obtain ⟨t, rfl⟩ := r1
  refine thn ((pe_joined1 pe_str).run pins s1 σ H1 (fun y H2 => y = .str ("b" : Str) ∧ H2 = H1) I1 ⟨rfl, rfl⟩) fun v2 s2 hv2 => ?_
  obtain ⟨y, H2, I2, r2, rfl, rfl⟩ := hv2
  obtain ⟨t2, rfl⟩ := r2
  refine ⟨_, t2, rfl, ?_⟩
  exact wpAny_formatField_spec (T := "int") (by decide +kernel) (fun s' => typeIs_int s' _ _) F.slot_int_format F.entry_int_format (fun a b => F.args_int_format_2 a b) (fun u => gives_format_b n t u) ⟨.str (bitsS n), H2, I2.tok _, ⟨_, rfl⟩, q⟩ (by decide +kernel) hz
end
end Wa
namespace Wa
open PySem PySem.Spec PyProof.Rows L2
/-! marks, and the distance by them -/
/-- how many bits are one -/
def ones (n : Nat) : Nat := (Nat.toDigits 2 n).count '1'
theorem ones_step {n d : Nat} (hd : d < 2) : ones (2 * n + d) = ones n + d := by
  have h1 : ones d = d := by
    rcases (show d = 0 ∨ d = 1 by omega) with e | e <;> rw [e] <;> decide
  by_cases h0 : n = 0
  · subst h0
    rw [Nat.mul_zero, Nat.zero_add, h1]
    have : ones 0 = 0 := by decide
    omega
  · have := Nat.toDigits_append_toDigits (b := 2) (n := n) (d := d) (by decide) (by omega) hd
    have e : ones (2 * n + d) = ones n + ones d := by
      unfold ones
      rw [← this, List.count_append]
    rw [e, h1]
theorem ones_eight {n x : Nat} (hx : x < 8) : ones (8 * n + x) = ones n + ones x := by
  have e1 : 8 * n + x = 2 * (2 * (2 * n + x / 4) + x / 2 % 2) + x % 2 := by omega
  have e2 : x = 2 * (2 * (2 * 0 + x / 4) + x / 2 % 2) + x % 2 := by omega
  have h1 : ones (8 * n + x) = ones n + x / 4 + x / 2 % 2 + x % 2 := by rw [e1, ones_step (by omega), ones_step (by omega), ones_step (by omega)]
  have h2 : ones x = ones 0 + x / 4 + x / 2 % 2 + x % 2 := by
    have := ones_step (n := 2 * (2 * 0 + x / 4) + x / 2 % 2) (d := x % 2) (by omega)
    rw [← e2, ones_step (by omega), ones_step (by omega)] at this
    exact this
  have h3 : ones 0 = 0 := by decide
  omega
theorem xor_eight {a b x y : Nat} (hx : x < 8) (hy : y < 8) : (8 * a + x) ^^^ (8 * b + y) = 8 * (a ^^^ b) + (x ^^^ y) := by
  have hm : ((8 * a + x) ^^^ (8 * b + y)) % 2 ^ 3 = x ^^^ y := by
    rw [Nat.xor_mod_two_pow]
    have e1 : (8 * a + x) % 2 ^ 3 = x := by show (8 * a + x) % 8 = x; omega
    have e2 : (8 * b + y) % 2 ^ 3 = y := by show (8 * b + y) % 8 = y; omega
    rw [e1, e2]
  have hd : ((8 * a + x) ^^^ (8 * b + y)) / 2 ^ 3 = a ^^^ b := by
    rw [Nat.xor_div_two_pow]
    have e1 : (8 * a + x) / 2 ^ 3 = a := by show (8 * a + x) / 8 = a; omega
    have e2 : (8 * b + y) / 2 ^ 3 = b := by show (8 * b + y) / 8 = b; omega
    rw [e1, e2]
  have hm' : ((8 * a + x) ^^^ (8 * b + y)) % 8 = x ^^^ y := hm
  have hd' : ((8 * a + x) ^^^ (8 * b + y)) / 8 = a ^^^ b := hd
  omega
def mk (m : Nat) (w : List Nat) : Nat := w.foldl (fun n s => 8 * n + 2 ^ s) m
theorem mk_snoc (m : Nat) (w : List Nat) (s : Nat) : mk m (w ++ [s]) = 8 * mk m w + 2 ^ s := by
  unfold mk
  rw [List.foldl_append]
  rfl
theorem mk_lt : ∀ (w : List Nat), (∀ d ∈ w, d < 3) → mk 0 w < 8 ^ w.length := by
  have key : ∀ (w : List Nat) (m k : Nat), (∀ d ∈ w, d < 3) → m < 8 ^ k → mk m w < 8 ^ (k + w.length) := by
    intro w
    induction w with
    | nil => exact fun m k _ h => h
    | cons x w ih =>
      intro m k hw hm
      have hx := hw x List.mem_cons_self
      have h2 : 2 ^ x ≤ 4 := by
        rcases (show x = 0 ∨ x = 1 ∨ x = 2 by omega) with e | e | e <;> rw [e] <;> decide
      have := ih (8 * m + 2 ^ x) (k + 1) (fun d h => hw d (List.mem_cons_of_mem _ h)) (by rw [Nat.pow_succ]; omega)
      rw [List.length_cons, show k + (w.length + 1) = k + 1 + w.length by omega]
      exact this
  intro w hw
  have := key w 0 0 hw (by decide)
  rw [Nat.zero_add] at this
  exact this
theorem ones_two {x y : Nat} (hx : x < 3) (hy : y < 3) : 2 ^ x ^^^ 2 ^ y < 8 ∧ ones (2 ^ x ^^^ 2 ^ y) = 2 * (if x = y then 0 else 1) := by
  rcases (show x = 0 ∨ x = 1 ∨ x = 2 by omega) with e | e | e <;> rcases (show y = 0 ∨ y = 1 ∨ y = 2 by omega) with e' | e' | e' <;> rw [e, e'] <;> decide
theorem gap_eq : ∀ (a b : List Nat) (m k : Nat), a.length = b.length → (∀ d ∈ a, d < 3) → (∀ d ∈ b, d < 3) → ones (mk m a ^^^ mk k b) = ones (m ^^^ k) + 2 * dist a b
  | [], [], m, k, _, _, _ => rfl
  | [], _ :: _, _, _, h, _, _ => by cases h
  | _ :: _, [], _, _, h, _, _ => by cases h
  | x :: a, y :: b, m, k, h, ha, hb => by
    have hx := ha x List.mem_cons_self
    have hy := hb y List.mem_cons_self
    have ih := gap_eq a b (8 * m + 2 ^ x) (8 * k + 2 ^ y) (by injection h) (fun d h => ha d (List.mem_cons_of_mem _ h)) (fun d h => hb d (List.mem_cons_of_mem _ h))
    have p8 : ∀ z, z < 3 → 2 ^ z < 8 := fun z hz => by
      rcases (show z = 0 ∨ z = 1 ∨ z = 2 by omega) with e | e | e <;> rw [e] <;> decide
    obtain ⟨l1, l2⟩ := ones_two hx hy
    rw [xor_eight (p8 x hx) (p8 y hy), ones_eight l1, l2] at ih
    show ones (mk (8 * m + 2 ^ x) a ^^^ mk (8 * k + 2 ^ y) b) = ones (m ^^^ k) + 2 * ((if x = y then 0 else 1) + dist a b)
    rw [ih]
    omega
theorem gap_dist {a b : List Nat} (h : a.length = b.length) (ha : ∀ d ∈ a, d < 3) (hb : ∀ d ∈ b, d < 3) : ones (mk 0 a ^^^ mk 0 b) = 2 * dist a b := by
  rw [gap_eq a b 0 0 h ha hb]
  have : ones (0 ^^^ 0) = 0 := by decide
  omega
theorem bits_count (n : Nat) : Txt.count (bitsS n) ("1" : Str) = (ones n : Int) := by
  have e0 : ("1" : Str) = ⟨#[49]⟩ := by decide +kernel
  rw [e0, count_sign]
  congr 1
  show ((Nat.toDigits 2 n).map Char.toNat).count 49 = _
  unfold ones
  have key : ∀ l : List Char, (l.map Char.toNat).count 49 = l.count '1' := by
    intro l
    induction l with
    | nil => rfl
    | cons c l ih =>
      rw [List.map_cons, List.count_cons, List.count_cons, ih]
      by_cases e : c = '1'
      · rw [e]
        rfl
      · rw [if_neg (by
          intro z
          have h : c.toNat = 49 := beq_iff_eq.mp z
          exact e (Char.toNat_inj.mp h)), if_neg (by intro z; exact e (beq_iff_eq.mp z))]
  exact key _
theorem bits_len {n k : Nat} (h : n < 2 ^ k) (hk : 0 < k) : (bitsS n).length ≤ k := by
  show ((Nat.toDigits 2 n).map Char.toNat).toArray.size ≤ k
  rw [List.size_toArray, List.length_map]
  exact (Nat.length_toDigits_le_iff (by decide) hk).mpr h
theorem scMarks : FnScope ["word", "number", "sign"] ["word"] (defScope sMarks) := ⟨rfl, rfl, rfl, by decide +kernel, rfl, by decide +kernel, by decide +kernel⟩
def spMarks : Sp := fun vs H Q _ => ∃ (a : List Nat), vs = [.str (wd a)] ∧ a.length ≤ 16 ∧ (∀ d ∈ a, d < 3) ∧ Q (.int (mk 0 a : Nat)) H
section
variable {P : Program} {w : World} {K : PySem.W.Frag} {mg : Str → Option Value} {base : Heap}
theorem ok_marks {f : Addr} {fd : FuncData} {k : Nat} (D : Df K mg "marks" sMarks ["word"] f fd) {tk : Tok} (ms : mg "SIGNS" = some (.str ("012" : Str) tk)) (ml : mg "len" = none) (mi : mg "int" = none) : FnOk P w K mg base CX0 (k + 1) f fd ["word"] spMarks := by
  refine D.F.ok scMarks (fun vs H Q E h => ?_) (fun cdv A outer s H vs Q E hr h => ?_)
  · obtain ⟨a, rfl, _⟩ := h
    rfl
  · obtain ⟨a, rfl, hl, hf, ret⟩ := h
    refine ⟨_, pss_cons (ps_set (i := 1) scMarks.nd rfl (.inl rfl) pe_int)
      (pss_cons (ps_for PassesOwn.never rfl (pi_str (pv 0)) (pg_name (i := 2) scMarks.nd rfl (.inl rfl))
        (pss_one (ps_set (i := 1) scMarks.nd rfl (.inl rfl) (pe_op op_add (pe_op op_shl (pv 1) (pe_callB call_len_str (by rfl) ml PySem.boot_len (pa_cons (pe_glob (v := .str ("012" : Str)) rfl ms ⟨tk, rfl⟩) pa_nil)))
          (pe_op op_shl pe_int (pe_callTy call_int_str (by rfl) mi (by decide +kernel) (pa_cons (pv 2) pa_nil)))))))
      (pss_one (ps_ret (pv 1)))), ?_⟩
    have la : (wd a).cps.size = a.length := wd_len a
    have l3 : (("012" : Str).length : Int) = 3 := by decide +kernel
    refine ⟨_, rfl, wd a, rfl, ?_⟩
    refine walk_f a.length (fun i σ H' => ∃ (y2 : Option V), σ = [some (.str (wd a)), some (.int (mk 0 (a.take i) : Nat)), y2] ∧ H' = H) ⟨none, by rw [List.take_zero]; rfl, rfl⟩ (fun i σ H' hi hp => ?_) (fun σ H' hp => ?_)
    · obtain ⟨y2, rfl, rfl⟩ := hp
      refine ⟨by show i < (wd a).cps.size; omega, fun x H'' y => ?_⟩
      obtain ⟨rfl, c1, h1, rfl⟩ := y
      obtain ⟨d1, e1, rfl⟩ := wd_at h1
      have ld : d1 < 3 := hf d1 (List.mem_of_getElem? e1)
      have lm := mk_lt (a.take i) fun d h => hf d (List.mem_of_mem_take h)
      have lm2 : mk 0 (a.take i) < 2 ^ 64 := Nat.lt_of_lt_of_le lm (Nat.le_trans (Nat.pow_le_pow_right (by decide) (show (a.take i).length ≤ 16 by rw [List.length_take]; omega)) (by decide))
      have e2 : mk 0 (a.take (i + 1)) = 8 * mk 0 (a.take i) + 2 ^ d1 := by
        rw [List.take_add_one, e1]
        exact mk_snoc 0 _ d1
      refine ⟨_, rfl, ("012" : Str), rfl, by decide +kernel, _, _, rfl, rfl, ⟨by rw [l3]; decide, by rw [l3]; decide, by rw [Int.natAbs_natCast]; exact lm2⟩, _, rfl, _, (d1 : Int), rfl, int_fig (by omega), (show 1 ≤ 640 by decide), 1, (d1 : Int), rfl, rfl, ⟨by omega, by omega, by decide⟩, _, _, rfl, rfl, ?_⟩
      refine ⟨some (.str ⟨#[48 + d1]⟩), ?_, rfl⟩
      have e3 : ((mk 0 (a.take i) : Nat) : Int) * 2 ^ ((("012" : Str).length : Int)).toNat + 1 * 2 ^ ((d1 : Int)).toNat = ((mk 0 (a.take (i + 1)) : Nat) : Int) := by
        rw [l3, e2, Int.toNat_natCast, Int.natCast_add, Int.natCast_mul, Int.natCast_pow, Int.one_mul, Int.mul_comm]
        rfl
      show [some (V.str (wd a)), some (V.int (((mk 0 (a.take i) : Nat) : Int) * 2 ^ ((("012" : Str).length : Int)).toNat + 1 * 2 ^ ((d1 : Int)).toNat)), some (.str ⟨#[48 + d1]⟩)] = _
      rw [e3]
    · obtain ⟨y2, rfl, rfl⟩ := hp
      rw [List.take_length]
      exact ⟨by show (wd a).cps.size ≤ a.length; omega, _, rfl, ret⟩
end
theorem scGap : FnScope ["one", "other", "unlike"] ["one", "other"] (defScope sGap) := ⟨rfl, rfl, rfl, by decide +kernel, rfl, by decide +kernel, by decide +kernel⟩
def spGap : Sp := fun vs H Q _ => ∃ (a b : List Nat), vs = [.int (mk 0 a : Nat), .int (mk 0 b : Nat)] ∧ a.length = b.length ∧ a.length ≤ 16 ∧ (∀ d ∈ a, d < 3) ∧ (∀ d ∈ b, d < 3) ∧ Q (.int (dist a b)) H
section
variable {P : Program} {w : World} {K : PySem.W.Frag} {mg : Str → Option Value} {base : Heap}
theorem ok_gap {f : Addr} {fd : FuncData} {k : Nat} (D : Df K mg "gap" sGap ["one", "other"] f fd) : FnOk P w K mg base CX0 (k + 1) f fd ["one", "other"] spGap := by
  refine D.F.ok scGap (fun vs H Q E h => ?_) (fun cdv A outer s H vs Q E hr h => ?_)
  · obtain ⟨a, b, rfl, _⟩ := h
    rfl
  · obtain ⟨a, b, rfl, hl, hl2, fa, fb, ret⟩ := h
    refine ⟨_, pss_cons (ps_set (i := 2) scGap.nd rfl (.inl rfl) (pe_joined1 (pe_fmtB (pe_op op_xor (pv 0) (pv 1)))))
      (pss_one (ps_ret (pe_op op_fdiv (pe_m1 PySem.F.slot_str_count PySem.F.type_str_count mt_count (pv 2) pe_str) pe_int))), ?_⟩
    have ex : Builtin.bitXor ((mk 0 a : Nat) : Int) ((mk 0 b : Nat) : Int) = ((mk 0 a ^^^ mk 0 b : Nat) : Int) := by
      rw [Bits.bitXor_pp (by omega) (by omega), Int.toNat_natCast, Int.toNat_natCast]
    have la : mk 0 a < 2 ^ 64 := Nat.lt_of_lt_of_le (mk_lt a fa) (Nat.le_trans (Nat.pow_le_pow_right (by decide) hl2) (by decide))
    have lb : mk 0 b < 2 ^ 64 := Nat.lt_of_lt_of_le (mk_lt b fb) (Nat.le_trans (Nat.pow_le_pow_right (by decide) (show b.length ≤ 16 by omega)) (by decide))
    have lx : mk 0 a ^^^ mk 0 b < 2 ^ 64 := Nat.xor_lt_two_pow la lb
    refine ⟨_, rfl, _, rfl, _, _, rfl, rfl, mk 0 a ^^^ mk 0 b, congrArg V.int ex, Nat.le_trans (bits_len lx (by decide)) (sz (by decide)), ?_⟩
    refine ⟨_, rfl, ⟨_, rfl⟩, _, ("1" : Str), rfl, rfl, _, 2, rfl, rfl, ⟨by decide, by decide⟩, ?_⟩
    have e2 : Txt.count (bitsS (mk 0 a ^^^ mk 0 b)) ("1" : Str) / 2 = (dist a b : Int) := by
      rw [bits_count, gap_dist hl fa fb]
      omega
    show Q (.int (Txt.count (bitsS (mk 0 a ^^^ mk 0 b)) ("1" : Str) / 2)) H
    rw [e2]
    exact ret
end
end Wa
namespace Wa
open PySem PySem.Spec PyProof.Rows L2
/-! counts -/
theorem get_list {X : Cx} : PGet X (fun o i H Q => ∃ (p : Addr) (xs : List V) (j : Nat) (v : V), o = .ref p ∧ i = .int j ∧ SqL X.K H p xs ∧ xs[j]? = some v ∧ Q v H) := by
  intro pins s σ H o i ov iv Q I ro ri h
  obtain ⟨p, xs, j, v, rfl, rfl, hq, he, q⟩ := h
  cases ro
  obtain ⟨t, rfl⟩ := ri
  obtain ⟨its, r, pl, hz⟩ := I.list hq
  obtain ⟨w, ew, rw'⟩ := r.get he
  have hl := r.length
  have hn := line63
  have hj : j < xs.length := (List.getElem?_eq_some_iff.mp he).1
  exact wpAny_getItem_list pl.isList (by omega) (by omega) (by rw [Int.toNat_natCast]; simpa using ew) ⟨v, H, I, rw', q⟩
/-- how often each number comes -/
def tally (m : Nat) (ds : List Nat) : List Int := (List.range m).map fun i => (ds.count i : Int)
theorem tally_len (m : Nat) (ds : List Nat) : (tally m ds).length = m := by
  unfold tally
  rw [List.length_map, List.length_range]
theorem tally_get {m d : Nat} (ds : List Nat) (h : d < m) : (tally m ds)[d]? = some (ds.count d : Int) := by
  unfold tally
  rw [List.getElem?_map, List.getElem?_range h]
  rfl
theorem tally_nil (m : Nat) : tally m [] = List.replicate m 0 := by
  unfold tally
  rw [List.eq_replicate_iff]
  refine ⟨by rw [List.length_map, List.length_range], fun b hb => ?_⟩
  obtain ⟨i, _, e⟩ := List.mem_map.mp hb
  rw [← e]
  rfl
theorem tally_snoc {m d : Nat} (ds : List Nat) (h : d < m) : (tally m ds).set d ((ds.count d : Int) + 1) = tally m (ds ++ [d]) := by
  apply List.ext_getElem?
  intro i
  rw [List.getElem?_set, tally_len]
  by_cases hi : i < m
  · rw [tally_get (ds ++ [d]) hi, List.count_append]
    by_cases e : d = i
    · rw [if_pos e, if_pos h, e, List.count_singleton_self]
      rfl
    · rw [if_neg e, tally_get _ hi]
      have : List.count i [d] = 0 := List.count_eq_zero.mpr fun z => e (List.mem_singleton.mp z).symm
      rw [this]
      rfl
  · have n1 : (tally m ds)[i]? = none := List.getElem?_eq_none (by rw [tally_len]; omega)
    have n2 : (tally m (ds ++ [d]))[i]? = none := List.getElem?_eq_none (by rw [tally_len]; omega)
    rw [n1, n2]
    by_cases e : d = i
    · omega
    · rw [if_neg e]
theorem tally_perm {m : Nat} {a b : List Nat} (h : a.Perm b) : tally m a = tally m b := by
  unfold tally
  congr 1
  funext i
  rw [h.count_eq]
def gaps (ws us : List (List Nat)) : List Nat := ws.flatMap fun w => us.map (dist w)
theorem gaps_perm {ws us vs xs : List (List Nat)} (h1 : ws.Perm vs) (h2 : us.Perm xs) : (gaps ws us).Perm (gaps vs xs) := by
  unfold gaps
  refine (h1.flatMap_right _).trans ?_
  clear h1
  induction vs with
  | nil => exact .refl _
  | cons v vs ih =>
    rw [List.flatMap_cons, List.flatMap_cons]
    exact (h2.map _).append ih
def cts (n : Nat) (ws : List (List Nat)) : List Int := tally (n + 1) (gaps ws ws)
theorem cts_rev (n : Nat) (ws : List (List Nat)) : cts n ws.reverse = cts n ws := tally_perm (gaps_perm (List.reverse_perm ws) (List.reverse_perm ws))
theorem gaps_snoc (ws us : List (List Nat)) (w : List Nat) : gaps (ws ++ [w]) us = gaps ws us ++ us.map (dist w) := by
  unfold gaps
  rw [List.flatMap_append, List.flatMap_singleton]
def mks (ws : List (List Nat)) : List Int := ws.map fun w => ((mk 0 w : Nat) : Int)
theorem mks_get {ws : List (List Nat)} {i : Nat} {w : List Nat} (h : ws[i]? = some w) : ((mks ws).map V.int)[i]? = some (.int (mk 0 w : Nat)) := by
  unfold mks
  rw [List.getElem?_map, List.getElem?_map, h]
  rfl
theorem mks_len (ws : List (List Nat)) : ((mks ws).map V.int).length = ws.length := by
  unfold mks
  rw [List.length_map, List.length_map]
theorem mks_snoc (ws : List (List Nat)) (w : List Nat) : (mks (ws ++ [w])).map V.int = (mks ws).map V.int ++ [V.int (mk 0 w : Nat)] := by
  unfold mks
  rw [List.map_append, List.map_append]
  rfl
theorem ixN_nat {n j : Nat} (h : j < n) : ixN n (j : Int) = some j := by
  unfold ixN
  rw [if_pos (by omega), if_pos (by omega), Int.toNat_natCast]
abbrev nCts : List Str := ["n", "words", "marked", "told", "one", "other", "word"]
theorem scCts : FnScope nCts ["n", "words"] (defScope sCounts) := ⟨rfl, rfl, rfl, by decide +kernel, rfl, by decide +kernel, by decide +kernel⟩
def spCts (K : PySem.W.Frag) : Sp := fun vs H Q _ => ∃ (q n : Nat) (a : Addr) (ws : List (List Nat)), vs = [.int n, .ref a] ∧ q ≤ 3 ∧ n ≤ 16 ∧ (∀ w ∈ ws, Wd q n w) ∧ ws.length ≤ 10000 ∧ SqL K H a (vws ws) ∧
  ∀ H' p, Same H H' → H p = none → H' p = some (.lst ((cts n ws).map V.int)) → Q (.ref p) H'
section
variable {P : Program} {w : World} {K : PySem.W.Frag} {mg : Str → Option Value} {base : Heap}
theorem ok_counts {f f1 f2 : Addr} {fd fd1 fd2 : FuncData} {k : Nat} (D : Df K mg "counts" sCounts ["n", "words"] f fd) (D1 : Df K mg "marks" sMarks ["word"] f1 fd1) (D2 : Df K mg "gap" sGap ["one", "other"] f2 fd2)
    (G1 : FnOk P w K mg base CX0 k f1 fd1 ["word"] spMarks) (G2 : FnOk P w K mg base CX0 k f2 fd2 ["one", "other"] spGap) (mmax : mg "max" = none) : FnOk P w K mg base CX0 (k + 1) f fd ["n", "words"] (spCts K) := by
  refine D.F.ok scCts (fun vs H Q E h => ?_) (fun cdv A outer s H vs Q E hr h => ?_)
  · obtain ⟨q, n, a, ws, rfl, _⟩ := h
    rfl
  · obtain ⟨q, n, a, ws, rfl, hq3, hn, hw, hl, ha, ret⟩ := h
    refine ⟨_, pss_cons (ps_setLc (i := 2) (own := [("word", 6)]) (g := gName 6) (tt := tYes) rfl scCts.nd rfl rfl (sw_true rfl rfl rfl (by decide +kernel)) (pi_list (pv 1)) (blkOk_by (own := [("word", 6)]) (N := nCts) (sc := defScope sCounts) (by decide +kernel))
        (fun _ _ _ _ _ => pg_name (i := 6) scCts.nd rfl (.inl rfl)) (fun _ _ _ _ _ => pts_nil) (fun _ _ _ _ _ => pe_call G1 hr (by rfl) D1.g D1.F.kp D1.b .nil pass0 (pa_cons (pv 6) pa_nil)))
      (pss_cons (ps_set (i := 3) scCts.nd rfl (.inl rfl) (pe_op op_rep (pe_lst (pa_cons pe_int pa_nil)) (pe_op op_add (pe_callB (call_max2 rfl) (by rfl) mmax (by decide +kernel) (pa_cons (pv 0) (pa_cons pe_int pa_nil))) pe_int)))
      (pss_cons (ps_for PassesOwn.never rfl (pi_list (pv 2)) (pg_name (i := 4) scCts.nd rfl (.inl rfl))
        (pss_one (ps_for PassesOwn.never rfl (pi_list (pv 2)) (pg_name (i := 5) scCts.nd rfl (.inl rfl))
          (pss_one (ps_augS (pv 3) (pe_call G2 hr (by rfl) D2.g D2.F.kp D2.b .nil pass0 (pa_cons (pv 4) (pa_cons (pv 5) pa_nil))) get_list pe_int ip_add set_list)))))
      (pss_one (ps_ret (pv 3))))), ?_⟩
    refine ⟨_, rfl, a, rfl, ⟨_, ha⟩, fun M0 nM => ?_⟩
    have w3 : ∀ w ∈ ws, ∀ d ∈ w, d < 3 := fun w h d hd => Nat.lt_of_lt_of_le ((hw w h).2 d hd) hq3
    refine walk_n ws.length (fun i H' => Same H H' ∧ H' M0 = some (.lst ((mks (ws.take i)).map V.int))) ⟨same_upd nM, upd_same⟩
      (fun i H' hi ⟨i1, i2⟩ => ⟨itl_go (i1.seq ha) (by rw [vws_len]; exact hi), fun x H'' y => ?_⟩) (fun H' ⟨i1, i2⟩ => ⟨itl_stop (i1.seq ha) (vws_len _), ?_⟩)
    · obtain ⟨rfl, ex⟩ := itl_yld (i1.seq ha) y
      have gi : ws[i]? = some ws[i] := List.getElem?_eq_getElem hi
      have hm : ws[i] ∈ ws := List.getElem_mem hi
      rw [vws_get, gi] at ex
      cases ex
      generalize ws[i] = u at gi hm
      refine ⟨rfl, yes (iteT ⟨_, rfl, u, rfl, by rw [(hw u hm).1]; exact hn, w3 u hm, _, i2, by rw [mks_len, List.length_take]; exact sz' (by omega), same_over i1 nM, ?_⟩)⟩
      rw [upd_same, List.take_add_one, gi]
      exact congrArg (fun z => some (HO.lst z)) (mks_snoc _ u).symm
    · rw [List.take_length] at i2
      refine ⟨(show 1 ≤ sizeLine by decide), fun l nl => ?_⟩
      have sl : Same H (upd H' l (.lst [.int 0])) := i1.trans (same_upd nl)
      have el : (upd H' l (.lst [.int 0])) l = some (.lst [.int 0]) := upd_same
      have em : (upd H' l (.lst [.int 0])) M0 = some (.lst ((mks ws).map V.int)) := same_upd nl _ _ i2
      generalize (upd H' l (.lst [.int 0])) = H2 at sl el em ⊢
      refine ⟨_, rfl, _, _, rfl, ?_⟩
      rw [if_neg (show ¬ ((0 : Int) > (n : Int)) by omega)]
      refine ⟨_, _, rfl, rfl, l, _, _, rfl, rfl, el, by omega, by omega, ?_, fun t0 nt => ?_⟩
      · show 1 * _ ≤ _
        rw [Nat.one_mul]
        exact sz (by omega)
      have e0 : (List.replicate (((n : Int) + 1)).toNat [V.int 0]).flatten = (tally (n + 1) (gaps (ws.take 0) ws)).map V.int := by
        have e1 : ((n : Int) + 1).toNat = n + 1 := by omega
        rw [e1, List.take_zero]
        show _ = (tally (n + 1) []).map V.int
        rw [tally_nil, List.map_replicate]
        generalize n + 1 = m
        clear e1
        induction m with
        | zero => rfl
        | succ m ih => rw [List.replicate_succ, List.flatten_cons, ih, List.replicate_succ]; rfl
      rw [e0]
      have st : Same H (upd H2 t0 (.lst ((tally (n + 1) (gaps (ws.take 0) ws)).map V.int))) := sl.trans (same_upd nt)
      have nHt : H t0 = none := sl.free nt
      have et : (upd H2 t0 (.lst ((tally (n + 1) (gaps (ws.take 0) ws)).map V.int))) t0 = some (.lst ((tally (n + 1) (gaps (ws.take 0) ws)).map V.int)) := upd_same
      have em3 : (upd H2 t0 (.lst ((tally (n + 1) (gaps (ws.take 0) ws)).map V.int))) M0 = some (.lst ((mks ws).map V.int)) := same_upd nt _ _ em
      have nMt : M0 ≠ t0 := ne_of_none em nt
      generalize (upd H2 t0 (.lst ((tally (n + 1) (gaps (ws.take 0) ws)).map V.int))) = H3 at st et em3 ⊢
      refine ⟨_, rfl, M0, rfl, ⟨_, sq em3⟩, ?_⟩
      refine walk_f ws.length (fun i σ H' => ∃ (y4 y5 : Option V), σ = [some (.int n), some (.ref a), some (.ref M0), some (.ref t0), y4, y5, none] ∧ Same H H' ∧ H' M0 = some (.lst ((mks ws).map V.int)) ∧ H' t0 = some (.lst ((tally (n + 1) (gaps (ws.take i) ws)).map V.int)))
        ⟨none, none, rfl, st, em3, et⟩ (fun i σ H' hi hp => ?_) (fun σ H' hp => ?_)
      · obtain ⟨y4, y5, rfl, j1, j2, j3⟩ := hp
        refine ⟨itl_go (sq j2) (by rw [mks_len]; exact hi), fun x H'' y => ?_⟩
        obtain ⟨rfl, ex⟩ := itl_yld (sq j2) y
        have gi : ws[i]? = some ws[i] := List.getElem?_eq_getElem hi
        have hm : ws[i] ∈ ws := List.getElem_mem hi
        rw [mks_get gi] at ex
        cases ex
        generalize ws[i] = u at gi hm
        refine ⟨_, rfl, M0, rfl, ⟨_, sq j2⟩, ?_⟩
        refine walk_f ws.length (fun j σ H' => ∃ (y5 : Option V), σ = [some (.int n), some (.ref a), some (.ref M0), some (.ref t0), some (.int (mk 0 u : Nat)), y5, none] ∧ Same H H' ∧ H' M0 = some (.lst ((mks ws).map V.int)) ∧ H' t0 = some (.lst ((tally (n + 1) (gaps (ws.take i) ws ++ (ws.take j).map (dist u))).map V.int)))
          ⟨_, rfl, j1, j2, by rw [List.take_zero, List.map_nil, List.append_nil]; exact j3⟩ (fun j σ H' hj hp => ?_) (fun σ H' hp => ?_)
        · obtain ⟨y5, rfl, k1, k2, k3⟩ := hp
          refine ⟨itl_go (sq k2) (by rw [mks_len]; exact hj), fun x H'' y => ?_⟩
          obtain ⟨rfl, ex⟩ := itl_yld (sq k2) y
          have gj : ws[j]? = some ws[j] := List.getElem?_eq_getElem hj
          have hm2 : ws[j] ∈ ws := List.getElem_mem hj
          rw [mks_get gj] at ex
          cases ex
          generalize ws[j] = v at gj hm2
          have lu := (hw u hm).1
          have lv := (hw v hm2).1
          have hd : dist u v < n + 1 := by
            have := dist_le u v
            omega
          have ej : (ws.take (j + 1)).map (dist u) = (ws.take j).map (dist u) ++ [dist u v] := by
            rw [List.take_add_one, gj, List.map_append]
            rfl
          rw [ej, ← List.append_assoc]
          generalize gaps (ws.take i) ws ++ (ws.take j).map (dist u) = ds at k3
          have gt := tally_get (m := n + 1) ds hd
          refine ⟨_, rfl, _, rfl, _, rfl, u, v, rfl, by omega, by omega, w3 u hm, w3 v hm2, t0, _, dist u v, _, rfl, rfl, sq k3, by rw [List.getElem?_map, gt]; rfl, _, 1, rfl, rfl, t0, _, (dist u v : Int), dist u v, rfl, rfl, k3, ?_, ?_⟩
          · rw [List.length_map, tally_len]
            exact ixN_nat hd
          · refine ⟨_, rfl, same_over k1 nHt, by rw [upd_ne nMt]; exact k2, ?_⟩
            rw [upd_same, ← tally_snoc ds hd, List.map_set]
        · obtain ⟨y5, rfl, k1, k2, k3⟩ := hp
          rw [List.take_length] at k3
          refine ⟨itl_stop (sq k2) (mks_len _), _, _, rfl, k1, k2, ?_⟩
          rw [k3, List.take_add_one, gi]
          exact congrArg (fun z => some (HO.lst ((tally (n + 1) z).map V.int))) (gaps_snoc _ _ u).symm
      · obtain ⟨y4, y5, rfl, j1, j2, j3⟩ := hp
        rw [List.take_length] at j3
        exact ⟨itl_stop (sq j2) (mks_len _), _, rfl, ret _ t0 j1 nHt j3⟩
end
end Wa
namespace Wa
open PySem PySem.Spec PyProof.Rows L2
/-! the law's own list of all words -/
abbrev nAll : List Str := ["_law_q", "_law_n", "_law_found", "_law_k", "_law_more", "_law_word_here", "_law_sign"]
theorem scAll : FnScope nAll ["_law_q", "_law_n"] (defScope sAll) := ⟨rfl, rfl, rfl, by decide +kernel, rfl, by decide +kernel, by decide +kernel⟩
section
variable {P : Program} {w : World} {K : PySem.W.Frag} {mg : Str → Option Value} {base : Heap}
theorem ok_all {f : Addr} {fd : FuncData} {k : Nat} (F : Fun K "_law_all" "_law_all" sAll f fd) (mr : mg "range" = none) (mt : mg "str" = none) : FnOk P w K mg base CX0 (k + 1) f fd ["_law_q", "_law_n"] spAW := by
  refine F.ok scAll (fun vs H Q E h => ?_) (fun cdv A outer s H vs Q E hr h => ?_)
  · obtain ⟨q, n, rfl, _⟩ := h
    rfl
  · obtain ⟨q, n, rfl, hq, hn, ret⟩ := h
    refine ⟨_, pss_cons (ps_set (i := 2) scAll.nd rfl (.inl rfl) (pe_lst (pa_cons pe_str pa_nil)))
      (pss_cons (ps_for PassesOwn.never rfl (pi_range1 rfl mr (pa_cons (pv 1) pa_nil)) (pg_name (i := 3) scAll.nd rfl (.inl rfl))
        (pss_cons (ps_set (i := 4) scAll.nd rfl (.inl rfl) (pe_lst pa_nil))
        (pss_cons (ps_for PassesOwn.never rfl (pi_list (pv 2)) (pg_name (i := 5) scAll.nd rfl (.inr rfl))
          (pss_one (ps_set (i := 4) scAll.nd rfl (.inl rfl) (pe_op op_cat (pv 4) (pe_lc (own := [("_law_sign", 6)]) (g := gName 6) (tt := tYes) rfl scAll.nd (pi_range1 rfl mr (pa_cons (pv 0) pa_nil))
            (blkOk_by (own := [("_law_sign", 6)]) (N := nAll) (sc := defScope sAll) (by decide +kernel)) (fun _ _ _ _ _ => pg_name (i := 6) scAll.nd rfl (Or.inl rfl)) (fun _ _ _ _ _ => pts_nil)
            (fun _ _ _ _ _ => pe_op op_add_str (pv 5) (pe_callTy call_str_int (by rfl) mt (by decide +kernel) (pa_cons (pv 6) pa_nil))))))))
        (pss_one (ps_set (i := 2) scAll.nd rfl (.inl rfl) (pv 4))))))
      (pss_one (ps_ret (pv 2)))), ?_⟩
    refine ⟨(show 1 ≤ sizeLine by decide), fun p0 np0 => ?_⟩
    refine ⟨.int n, rfl, (n : Int), rfl, by omega, by omega, ?_⟩
    refine walk_f n (fun i σ H' => ∃ (p : Addr) (y3 y4 y5 : Option V), σ = [some (.int q), some (.int n), some (.ref p), y3, y4, y5, none] ∧ Same H H' ∧ H p = none ∧ H' p = some (.lst (vws (allD q i)))) ⟨p0, none, none, none, rfl, same_upd np0, np0, upd_same⟩ (fun i σ H' hi hp => ?_) (fun σ H' hp => ?_)
    · obtain ⟨p, y3, y4, y5, rfl, i1, i2, i3⟩ := hp
      refine ⟨by show i < (n : Int).toNat; omega, fun x H'' y => ?_⟩
      obtain ⟨rfl, rfl⟩ := y
      refine ⟨Nat.zero_le _, fun m0 nm0 => ?_⟩
      have nHm : H m0 = none := i1.free nm0
      have npm : p ≠ m0 := ne_of_none i3 nm0
      have hlen : (allD q i).length ≤ 6561 := by rw [allD_len]; exact pow_bound hq (by omega)
      have i3' : (upd H'' m0 (.lst [])) p = some (.lst (vws (allD q i))) := by rw [upd_ne npm]; exact i3
      refine ⟨.ref p, rfl, p, rfl, ⟨_, sq i3'⟩, ?_⟩
      refine walk_f (allD q i).length (fun j σ H5 => ∃ (m : Addr) (y5 : Option V), σ = [some (.int q), some (.int n), some (.ref p), some (.int (0 + (i : Int))), some (.ref m), y5, none] ∧ Same H H5 ∧ H5 p = some (.lst (vws (allD q i))) ∧ H m = none ∧ H5 m = some (.lst (vws (((allD q i).take j).flatMap fun w => (List.range q).map fun s => w ++ [s]))))
        ⟨m0, y5, rfl, same_over i1 nHm, i3', nHm, upd_same⟩ (fun j σ H5 hj hp => ?_) (fun σ H5 hp => ?_)
      · obtain ⟨m, z5, rfl, j1, j2, j3, j4⟩ := hp
        refine ⟨itl_go (sq j2) (by rw [vws_len]; exact hj), fun x H6 y => ?_⟩
        obtain ⟨rfl, ex⟩ := itl_yld (sq j2) y
        have gj : (allD q i)[j]? = some (allD q i)[j] := List.getElem?_eq_getElem hj
        have wl : (allD q i)[j].length = i := (allD_mem (List.getElem_mem hj)).1
        rw [vws_get, gj] at ex
        cases ex
        generalize (allD q i)[j] = u at gj wl
        have hb : (((allD q i).take j).flatMap fun w => (List.range q).map fun s => w ++ [s]).length ≤ 6561 * 3 := by
          rw [flat_len (q := q) (fun x _ => by rw [List.length_map, List.length_range]), List.length_take]
          exact Nat.mul_le_mul (by omega) hq
        refine ⟨.ref m, rfl, .int q, rfl, (q : Int), rfl, by omega, by omega, fun D nD => ?_⟩
        have nHD : H D = none := j1.free nD
        have npD : p ≠ D := ne_of_none j2 nD
        have nmD : m ≠ D := ne_of_none j4 nD
        refine walk_n q (fun c H7 => Same H H7 ∧ H7 p = some (.lst (vws (allD q i))) ∧ H7 m = some (.lst (vws (((allD q i).take j).flatMap fun w => (List.range q).map fun s => w ++ [s]))) ∧ H7 D = some (.lst (vws (((List.range q).take c).map fun s => u ++ [s]))))
          ⟨same_over j1 nHD, by rw [upd_ne npD]; exact j2, by rw [upd_ne nmD]; exact j4, upd_same⟩ (fun c H7 hc ⟨k1, k2, k3, k4⟩ => ⟨by show c < (q : Int).toNat; omega, fun x H8 y => ?_⟩) (fun H7 ⟨k1, k2, k3, k4⟩ => ⟨by show (q : Int).toNat ≤ q; omega, ?_⟩)
        · obtain ⟨rfl, rfl⟩ := y
          refine ⟨rfl, yes (iteT ?_)⟩
          refine ⟨_, rfl, .int (0 + (c : Int)), rfl, 0 + (c : Int), rfl, ?_, wd u, _, rfl, rfl, ?_, _, k4, ?_, ?_⟩
          · rw [Int.zero_add]
            match c, Nat.lt_of_lt_of_le hc hq with
            | 0, _ => decide +kernel
            | 1, _ => decide +kernel
            | 2, _ => decide +kernel
          · rw [Int.zero_add, str_fig (Nat.lt_of_lt_of_le hc hq), wd_len, wd_len, wl]
            exact sz (by show i + 1 ≤ 16000000; omega)
          · rw [vws_len, List.length_map, List.length_take]
            exact sz' (by rw [List.length_range]; omega)
          · refine ⟨same_over k1 nHD, by rw [upd_ne npD]; exact k2, by rw [upd_ne nmD]; exact k3, ?_⟩
            rw [upd_same, Int.zero_add, str_fig (Nat.lt_of_lt_of_le hc hq), wd_app, range_take hc, List.map_append]
            exact congrArg (fun z => some (HO.lst z)) (vws_snoc _ _).symm
        · have e : (List.range q).take q = List.range q := List.take_of_length_le (by rw [List.length_range]; exact Nat.le_refl _)
          rw [e] at k4
          refine ⟨m, D, _, _, rfl, rfl, k3, k4, ?_, fun r nr => ?_⟩
          · rw [vws_len, vws_len, List.length_map, List.length_range]
            exact sz (by omega)
          · have npr : p ≠ r := ne_of_none k2 nr
            refine ⟨r, _, rfl, k1.trans (same_upd nr), by rw [upd_ne npr]; exact k2, k1.free nr, ?_⟩
            rw [upd_same, flat_take gj, vws_app]
      · obtain ⟨m, z5, rfl, j1, j2, j3, j4⟩ := hp
        rw [List.take_length] at j4
        exact ⟨itl_stop (sq j2) (vws_len _), .ref m, rfl, m, _, _, _, rfl, j1, j3, j4⟩
    · obtain ⟨p, y3, y4, y5, rfl, i1, i2, i3⟩ := hp
      exact ⟨by show (n : Int).toNat ≤ n; omega, .ref p, rfl, ret _ p i1 i2 i3⟩
end
end Wa
namespace Wa
open PySem PySem.Spec PyProof.Rows L2
/-! rows of words, drawn -/
abbrev nMany : List Str := ["_law_draws_here", "_law_q", "_law_n", "_law_every", "_law_start", "_law_step", "_law_found", "_law_k"]
theorem scMany : FnScope nMany ["_law_draws_here", "_law_q", "_law_n"] (defScope sMany) := ⟨rfl, rfl, rfl, by decide +kernel, rfl, by decide +kernel, by decide +kernel⟩
/-- a new row of words; the draws have fewer -/
def spRows : Sp := fun vs H Q _ => ∃ (a : Addr) (ds : List Int) (q n : Nat), vs = [.ref a, .int q, .int n] ∧ QN q n ∧ H a = some (.lst (ds.map V.int)) ∧ Drawn ds ∧
  ∀ H' p ws ds', H p = none → H' p = some (.lst (vws ws)) → (∀ w ∈ ws, Wd q n w) → ws.length ≤ 256 → Drawn ds' → H' a = some (.lst (ds'.map V.int)) → Others a H H' → Q (.ref p) H'
theorem cut_len {q n : Nat} (ws : List (List Nat)) (i : Int) : ∃ k, cutV (vws ws) none (some i) = vws (ws.take k) := by
  unfold cutV
  rw [HT.sIx_none, List.drop_zero, Nat.sub_zero]
  refine ⟨HT.sIx (vws ws).length (vws ws).length (some i), ?_⟩
  unfold vws
  rw [List.map_take]
theorem at_ws {ws : List (List Nat)} {k : Int} (h0 : 0 ≤ k) (h : k < ws.length) : ∃ w ∈ ws, atI (vws ws) k = some (.str (wd w)) := by
  obtain ⟨j, rfl⟩ := Int.eq_ofNat_of_zero_le h0
  have hj : j < ws.length := by omega
  refine ⟨ws[j], List.getElem_mem hj, atI_nat ?_⟩
  rw [vws_get, List.getElem?_eq_getElem hj]
  rfl
theorem pow_qn {q n : Nat} (h : QN q n) : 2 ≤ q ^ n ∧ q ^ n ≤ 256 := by
  rcases h with ⟨rfl, h1, h2⟩ | ⟨rfl, h1, h2⟩
  · exact ⟨Nat.le_trans (show 2 ≤ 2 ^ 1 by decide) (Nat.pow_le_pow_right (by decide) h1), Nat.le_trans (Nat.pow_le_pow_right (by decide) h2) (by decide)⟩
  · exact ⟨Nat.le_trans (show 2 ≤ 3 ^ 1 by decide) (Nat.pow_le_pow_right (by decide) h1), Nat.le_trans (Nat.pow_le_pow_right (by decide) h2) (by decide)⟩
theorem Others.free {a : Addr} {H H' : Hp} (o : Others a H H') {l : Addr} (hne : l ≠ a) (h : H' l = none) : H l = none := by
  cases q : H l with
  | none => rfl
  | some u =>
    rw [o l u hne q] at h
    cases h
section
variable {P : Program} {w : World} {K : PySem.W.Frag} {mg : Str → Option Value} {base : Heap}
theorem ok_many {f f1 f2 : Addr} {fd fd1 fd2 : FuncData} {k : Nat} (D : Df K mg "_law_many" sMany ["_law_draws_here", "_law_q", "_law_n"] f fd) (D1 : Df K mg "_law_all" sAll ["_law_q", "_law_n"] f1 fd1) (D2 : Df K mg "_law_pop" sPop ["_law_draws_here"] f2 fd2)
    (G1 : FnOk P w K mg base CX0 k f1 fd1 ["_law_q", "_law_n"] spAW) (G2 : FnOk P w K mg base CX0 k f2 fd2 ["_law_draws_here"] spPop) (mr : mg "range" = none) (ml : mg "len" = none) : FnOk P w K mg base CX0 (k + 1) f fd ["_law_draws_here", "_law_q", "_law_n"] spRows := by
  refine D.F.ok scMany (fun vs H Q E h => ?_) (fun cdv A outer s H vs Q E hr h => ?_)
  · obtain ⟨a, ds, q, n, rfl, _⟩ := h
    rfl
  · obtain ⟨a, ds, q, n, rfl, hqn, ha, hd, ret⟩ := h
    obtain ⟨hq3, hn8⟩ := hqn.le
    refine ⟨_, pss_cons (ps_set (i := 3) scMany.nd rfl (.inr rfl) (pe_call G1 hr (by rfl) D1.g D1.F.kp D1.b .nil pass0 (pa_cons (pv 1) (pa_cons (pv 2) pa_nil))))
      (pss_cons (ps_asg (pe_tup (pa_cons (pe_op op_mod (pe_call G2 hr (by rfl) D2.g D2.F.kp D2.b .nil pass0 (pa_cons (pv 0) pa_nil)) (pe_callB call_len_seq (by rfl) ml PySem.boot_len (pa_cons (pv 3) pa_nil)))
          (pa_cons (pe_op op_add pe_int (pe_op op_mul pe_int (pe_op op_mod (pe_call G2 hr (by rfl) D2.g D2.F.kp D2.b .nil pass0 (pa_cons (pv 0) pa_nil)) pe_int))) pa_nil)))
        (pg_tup (by rfl) (pgs_cons (pg_name (i := 4) scMany.nd rfl (.inr rfl)) (pgs_cons (pg_name (i := 5) scMany.nd rfl (.inr rfl)) pgs_nil))))
      (pss_cons (ps_setLc (i := 6) (own := [("_law_k", 7)]) (g := gName 7) (tt := tYes) rfl scMany.nd rfl rfl (sw_true rfl rfl rfl (by decide +kernel)) (pi_range1 rfl mr (pa_cons (pe_callB call_len_seq (by rfl) ml PySem.boot_len (pa_cons (pv 3) pa_nil)) pa_nil))
        (blkOk_by (own := [("_law_k", 7)]) (N := nMany) (sc := defScope sMany) (by decide +kernel)) (fun _ _ _ _ _ => pg_name (i := 7) scMany.nd rfl (Or.inl rfl)) (fun _ _ _ _ _ => pts_nil)
        (te := tOp (rIxL K) (tVar 3) (tOp (rI (fun _ j => 0 < j) fun i j => .int (i % j)) (tOp (rI0 fun i j => .int (i + j)) (tVar 4) (tOp (rI CMul fun i j => .int (i * j)) (tVar 5) (tVar 7))) (tCB (fun xs H Q => ∃ p ys, xs = [.ref p] ∧ (SqL K H p ys ∨ SqT K H p ys) ∧ Q (.int ys.length) H) (tCons (tVar 3) tNil))))
        (fun _ _ _ _ _ => pe_ix ix_list (pv 3) (pe_op op_mod (pe_op op_add (pv 4) (pe_op op_mul (pv 5) (pv 7))) (pe_callB call_len_seq (by rfl) ml PySem.boot_len (pa_cons (pv 3) pa_nil))) (fun _ _ => rfl)))
      (pss_one (ps_ret (pe_slice sl_list (pv 6) po_none (po_some (pe_op op_sub (pe_callB call_len_seq (by rfl) ml PySem.boot_len (pa_cons (pv 3) pa_nil)) (pe_op op_mod (pe_call G2 hr (by rfl) D2.g D2.F.kp D2.b .nil pass0 (pa_cons (pv 0) pa_nil))
        (pe_ix ix_list (pe_lst (pa_cons pe_int (pa_cons (pe_callB call_len_seq (by rfl) ml PySem.boot_len (pa_cons (pv 3) pa_nil)) pa_nil))) (pe_op op_mod (pe_call G2 hr (by rfl) D2.g D2.F.kp D2.b .nil pass0 (pa_cons (pv 0) pa_nil)) pe_int) (fun _ _ => rfl)))))))))), ?_⟩
    refine ⟨_, rfl, _, rfl, q, n, rfl, hq3, hn8, fun H1 e0 s1 ne0 ee0 => ?_⟩
    obtain ⟨p2, p256⟩ := pow_qn hqn
    have hE : (allD q n).length = q ^ n := allD_len q n
    have hEw : ∀ w ∈ allD q n, Wd q n w := fun w hw => ⟨(allD_mem hw).1, (allD_mem hw).2⟩
    generalize allD q n = ev at ee0 hE hEw
    have lv : ((vws ev).length : Int) = (q ^ n : Nat) := by rw [vws_len, hE]
    generalize q ^ n = N at hE p2 p256 lv
    have nea : e0 ≠ a := fun z => by rw [z, ha] at ne0; cases ne0
    have a1 := s1 _ _ ha
    -- start, step
    refine ⟨_, rfl, a, ds, rfl, a1, fun H2 a2 k2 => ?_⟩
    have e2 := k2 e0 nea _ ee0
    refine ⟨_, rfl, e0, _, rfl, .inl (sq e2), _, _, rfl, rfl, by rw [lv]; omega, ?_⟩
    refine ⟨_, rfl, a, _, rfl, a2, fun H3 a3 k3 => ?_⟩
    have e3 := k3 e0 nea _ e2
    refine ⟨_, 40, rfl, rfl, (show (0 : Int) < 40 by decide), 6, _, rfl, rfl, .inl ⟨by decide, by decide⟩, 1, _, rfl, rfl, (show 2 ≤ sizeLine by decide), fun t nt => ?_⟩
    have st0 := Int.emod_nonneg (popV ds) (show ((vws ev).length : Int) ≠ 0 by rw [lv]; omega)
    have sp0 := Int.emod_nonneg (popV ds.dropLast) (show (40 : Int) ≠ 0 by decide)
    have sp1 := Int.emod_lt_of_pos (popV ds.dropLast) (show (0 : Int) < 40 by decide)
    refine ⟨t, _, rfl, .inl (.inl upd_same), rfl, _, _, rfl, _, _, rfl, rfl, ?_⟩
    have a4 : (upd H3 t (.tup [.int (popV ds % ((vws ev).length : Int)), .int (1 + 6 * (popV ds.dropLast % 40))])) a = some (.lst (ds.dropLast.dropLast.map V.int)) := same_upd nt _ _ a3
    have e4 : (upd H3 t (.tup [.int (popV ds % ((vws ev).length : Int)), .int (1 + 6 * (popV ds.dropLast % 40))])) e0 = some (.lst (vws ev)) := same_upd nt _ _ e3
    have o4 : Others a H (upd H3 t (.tup [.int (popV ds % ((vws ev).length : Int)), .int (1 + 6 * (popV ds.dropLast % 40))])) := fun b o nb ho => same_upd nt _ _ (k3 b nb _ (k2 b nb _ (s1 _ _ ho)))
    dsimp only
    generalize (upd H3 t (.tup [.int (popV ds % ((vws ev).length : Int)), .int (1 + 6 * (popV ds.dropLast % 40))])) = H4 at a4 e4 o4 ⊢
    generalize popV ds % ((vws ev).length : Int) = st at st0 ⊢
    generalize popV ds.dropLast % 40 = sp at sp0 sp1 ⊢
    -- found
    refine ⟨_, rfl, e0, _, rfl, .inl (sq e4), _, rfl, by rw [lv]; omega, by rw [lv]; omega, fun D0 nD => ?_⟩
    have naD : a ≠ D0 := ne_of_none a4 nD
    have neD : e0 ≠ D0 := ne_of_none e4 nD
    have nHD : H D0 = none := o4.free (fun z => naD z.symm) nD
    refine walk_n N (fun i H5 => Others a H H5 ∧ H5 a = some (.lst (ds.dropLast.dropLast.map V.int)) ∧ H5 e0 = some (.lst (vws ev)) ∧ ∃ ws, H5 D0 = some (.lst (vws ws)) ∧ ws.length = i ∧ ∀ w ∈ ws, Wd q n w)
      ⟨fun b o nb ho => by rw [upd_ne (ne_of_none ho nHD)]; exact o4 b o nb ho, by rw [upd_ne naD]; exact a4, by rw [upd_ne neD]; exact e4, [], upd_same, rfl, fun w hw => absurd hw (by simp)⟩ (fun i H5 hi hp => ⟨by show i < (((vws ev).length : Int)).toNat; rw [lv]; omega, fun x H6 y => ?_⟩) (fun H5 hp => ⟨by show (((vws ev).length : Int)).toNat ≤ N; rw [lv]; omega, ?_⟩)
    · obtain ⟨o5, a5, e5, ws, d5, l5, w5⟩ := hp
      obtain ⟨rfl, rfl⟩ := y
      refine ⟨rfl, yes (iteT ?_)⟩
      have m0 := Int.emod_nonneg (st + (1 + 6 * sp) * (0 + (i : Int))) (show ((vws ev).length : Int) ≠ 0 by rw [lv]; omega)
      have m1 := Int.emod_lt_of_pos (st + (1 + 6 * sp) * (0 + (i : Int))) (show (0 : Int) < ((vws ev).length : Int) by rw [lv]; omega)
      obtain ⟨w0, hw0, hat⟩ := at_ws (ws := ev) m0 (by rw [vws_len] at m1 ⊢; exact m1)
      refine ⟨_, rfl, _, rfl, _, rfl, _, rfl, _, _, rfl, rfl, .inl ⟨by omega, by omega⟩, _, _, rfl, rfl, _, rfl, e0, _, rfl, .inl (sq e5), _, _, rfl, rfl, by rw [lv]; omega, e0, _, _, _, rfl, rfl, sq e5, hat, _, d5, by rw [vws_len]; exact sz' (by omega), ?_⟩
      refine ⟨fun b o nb ho => by rw [upd_ne (ne_of_none ho nHD)]; exact o5 b o nb ho, by rw [upd_ne naD]; exact a5, by rw [upd_ne neD]; exact e5, ws ++ [w0], by rw [upd_same, vws_snoc], by rw [List.length_append, l5]; rfl, fun w hw => ?_⟩
      rcases List.mem_append.mp hw with z | z
      · exact w5 w z
      · rw [List.mem_singleton.mp z]
        exact hEw w0 hw0
    · obtain ⟨o5, a5, e5, ws, d5, l5, w5⟩ := hp
      refine ⟨_, rfl, _, rfl, e0, _, rfl, .inl (sq e5), ?_⟩
      refine ⟨_, rfl, a, _, rfl, a5, fun H6 a6 k6 => ?_⟩
      have e6 := k6 e0 nea _ e5
      have d6 := k6 D0 (fun z => naD z.symm) _ d5
      refine ⟨_, rfl, e0, _, rfl, .inl (sq e6), (show 2 ≤ sizeLine by decide), fun l nl => ?_⟩
      have a7 := same_upd (o := .lst [.int 1, .int ((vws ev).length : Int)]) nl _ _ a6
      have d7 := same_upd (o := .lst [.int 1, .int ((vws ev).length : Int)]) nl _ _ d6
      have o7 : Others a H (upd H6 l (.lst [.int 1, .int ((vws ev).length : Int)])) := fun b o nb ho => same_upd nl _ _ (k6 b nb _ (o5 b o nb ho))
      have l7 : (upd H6 l (.lst [.int 1, .int ((vws ev).length : Int)])) l = some (.lst [.int 1, .int ((vws ev).length : Int)]) := upd_same
      generalize (upd H6 l (.lst [.int 1, .int ((vws ev).length : Int)])) = H7 at a7 d7 o7 l7 ⊢
      have nla : l ≠ a := fun z => by rw [z, a6] at nl; cases nl
      refine ⟨_, rfl, a, _, rfl, a7, fun H8 a8 k8 => ?_⟩
      have l8 := k8 l nla _ l7
      have d8 := k8 D0 (fun z => naD z.symm) _ d7
      have c0 := Int.emod_nonneg (popV ds.dropLast.dropLast.dropLast) (show (2 : Int) ≠ 0 by decide)
      have c1 := Int.emod_lt_of_pos (popV ds.dropLast.dropLast.dropLast) (show (0 : Int) < 2 by decide)
      obtain ⟨z, hz, hz0⟩ : ∃ z : Int, atI [V.int 1, V.int ((vws ev).length : Int)] (popV ds.dropLast.dropLast.dropLast % 2) = some (.int z) ∧ 0 < z := by
        rcases (show popV ds.dropLast.dropLast.dropLast % 2 = 0 ∨ popV ds.dropLast.dropLast.dropLast % 2 = 1 by omega) with e | e
        · rw [e]
          exact ⟨1, rfl, by decide⟩
        · rw [e]
          exact ⟨_, rfl, by rw [lv]; omega⟩
      refine ⟨_, 2, rfl, rfl, (show (0 : Int) < 2 by decide), l, _, _, _, rfl, rfl, sq l8, hz, _, z, rfl, rfl, hz0, _, _, rfl, rfl, _, rfl, D0, _, rfl, sq d8, fun p np => ?_⟩
      obtain ⟨kk, ek⟩ := cut_len (q := q) (n := n) ws (((vws ev).length : Int) - popV ds.dropLast.dropLast % z)
      rw [ek]
      have o8 : Others a H H8 := fun b o nb ho => k8 b nb _ (o7 b o nb ho)
      have npa : p ≠ a := fun e => by rw [e, a8] at np; cases np
      refine ret _ p (ws.take kk) _ (o8.free npa np) upd_same (fun w hw => w5 w (List.mem_of_mem_take hw)) (by rw [List.length_take]; omega) hd.rest.rest.rest.rest (by rw [upd_ne (fun e => npa e.symm)]; exact a8) fun b o nb ho => same_upd np _ _ (o8 b o nb ho)
end
end Wa
namespace Wa
open PySem PySem.Spec PyProof.Rows L2
/-! a drawn list, apart as asked -/
abbrev nList : List Str := ["_law_draws_here", "_law_q", "_law_n", "_law_most", "_law_far_here", "_law_found", "_law_k", "_law_word_here", "_law_one"]
theorem scList : FnScope nList ["_law_draws_here", "_law_q", "_law_n", "_law_most", "_law_far_here"] (defScope sList) := ⟨rfl, rfl, rfl, by decide +kernel, rfl, by decide +kernel, by decide +kernel⟩
def spList : Sp := fun vs H Q _ => ∃ (a : Addr) (ds : List Int) (q n m : Nat) (fr : Int), vs = [.ref a, .int q, .int n, .int m, .int fr] ∧ QN q n ∧ m ≤ 200 ∧ H a = some (.lst (ds.map V.int)) ∧ Drawn ds ∧
  ∀ H' p ws ds', H p = none → H' p = some (.lst (vws ws)) → (∀ w ∈ ws, Wd q n w) → ws.length ≤ m → Drawn ds' → H' a = some (.lst (ds'.map V.int)) → Others a H H' → Q (.ref p) H'
section
variable {P : Program} {w : World} {K : PySem.W.Frag} {mg : Str → Option Value} {base : Heap}
theorem ok_list {f f1 f2 f3 : Addr} {fd fd1 fd2 fd3 : FuncData} {k : Nat} (D : Df K mg "_law_list" sList ["_law_draws_here", "_law_q", "_law_n", "_law_most", "_law_far_here"] f fd) (D1 : Df K mg "_law_pop" sPop ["_law_draws_here"] f1 fd1) (D2 : Df K mg "_law_word" sWord ["_law_number", "_law_q", "_law_n"] f2 fd2) (D3 : Df K mg "_law_far" sFar ["_law_one", "_law_other"] f3 fd3)
    (G1 : FnOk P w K mg base CX0 k f1 fd1 ["_law_draws_here"] spPop) (G2 : FnOk P w K mg base CX0 k f2 fd2 ["_law_number", "_law_q", "_law_n"] spWord) (G3 : FnOk P w K mg base CX0 k f3 fd3 ["_law_one", "_law_other"] spFar) (mr : mg "range" = none) :
    FnOk P w K mg base CX0 (k + 1) f fd ["_law_draws_here", "_law_q", "_law_n", "_law_most", "_law_far_here"] spList := by
  refine D.F.ok scList (fun vs H Q E h => ?_) (fun cdv A outer s H vs Q E hr h => ?_)
  · obtain ⟨a, ds, q, n, m, fr, rfl, _⟩ := h
    rfl
  · obtain ⟨a, ds, q, n, m, fr, rfl, hqn, hm, ha, hd, ret⟩ := h
    obtain ⟨hq3, hn8⟩ := hqn.le
    have hq1 : 1 ≤ q := by rcases hqn with ⟨h1, h2, h3⟩ | ⟨h1, h2, h3⟩ <;> omega
    refine ⟨_, pss_cons (ps_set (i := 5) scList.nd rfl (.inl rfl) (pe_lst pa_nil))
      (pss_cons (ps_for PassesOwn.never rfl (pi_range1 rfl mr (pa_cons (pe_op op_mod (pe_call G1 hr (by rfl) D1.g D1.F.kp D1.b .nil pass0 (pa_cons (pv 0) pa_nil)) (pe_op op_add (pv 3) pe_int)) pa_nil)) (pg_name (i := 6) scList.nd rfl (.inl rfl))
        (pss_cons (ps_set (i := 7) scList.nd rfl (.inr rfl) (pe_call G2 hr (by rfl) D2.g D2.F.kp D2.b .nil pass0 (pa_cons (pe_call G1 hr (by rfl) D1.g D1.F.kp D1.b .nil pass0 (pa_cons (pv 0) pa_nil)) (pa_cons (pv 1) (pa_cons (pv 2) pa_nil)))))
        (pss_one (ps_if (pt_cmpR (op_eqD hr.units) (pe_lc (own := [("_law_one", 8)]) (g := gName 8) (te := tVar 8) rfl scList.nd (pi_list (pv 5)) (blkOk_by (own := [("_law_one", 8)]) (N := nList) (sc := defScope sList) (by decide +kernel))
            (fun _ _ _ _ _ => pg_name (i := 8) scList.nd rfl (.inl rfl)) (fun _ _ _ _ _ => pts_one (pt_cmpR op_lt (pe_call G3 hr (by rfl) D3.g D3.F.kp D3.b .nil pass0 (pa_cons (pv 8) (pa_cons (pv 7) pa_nil))) (pv 4) (nomark _))) (fun _ _ _ _ _ => pv 8)) (pe_lst pa_nil) (nomark _))
          (pss_one (ps_expr (pe_bm PySem.F.plainAttrs_list PySem.F.slot_list_append PySem.F.type_list_append mt_append (pv 5) (pa_cons (pv 7) pa_nil)))) pss_nil))))
      (pss_one (ps_ret (pv 5)))), ?_⟩
    refine ⟨Nat.zero_le _, fun F0 nF => ?_⟩
    have naF : a ≠ F0 := ne_of_none ha nF
    have a0 : (upd H F0 (.lst [])) a = some (.lst (ds.map V.int)) := by rw [upd_ne naF]; exact ha
    refine ⟨_, rfl, a, ds, rfl, a0, fun H1 a1 k1 => ?_⟩
    obtain ⟨x0, x1⟩ := hd.pop
    have v0 := Int.emod_nonneg (popV ds) (show ((m : Int) + 1) ≠ 0 by omega)
    have v1 := Int.emod_lt_of_pos (popV ds) (show (0 : Int) < (m : Int) + 1 by omega)
    refine ⟨_, rfl, _, _, rfl, rfl, _, _, rfl, rfl, (show (0 : Int) < (m : Int) + 1 by omega), _, rfl, by omega, by omega, ?_⟩
    have et : ∃ c : Nat, (popV ds % ((m : Int) + 1)) = c ∧ c ≤ m := ⟨(popV ds % ((m : Int) + 1)).toNat, by omega, by omega⟩
    obtain ⟨c, ec, hc⟩ := et
    have f1 : H1 F0 = some (.lst (vws [])) := k1 F0 (fun z => naF z.symm) _ upd_same
    have o1 : Others a H H1 := fun b o nb ho => k1 b nb _ (same_upd nF _ _ ho)
    refine walk_f c (fun i σ H' => ∃ (y6 y7 : Option V) (ds : List Int) (ws : List (List Nat)), σ = [some (.ref a), some (.int q), some (.int n), some (.int m), some (.int fr), some (.ref F0), y6, y7, none] ∧ Others a H H' ∧ H' a = some (.lst (ds.map V.int)) ∧ Drawn ds ∧ H' F0 = some (.lst (vws ws)) ∧ (∀ w ∈ ws, Wd q n w) ∧ ws.length ≤ i)
      ⟨none, none, _, [], rfl, o1, a1, hd.rest, f1, fun w h => absurd h (by simp), Nat.le_refl _⟩ (fun i σ H' hi hp => ?_) (fun σ H' hp => ?_)
    · obtain ⟨y6, y7, ds, ws, rfl, i1, i2, i3, i4, i5, i6⟩ := hp
      refine ⟨?_, fun x H'' y => ?_⟩
      · show i < (popV _ % ((m : Int) + 1)).toNat
        rw [ec]
        omega
      obtain ⟨rfl, rfl⟩ := y
      refine ⟨_, rfl, a, ds, rfl, i2, fun H5 a5 k5 => ?_⟩
      refine ⟨_, rfl, _, rfl, _, q, n, rfl, i3.pop.1, hq1, hq3, by omega, fun u hu => ?_⟩
      have f5 := k5 F0 (fun z => naF z.symm) _ i4
      have o5 : Others a H H5 := fun b o nb ho => k5 b nb _ (i1 b o nb ho)
      refine ⟨_, rfl, F0, rfl, ⟨_, sq f5⟩, fun D0 nD => ?_⟩
      have nHD : H5 D0 = none := nD
      refine walk_n ws.length (fun j H6 => Same H5 H6 ∧ ∃ us, H6 D0 = some (.lst (vws us)) ∧ (∀ w ∈ us, Wd q n w) ∧ us.length ≤ j) ⟨same_upd nD, [], upd_same, fun w h => absurd h (by simp), Nat.le_refl _⟩
        (fun j H6 hj ⟨j1, us, j2, j3, j4⟩ => ⟨itl_go (sq (j1 _ _ f5)) (by rw [vws_len]; exact hj), fun x H7 y => ?_⟩) (fun H6 ⟨j1, us, j2, j3, j4⟩ => ⟨itl_stop (sq (j1 _ _ f5)) (vws_len _), ?_⟩)
      · obtain ⟨rfl, ex⟩ := itl_yld (sq (j1 _ _ f5)) y
        have gj : ws[j]? = some ws[j] := List.getElem?_eq_getElem hj
        have hwj : Wd q n ws[j] := i5 _ (List.getElem_mem hj)
        rw [vws_get, gj] at ex
        cases ex
        generalize ws[j] = v at gj hwj
        refine ⟨rfl, ?_⟩
        refine ⟨_, rfl, _, rfl, v, u, rfl, by rw [hwj.1, hu.1], by rw [hwj.1]; omega, fun H8 s8 => ?_⟩
        refine ⟨_, rfl, _, _, rfl, rfl, _, rfl, ite2 (fun e => ?_) (fun e => ?_)⟩
        · refine ⟨_, rfl, _, s8 _ _ j2, by rw [vws_len]; exact sz' (by omega), same_over (j1.trans s8) nHD, us ++ [v], by rw [upd_same, vws_snoc], fun w h => ?_, by rw [List.length_append]; show us.length + 1 ≤ _; omega⟩
          rcases List.mem_append.mp h with z | z
          · exact j3 w z
          · rw [List.mem_singleton.mp z]; exact hwj
        · exact ⟨j1.trans s8, us, s8 _ _ j2, j3, by omega⟩
      · refine ⟨Nat.zero_le _, fun z0 nz => ?_⟩
        have j5 := same_upd (o := .lst []) nz _ _ j2
        have sj : Same H5 (upd H6 z0 (.lst [])) := j1.trans (same_upd nz)
        have ez : (upd H6 z0 (.lst [])) z0 = some (.lst (vws [])) := upd_same
        refine ⟨dws us, dws [], .lst (sq j5) (dp_ws _), .lst (sq ez) .nil, sh_ws (figs_of hq3 j3), sh_ws (fun w hw => absurd hw (by simp)), _, rfl, ?_⟩
        rw [eqv_ws]
        generalize (upd H6 z0 (.lst [])) = H7 at j5 sj ez ⊢
        by_cases hf : us = []
        · refine iteTB (decide_eq_true hf) ?_
          refine ⟨.ref F0, rfl, .inl ⟨rfl, _, sq (sj _ _ f5)⟩, _, rfl, F0, _, _, rfl, rfl, sj _ _ f5, by rw [vws_len]; exact sz' (by omega), ?_⟩
          refine ⟨_, _, _, ws ++ [u], rfl, fun b o nb ho => by rw [upd_ne (ne_of_none ho nF)]; exact sj _ _ (o5 b o nb ho), by rw [upd_ne naF]; exact sj _ _ a5, i3.rest, by rw [upd_same, vws_snoc], fun w h => ?_, by rw [List.length_append]; show ws.length + 1 ≤ _; omega⟩
          rcases List.mem_append.mp h with z | z
          · exact i5 w z
          · rw [List.mem_singleton.mp z]; exact hu
        · refine iteFB (decide_eq_false hf) ?_
          exact ⟨_, _, _, ws, rfl, fun b o nb ho => sj _ _ (o5 b o nb ho), sj _ _ a5, i3.rest, sj _ _ f5, i5, by omega⟩
    · obtain ⟨y6, y7, ds, ws, rfl, i1, i2, i3, i4, i5, i6⟩ := hp
      refine ⟨?_, _, rfl, ret _ F0 ws ds nF i4 i5 (by omega) i3 i2 i1⟩
      show (popV _ % ((m : Int) + 1)).toNat ≤ c
      rw [ec]
      omega
end
end Wa
namespace Wa
open PySem PySem.Spec PyProof.Rows L2
/-! counts, added up -/
abbrev nLCts : List Str := ["_law_n", "_law_words", "_law_found", "_law_one", "_law_other", "_law_far_here"]
theorem scLCts : FnScope nLCts ["_law_n", "_law_words"] (defScope sLCounts) := ⟨rfl, rfl, rfl, by decide +kernel, rfl, by decide +kernel, by decide +kernel⟩
theorem rep_tally (n : Nat) (ws : List (List Nat)) : (List.replicate (((n : Int) + 1)).toNat [V.int 0]).flatten = (tally (n + 1) (gaps (ws.take 0) ws)).map V.int := by
  have e1 : ((n : Int) + 1).toNat = n + 1 := by omega
  rw [e1, List.take_zero]
  show _ = (tally (n + 1) []).map V.int
  rw [tally_nil, List.map_replicate]
  generalize n + 1 = m
  clear e1
  induction m with
  | zero => rfl
  | succ m ih => rw [List.replicate_succ, List.flatten_cons, ih, List.replicate_succ]; rfl
section
variable {P : Program} {w : World} {K : PySem.W.Frag} {mg : Str → Option Value} {base : Heap}
theorem ok_lcounts {f f1 : Addr} {fd fd1 : FuncData} {k : Nat} (D : Df K mg "_law_counts" sLCounts ["_law_n", "_law_words"] f fd) (D1 : Df K mg "_law_far" sFar ["_law_one", "_law_other"] f1 fd1)
    (G1 : FnOk P w K mg base CX0 k f1 fd1 ["_law_one", "_law_other"] spFar) : FnOk P w K mg base CX0 (k + 1) f fd ["_law_n", "_law_words"] (spCts K) := by
  refine D.F.ok scLCts (fun vs H Q E h => ?_) (fun cdv A outer s H vs Q E hr h => ?_)
  · obtain ⟨q, n, a, ws, rfl, _⟩ := h
    rfl
  · obtain ⟨q, n, a, ws, rfl, hq3, hn, hw, hl, ha, ret⟩ := h
    refine ⟨_, pss_cons (ps_set (i := 2) scLCts.nd rfl (.inl rfl) (pe_op op_rep (pe_lst (pa_cons pe_int pa_nil)) (pe_op op_add (pv 0) pe_int)))
      (pss_cons (ps_for PassesOwn.never rfl (pi_list (pv 1)) (pg_name (i := 3) scLCts.nd rfl (.inl rfl))
        (pss_one (ps_for PassesOwn.never rfl (pi_list (pv 1)) (pg_name (i := 4) scLCts.nd rfl (.inl rfl))
          (pss_cons (ps_set (i := 5) scLCts.nd rfl (.inl rfl) (pe_call G1 hr (by rfl) D1.g D1.F.kp D1.b .nil pass0 (pa_cons (pv 3) (pa_cons (pv 4) pa_nil))))
          (pss_one (ps_asg (pe_op op_add (pe_ix ix_list (pv 2) (pv 5) (fun _ _ => rfl)) pe_int) (pg_sub (pv 2) (pv 5) set_list)))))))
      (pss_one (ps_ret (pv 2)))), ?_⟩
    refine ⟨(show 1 ≤ sizeLine by decide), fun l nl => ?_⟩
    have sl : Same H (upd H l (.lst [.int 0])) := same_upd nl
    have el : (upd H l (.lst [.int 0])) l = some (.lst [.int 0]) := upd_same
    generalize (upd H l (.lst [.int 0])) = H2 at sl el ⊢
    refine ⟨_, rfl, _, _, rfl, rfl, l, _, _, rfl, rfl, el, by omega, by omega, ?_, fun t0 nt => ?_⟩
    · show 1 * _ ≤ _
      rw [Nat.one_mul]
      exact sz (by omega)
    rw [rep_tally n ws]
    have st : Same H (upd H2 t0 (.lst ((tally (n + 1) (gaps (ws.take 0) ws)).map V.int))) := sl.trans (same_upd nt)
    have nHt : H t0 = none := sl.free nt
    have et : (upd H2 t0 (.lst ((tally (n + 1) (gaps (ws.take 0) ws)).map V.int))) t0 = some (.lst ((tally (n + 1) (gaps (ws.take 0) ws)).map V.int)) := upd_same
    generalize (upd H2 t0 (.lst ((tally (n + 1) (gaps (ws.take 0) ws)).map V.int))) = H3 at st et ⊢
    refine ⟨_, rfl, a, rfl, ⟨_, st.seq ha⟩, ?_⟩
    refine walk_f ws.length (fun i σ H' => ∃ (y4 y5 y6 : Option V), σ = [some (.int n), some (.ref a), some (.ref t0), y4, y5, y6] ∧ Same H H' ∧ H' t0 = some (.lst ((tally (n + 1) (gaps (ws.take i) ws)).map V.int)))
      ⟨none, none, none, rfl, st, et⟩ (fun i σ H' hi hp => ?_) (fun σ H' hp => ?_)
    · obtain ⟨y4, y5, y6, rfl, j1, j3⟩ := hp
      refine ⟨itl_go (j1.seq ha) (by rw [vws_len]; exact hi), fun x H'' y => ?_⟩
      obtain ⟨rfl, ex⟩ := itl_yld (j1.seq ha) y
      have gi : ws[i]? = some ws[i] := List.getElem?_eq_getElem hi
      have hm : ws[i] ∈ ws := List.getElem_mem hi
      rw [vws_get, gi] at ex
      cases ex
      generalize ws[i] = u at gi hm
      refine ⟨_, rfl, a, rfl, ⟨_, j1.seq ha⟩, ?_⟩
      refine walk_f ws.length (fun j σ H' => ∃ (y5 y6 : Option V), σ = [some (.int n), some (.ref a), some (.ref t0), some (.str (wd u)), y5, y6] ∧ Same H H' ∧ H' t0 = some (.lst ((tally (n + 1) (gaps (ws.take i) ws ++ (ws.take j).map (dist u))).map V.int)))
        ⟨_, _, rfl, j1, by rw [List.take_zero, List.map_nil, List.append_nil]; exact j3⟩ (fun j σ H' hj hp => ?_) (fun σ H' hp => ?_)
      · obtain ⟨y5, y6, rfl, k1, k3⟩ := hp
        refine ⟨itl_go (k1.seq ha) (by rw [vws_len]; exact hj), fun x H'' y => ?_⟩
        obtain ⟨rfl, ex⟩ := itl_yld (k1.seq ha) y
        have gj : ws[j]? = some ws[j] := List.getElem?_eq_getElem hj
        have hm2 : ws[j] ∈ ws := List.getElem_mem hj
        rw [vws_get, gj] at ex
        cases ex
        generalize ws[j] = v at gj hm2
        have lu := (hw u hm).1
        have lv := (hw v hm2).1
        have hd : dist u v < n + 1 := by
          have := dist_le u v
          omega
        have ej : (ws.take (j + 1)).map (dist u) = (ws.take j).map (dist u) ++ [dist u v] := by
          rw [List.take_add_one, gj, List.map_append]
          rfl
        rw [ej, ← List.append_assoc]
        generalize gaps (ws.take i) ws ++ (ws.take j).map (dist u) = ds at k3
        have gt := tally_get (m := n + 1) ds hd
        refine ⟨_, rfl, _, rfl, u, v, rfl, by omega, by omega, fun H9 s9 => ?_⟩
        have k4 := s9 _ _ k3
        refine ⟨_, rfl, _, rfl, t0, _, _, _, rfl, rfl, sq k4, atI_nat (by rw [List.getElem?_map, gt]; rfl), _, 1, rfl, rfl, _, rfl, _, rfl, t0, _, (dist u v : Int), dist u v, rfl, rfl, k4, ?_, ?_⟩
        · rw [List.length_map, tally_len]
          exact ixN_nat hd
        · refine ⟨_, _, rfl, same_over (k1.trans s9) nHt, ?_⟩
          rw [upd_same, ← tally_snoc ds hd, List.map_set]
      · obtain ⟨y5, y6, rfl, k1, k3⟩ := hp
        rw [List.take_length] at k3
        refine ⟨itl_stop (k1.seq ha) (vws_len _), _, _, _, rfl, k1, ?_⟩
        rw [k3, List.take_add_one, gi]
        exact congrArg (fun z => some (HO.lst ((tally (n + 1) z).map V.int))) (gaps_snoc _ _ u).symm
    · obtain ⟨y4, y5, y6, rfl, j1, j3⟩ := hp
      rw [List.take_length] at j3
      exact ⟨itl_stop (j1.seq ha) (vws_len _), _, rfl, ret _ t0 j1 nHt j3⟩
end
end Wa
namespace Wa
open PySem PySem.Spec PyProof.Rows L2
/-! turned about -/
def turned (ws : List (List Nat)) (i : Nat) : List (List Nat) := if i = 1 then ws.reverse else ws
theorem turned_mem {ws : List (List Nat)} {i : Nat} : ∀ w, w ∈ turned ws i ↔ w ∈ ws := fun w => by
  unfold turned
  split
  · exact List.mem_reverse
  · exact Iff.rfl
theorem turned_len {ws : List (List Nat)} {i : Nat} : (turned ws i).length = ws.length := by
  unfold turned
  split
  · exact List.length_reverse
  · rfl
theorem vws_rev (ws : List (List Nat)) : (vws ws).reverse = vws ws.reverse := by
  unfold vws
  rw [List.map_reverse]
theorem vws_drop (ws : List (List Nat)) : (vws ws).dropLast = vws ws.dropLast := by
  unfold vws
  rw [List.map_dropLast]
theorem vws_tail (ws : List (List Nat)) : (vws ws).eraseIdx 0 = vws ws.tail := by
  cases ws <;> rfl
end Wa
namespace Wa
open PySem PySem.Spec PyProof.Rows L2
/-! the law -/
abbrev nLaw : List Str := ["_law_script", "_law_draws_here", "_law_q", "_law_n", "_law_words", "_law_due", "_law_handed", "_law_early", "_law_turn", "_law_found", "_law_one"]
theorem scLaw : FnScope nLaw ["_law_script"] (defScope sLaw) := ⟨rfl, rfl, rfl, by decide +kernel, rfl, by decide +kernel, by decide +kernel⟩
theorem cts_turned (n : Nat) (ws : List (List Nat)) (i : Nat) : cts n (turned ws i) = cts n ws := by
  unfold turned
  split
  · exact cts_rev n ws
  · rfl
theorem cts_len (n : Nat) (ws : List (List Nat)) : (cts n ws).length = n + 1 := tally_len _ _
section
variable {P : Program} {w : World} {K : PySem.W.Frag} {mg : Str → Option Value} {base : Heap}
theorem ok_law {f f1 f2 f3 f4 f5 f6 f7 f8 f9 f10 f11 f12 f13 : Addr} {fd fd1 fd2 fd3 fd4 fd5 fd6 fd7 fd8 fd9 fd10 fd11 fd12 fd13 : FuncData} (F : Fun K "law" "law" sLaw f fd)
    (D1 : Df K mg "marks" sMarks ["word"] f1 fd1) (D2 : Df K mg "gap" sGap ["one", "other"] f2 fd2) (D3 : Df K mg "counts" sCounts ["n", "words"] f3 fd3) (D4 : Df K mg "_law_draws" sDraws ["_law_script", "_law_turn", "_law_many_here"] f4 fd4)
    (D5 : Df K mg "_law_pop" sPop ["_law_draws_here"] f5 fd5) (D6 : Df K mg "_law_size" sSize ["_law_draws_here"] f6 fd6) (D7 : Df K mg "_law_word" sWord ["_law_number", "_law_q", "_law_n"] f7 fd7) (D8 : Df K mg "_law_far" sFar ["_law_one", "_law_other"] f8 fd8)
    (D9 : Df K mg "_law_list" sList ["_law_draws_here", "_law_q", "_law_n", "_law_most", "_law_far_here"] f9 fd9) (D10 : Df K mg "_law_whole" sWhole ["_law_found"] f10 fd10) (D11 : Df K mg "_law_all" sAll ["_law_q", "_law_n"] f11 fd11)
    (D12 : Df K mg "_law_many" sMany ["_law_draws_here", "_law_q", "_law_n"] f12 fd12) (D13 : Df K mg "_law_counts" sLCounts ["_law_n", "_law_words"] f13 fd13)
    {tk : Tok} (msg : mg "SIGNS" = some (.str ("012" : Str) tk)) (mr : mg "range" = none) (ml : mg "len" = none) (mt : mg "str" = none) (mi : mg "isinstance" = none) (mint : mg "int" = none) (mls : mg "list" = none) (mbo : mg "bool" = none) (mmax : mg "max" = none) :
    FnOk P w K mg base CX0 10 f fd ["_law_script"] (spLaw K []) := by
  have GC : FnOk P w K mg base CX0 9 f3 fd3 _ (spCts K) := ok_counts D3 D1 D2 (ok_marks (k := 7) D1 msg ml mint) (ok_gap (k := 7) D2) mmax
  have G4 : FnOk P w K mg base CX0 9 f4 fd4 _ (spDraws K) := ok_draws D4.F ml mr
  have G5 : FnOk P w K mg base CX0 9 f5 fd5 _ spPop := ok_pop D5.F
  have G6 : FnOk P w K mg base CX0 9 f6 fd6 _ spSize := ok_size D6.F D5.F D5.b D5.g
  have G8 : FnOk P w K mg base CX0 8 f8 fd8 _ spFar := ok_far D8 mr ml
  have G9 : FnOk P w K mg base CX0 9 f9 fd9 _ spList := ok_list D9 D5 D7 D8 (ok_pop D5.F) (ok_word D7 mr mt) G8 mr
  have GW : FnOk P w K mg base CX0 9 f10 fd10 _ spWhole := ok_whole D10 mi mint mbo
  have G12 : FnOk P w K mg base CX0 9 f12 fd12 _ spRows := ok_many D12 D11 D5 (ok_all (k := 7) D11.F mr mt) (ok_pop D5.F) mr ml
  have GL : FnOk P w K mg base CX0 9 f13 fd13 _ (spCts K) := ok_lcounts D13 D8 G8
  refine F.ok scLaw (fun vs H Q E h => ?_) (fun cdv A outer s H vs Q E hr h => ?_)
  · obtain ⟨a, ns, rfl, _⟩ := h
    rfl
  · obtain ⟨a, ns, rfl, ha, hT, ret⟩ := h
    refine ⟨_, pss_cons (ps_set (i := 1) scLaw.nd rfl (.inl rfl) (pe_call G4 hr (by rfl) D4.g D4.F.kp D4.b .nil pass0 (pa_cons (pv 0) (pa_cons (pe_int) (pa_cons (pe_int) (pa_nil))))))
      (pss_cons (ps_asg (pe_call G6 hr (by rfl) D6.g D6.F.kp D6.b .nil pass0 (pa_cons (pv 1) (pa_nil))) (pg_tup (by rfl) (pgs_cons (pg_name (i := 2) scLaw.nd rfl (.inl rfl)) (pgs_cons (pg_name (i := 3) scLaw.nd rfl (.inl rfl)) pgs_nil))))
      (pss_cons (ps_set (i := 4) scLaw.nd rfl (.inl rfl) (pe_call G9 hr (by rfl) D9.g D9.F.kp D9.b .nil pass0 (pa_cons (pv 1) (pa_cons (pv 2) (pa_cons (pv 3) (pa_cons (pe_int) (pa_cons (pe_int) (pa_nil))))))))
      (pss_cons (ps_if (pt_cmpR op_eq (pe_op op_mod (pe_call G5 hr (by rfl) D5.g D5.F.kp D5.b .nil pass0 (pa_cons (pv 1) (pa_nil))) pe_int) pe_int (nomark _)) (pss_one (ps_set (i := 4) scLaw.nd rfl (.inl rfl) (pe_call G12 hr (by rfl) D12.g D12.F.kp D12.b .nil pass0 (pa_cons (pv 1) (pa_cons (pv 2) (pa_cons (pv 3) (pa_nil))))))) pss_nil)
      (pss_cons (ps_set (i := 5) scLaw.nd rfl (.inl rfl) (pe_call GL hr (by rfl) D13.g D13.F.kp D13.b .nil pass0 (pa_cons (pv 3) (pa_cons (pv 4) (pa_nil)))))
      (pss_cons (ps_set (i := 6) scLaw.nd rfl (.inl rfl) (pe_callTy call_list_of (by rfl) mls (by decide +kernel) (pa_cons (pv 4) pa_nil)))
      (pss_cons (ps_set (i := 7) scLaw.nd rfl (.inl rfl) (pe_call GC hr (by rfl) D3.g D3.F.kp D3.b .nil pass0 (pa_cons (pv 3) (pa_cons (pv 6) (pa_nil)))))
      (pss_cons (ps_if (pt_cmpR (op_neD hr.units) (pv 6) (pv 4) (nomark _)) (pss_one (ps_ret pe_bl)) pss_nil)
      (pss_cons (ps_for PassesOwn.never rfl (pi_range1 rfl mr (pa_cons (pe_int) pa_nil)) (pg_name (i := 8) scLaw.nd rfl (.inl rfl)) (pss_cons (ps_set (i := 9) scLaw.nd rfl (.inl rfl) (pe_call GC hr (by rfl) D3.g D3.F.kp D3.b .nil pass0 (pa_cons (pv 3) (pa_cons (pv 6) (pa_nil)))))
      (pss_cons (ps_if (PW.pt (pw_or (pt_not (pt_val (pe_callB call_isi (by rfl) mi (by decide +kernel) (pa_cons (pv 9) (pa_cons (pe_bltn (v := .ty "list") (by rfl) mls (by decide +kernel) rfl) pa_nil))))) (pw_or (pt_cmpR (op_neD hr.units) (pv 9) (pv 5) (nomark _)) (pw_or1 (pt_cmpR (op_neD hr.units) ((pe_lc (own := [("_law_one", 10)]) (g := gName 10) (te := tVar 10) rfl scLaw.nd (pi_list (pv 9)) (blkOk_by (own := [("_law_one", 10)]) (N := nLaw) (sc := defScope sLaw) (by decide +kernel)) (fun _ _ _ _ _ => pg_name (i := 10) scLaw.nd rfl (.inl rfl)) (fun _ _ _ _ _ => pts_one (pt_not (pt_val (pe_call GW hr (by rfl) D10.g D10.F.kp D10.b .nil pass0 (pa_cons (pv 10) pa_nil))))) (fun _ _ _ _ _ => pv 10))) (pe_lst pa_nil) (nomark _)))))) (pss_one (ps_ret pe_bl)) pss_nil)
      (pss_cons (ps_expr (pe_bm PySem.F.plainAttrs_list PySem.F.slot_list_append PySem.F.type_list_append mt_append (pv 9) (pa_cons (pe_int) (pa_nil))))
      (pss_cons (ps_if (pt_cmpR (op_neD hr.units) (pv 6) (pe_ix ix_list (pe_lst (pa_cons (pv 4) (pa_cons (pe_revL (pv 4)) pa_nil))) (pv 8) (fun _ _ => rfl)) (nomark _)) (pss_one (ps_ret pe_bl)) pss_nil)
      (pss_one (ps_expr (pe_bm0 PySem.F.plainAttrs_list PySem.F.slot_list_reverse PySem.F.type_list_reverse mt_reverse (pv 6)))))))))
      (pss_cons (ps_if (pt_cmpR (op_neD hr.units) (pv 4) (pe_lst pa_nil) (nomark _)) (pss_one (ps_expr (pe_bm PySem.F.plainAttrs_list PySem.F.slot_list_pop PySem.F.type_list_pop mt_popAt (pv 6) (pa_cons (pe_int) (pa_nil))))) pss_nil)
      (pss_one (ps_ret (pe_and (pe_cmpR (op_eqD hr.units) (pe_call GC hr (by rfl) D3.g D3.F.kp D3.b .nil pass0 (pa_cons (pv 3) (pa_cons (pv 6) (pa_nil)))) (pe_call GL hr (by rfl) D13.g D13.F.kp D13.b .nil pass0 (pa_cons (pv 3) (pa_cons (pv 6) (pa_nil)))) (nomark _)) (pe_one (pe_cmpR (op_eqD hr.units) (pv 7) (pv 5) (nomark _))))))))))))))), ?_⟩
    refine ⟨_, rfl, a, ns, 2, 40, rfl, ha, by decide, by decide, fun H1 d0 ds s1 n1 l1 w1 e1 => ?_⟩
    refine ⟨_, rfl, d0, ds, rfl, e1, w1, fun H2 t q n hqn nt et ed oth => ?_⟩
    refine ⟨t, _, rfl, .inl (.inl et), rfl, _, _, rfl, _, _, rfl, rfl, ?_⟩
    refine ⟨_, rfl, _, rfl, _, rfl, d0, _, q, n, 24, 1, rfl, hqn, by decide, ed, w1.rest, fun H3 w0 ws ds3 nw ew hw hl hd3 ed3 oth3 => ?_⟩
    obtain ⟨hq3, hn8⟩ := hqn.le
    have hl : ws.length ≤ 256 := by omega
    refine ⟨_, rfl, d0, _, rfl, ed3, fun H4 a4 k4 => ?_⟩
    have nwd : w0 ≠ d0 := fun z => by rw [z, ed] at nw; cases nw
    have ew4 := k4 w0 nwd _ ew
    refine ⟨_, 16, rfl, rfl, (show (0 : Int) < 16 by decide), rfl, _, rfl, ite2 (fun e => ?_) (fun e => ?_)⟩
    · refine ⟨_, rfl, _, rfl, _, rfl, d0, _, q, n, rfl, hqn, a4, hd3.rest, fun H5 w0 ws ds5 nw5 ew hw hl hd5 ed5 oth5 => ?_⟩
      refine ⟨_, rfl, _, rfl, q, n, w0, ws, rfl, hq3, by omega, hw, by omega, sq ew, fun H6 u0 s6 nu eu => ?_⟩
      refine ⟨_, rfl, w0, _, rfl, .inl (sq (s6 _ _ ew)), fun h0 nh => ?_⟩
      have nwh : w0 ≠ h0 := ne_of_none (s6 _ _ ew) nh
      have nuh : u0 ≠ h0 := ne_of_none eu nh
      have ew7 : (upd H6 h0 (.lst (vws ws))) w0 = some (.lst (vws ws)) := same_upd nh _ _ (s6 _ _ ew)
      have eu7 : (upd H6 h0 (.lst (vws ws))) u0 = some (.lst ((cts n ws).map V.int)) := same_upd nh _ _ eu
      have eh7 : (upd H6 h0 (.lst (vws ws))) h0 = some (.lst (vws ws)) := upd_same
      generalize (upd H6 h0 (.lst (vws ws))) = H7 at ew7 eu7 eh7 ⊢
      refine ⟨_, rfl, _, rfl, q, n, h0, ws, rfl, hq3, by omega, hw, by omega, sq eh7, fun H8 y0 s8 ny ey => ?_⟩
      have nyh : y0 ≠ h0 := fun z => by rw [z, eh7] at ny; cases ny
      have fws := figs_of hq3 hw
      have fT : ∀ i, Figs (turned ws i) := fun i => figs_of hq3 fun w h => hw w ((turned_mem w).mp h)
      refine ⟨_, rfl, _, rfl, dws ws, dws ws, .lst (sq (s8 _ _ eh7)) (dp_ws _), .lst (sq (s8 _ _ ew7)) (dp_ws _), sh_ws fws, sh_ws fws, _, rfl, ?_⟩
      rw [eqv_ws, decide_eq_true rfl]
      refine iteF ?_
      refine ⟨2, rfl, by decide, by decide, ?_⟩
      refine walk_f 2 (fun i σ H' => ∃ (y8 y9 : Option V), σ = [some (.ref a), some (.ref d0), some (.int (q : Nat)), some (.int (n : Nat)), some (.ref w0), some (.ref u0), some (.ref h0), some (.ref y0), y8, y9, none] ∧ H' w0 = some (.lst (vws ws)) ∧ H' u0 = some (.lst ((cts n ws).map V.int)) ∧ H' y0 = some (.lst ((cts n ws).map V.int)) ∧ H' h0 = some (.lst (vws (turned ws i))))
        ⟨none, none, rfl, s8 _ _ ew7, s8 _ _ eu7, ey, s8 _ _ eh7⟩ (fun i σ H' hi hp => ?_) (fun σ H' hp => ?_)
      · obtain ⟨y8, y9, rfl, i1, i2, i3, i4⟩ := hp
        refine ⟨hi, fun x H'' y => ?_⟩
        obtain ⟨rfl, rfl⟩ := y
        refine ⟨_, rfl, _, rfl, q, n, h0, turned ws i, rfl, hq3, by omega, fun w h => hw w ((turned_mem w).mp h), by rw [turned_len]; omega, sq i4, fun H9 p s9 np ep => ?_⟩
        rw [cts_turned] at ep
        refine ⟨_, rfl, .ref p, .ty "list", .type "list", .type "list", true, rfl, .ty _, .base (.lst ep), kit_ty (by decide +kernel), true, rfl, iteF ?_⟩
        refine ⟨_, rfl, _, rfl, dns (cts n ws), dns (cts n ws), .lst (sq ep) (dp_ns _), .lst (sq (s9 _ _ i2)) (dp_ns _), sh_ns _, sh_ns _, _, rfl, ?_⟩
        rw [eqv_ns, decide_eq_true rfl]
        refine iteF ?_
        refine ⟨_, rfl, p, rfl, ⟨_, sq ep⟩, fun D0 nD => ?_⟩
        have lc : ((cts n ws).map V.int).length = n + 1 := by rw [List.length_map, cts_len]
        refine walk_n (n + 1) (fun j Hj => Same H9 Hj ∧ Hj D0 = some (.lst (vws []))) ⟨same_upd nD, upd_same⟩ (fun j Hj hj ⟨j1, j2⟩ => ⟨itl_go (sq (j1 _ _ ep)) (by rw [lc]; exact hj), fun x Hk y => ?_⟩) (fun Hj ⟨j1, j2⟩ => ⟨itl_stop (sq (j1 _ _ ep)) lc, ?_⟩)
        · obtain ⟨rfl, ex⟩ := itl_yld (sq (j1 _ _ ep)) y
          rw [List.getElem?_map, List.getElem?_eq_getElem (by rw [cts_len]; exact hj)] at ex
          cases ex
          exact ⟨rfl, _, rfl, _, rfl, true, rfl, iteF ⟨j1, j2⟩⟩
        · refine ⟨Nat.zero_le _, fun z0 nz => ?_⟩
          have j3 := same_upd (o := .lst []) nz _ _ j2
          have s10 : Same H9 (upd Hj z0 (.lst [])) := j1.trans (same_upd nz)
          have ez : (upd Hj z0 (.lst [])) z0 = some (.lst (vws [])) := upd_same
          generalize (upd Hj z0 (.lst [])) = Ha at j3 s10 ez ⊢
          refine ⟨dws [], dws [], .lst (sq j3) (dp_ws []), .lst (sq ez) (dp_ws []), sh_ws (fun w hw => absurd hw (by simp)), sh_ws (fun w hw => absurd hw (by simp)), _, rfl, ?_⟩
          rw [eqv_ws, decide_eq_true rfl]
          refine iteF ?_
          have epa := s10 _ _ ep
          have sA := s9.trans s10
          refine ⟨.ref p, rfl, .inl ⟨rfl, _, sq epa⟩, p, _, _, rfl, rfl, epa, by rw [lc]; exact sz' (by omega), ?_⟩
          have sB : Same H'' (upd Ha p (.lst ((cts n ws).map V.int ++ [.int 0]))) := same_over sA np
          generalize (upd Ha p (.lst ((cts n ws).map V.int ++ [.int 0]))) = Hb at sB ⊢
          refine ⟨_, rfl, _, rfl, _, rfl, w0, _, rfl, sq (sB _ _ i1), fun r nr => ?_⟩
          rw [vws_rev]
          refine ⟨(show 2 ≤ sizeLine by decide), fun l nl => ?_⟩
          have sC : Same H'' (upd (upd Hb r (.lst (vws ws.reverse))) l (.lst [.ref w0, .ref r])) := (sB.trans (same_upd nr)).trans (same_upd nl)
          have er : (upd (upd Hb r (.lst (vws ws.reverse))) l (.lst [.ref w0, .ref r])) r = some (.lst (vws ws.reverse)) := same_upd nl _ _ upd_same
          have el : (upd (upd Hb r (.lst (vws ws.reverse))) l (.lst [.ref w0, .ref r])) l = some (.lst [.ref w0, .ref r]) := upd_same
          generalize (upd (upd Hb r (.lst (vws ws.reverse))) l (.lst [.ref w0, .ref r])) = Hc at sC er el ⊢
          obtain ⟨z, hz, ez⟩ : ∃ z, atI [V.ref w0, V.ref r] (0 + (i : Int)) = some (.ref z) ∧ Hc z = some (.lst (vws (turned ws i))) := by
            rcases (show i = 0 ∨ i = 1 by omega) with e | e
            · rw [e]
              exact ⟨w0, rfl, sC _ _ i1⟩
            · rw [e]
              exact ⟨r, rfl, er⟩
          refine ⟨_, rfl, l, _, _, _, rfl, rfl, sq el, hz, ?_⟩
          refine ⟨dws (turned ws i), dws (turned ws i), .lst (sq (sC _ _ i4)) (dp_ws _), .lst (sq ez) (dp_ws _), sh_ws (fT i), sh_ws (fT i), _, rfl, ?_⟩
          rw [eqv_ws, decide_eq_true rfl]
          refine iteF ?_
          refine ⟨.ref h0, rfl, .inl ⟨rfl, _, sq (sC _ _ i4)⟩, h0, _, rfl, rfl, sC _ _ i4, ?_⟩
          refine ⟨_, _, rfl, by rw [upd_ne nwh]; exact sC _ _ i1, by rw [upd_ne nuh]; exact sC _ _ i2, by rw [upd_ne nyh]; exact sC _ _ i3, ?_⟩
          rw [upd_same, vws_rev]
          rcases (show i = 0 ∨ i = 1 by omega) with e | e
          · rw [e]
            rfl
          · rw [e]
            show some (HO.lst (vws ws.reverse.reverse)) = _
            rw [List.reverse_reverse]
            rfl
      · obtain ⟨y8, y9, rfl, i1, i2, i3, i4⟩ := hp
        refine ⟨Nat.le_refl 2, ?_⟩
        have i4' : H' h0 = some (.lst (vws ws)) := i4
        refine ⟨_, rfl, Nat.zero_le _, fun z0 nz => ?_⟩
        have g1 : Same H' (upd H' z0 (.lst [])) := same_upd nz
        have ez7 : (upd H' z0 (.lst [])) z0 = some (.lst (vws [])) := upd_same
        generalize (upd H' z0 (.lst [])) = Ha at g1 ez7 ⊢
        refine ⟨dws ws, dws [], .lst (sq (g1 _ _ i1)) (dp_ws _), .lst (sq ez7) .nil, sh_ws fws, sh_ws (fun w hw => absurd hw (by simp)), ?_⟩
        rw [eqv_ws]
        by_cases hne : ws = []
        · refine ⟨_, rfl, iteFB (by rw [decide_eq_true hne]; rfl) ?_⟩
          have hus := hw
          have hlu : ws.length ≤ 10000 := by omega
          have eh := g1 _ _ i4'
          have ey8 := g1 _ _ i3
          have eu8 := g1 _ _ i2
          generalize Ha = Hb at eh ey8 eu8
          refine ⟨_, rfl, _, rfl, q, n, h0, ws, rfl, hq3, by omega, hus, hlu, sq eh, fun H9 p9 s9 np9 ep9 => ?_⟩
          refine ⟨_, rfl, _, rfl, q, n, h0, ws, rfl, hq3, by omega, hus, hlu, sq (s9 _ _ eh), fun H10 p10 s10 np10 ep10 => ?_⟩
          refine ⟨dns (cts n ws), dns (cts n ws), .lst (sq (s10 _ _ ep9)) (dp_ns _), .lst (sq ep10) (dp_ns _), sh_ns _, sh_ns _, ?_⟩
          rw [eqv_ns, decide_eq_true rfl]
          refine ⟨true, rfl, iteT ?_⟩
          refine ⟨_, rfl, _, rfl, dns (cts n ws), dns (cts n ws), .lst (sq (s10 _ _ (s9 _ _ ey8))) (dp_ns _), .lst (sq (s10 _ _ (s9 _ _ eu8))) (dp_ns _), sh_ns _, sh_ns _, ?_⟩
          rw [eqv_ns, decide_eq_true rfl]
          exact ret _
        · refine ⟨_, rfl, iteTB (by rw [decide_eq_false hne]; rfl) ?_⟩
          have hpos : 0 < ws.length := List.length_pos_iff.mpr hne
          refine ⟨_, rfl, .inl ⟨rfl, _, sq (g1 _ _ i4')⟩, h0, _, 0, 0, .str (wd ws[0]), rfl, rfl, g1 _ _ i4', by decide, by decide, ?_, ?_, ?_⟩
          · rw [vws_len]
            exact seqIndex_of (by decide) (by omega)
          · rw [vws_get, List.getElem?_eq_getElem hpos]
            rfl
          rw [vws_tail]
          have hus : ∀ w ∈ ws.tail, Wd q n w := fun w h => hw w (List.mem_of_mem_tail h)
          have hlu : ws.tail.length ≤ 10000 := by rw [List.length_tail]; omega
          have eh : (upd Ha h0 (.lst (vws ws.tail))) h0 = some (.lst (vws ws.tail)) := upd_same
          have ey8 : (upd Ha h0 (.lst (vws ws.tail))) y0 = some (.lst ((cts n ws).map V.int)) := by rw [upd_ne nyh]; exact g1 _ _ i3
          have eu8 : (upd Ha h0 (.lst (vws ws.tail))) u0 = some (.lst ((cts n ws).map V.int)) := by rw [upd_ne nuh]; exact g1 _ _ i2
          generalize (upd Ha h0 (.lst (vws ws.tail))) = Hb at eh ey8 eu8 ⊢
          refine ⟨_, rfl, _, rfl, q, n, h0, ws.tail, rfl, hq3, by omega, hus, hlu, sq eh, fun H9 p9 s9 np9 ep9 => ?_⟩
          refine ⟨_, rfl, _, rfl, q, n, h0, ws.tail, rfl, hq3, by omega, hus, hlu, sq (s9 _ _ eh), fun H10 p10 s10 np10 ep10 => ?_⟩
          refine ⟨dns (cts n ws.tail), dns (cts n ws.tail), .lst (sq (s10 _ _ ep9)) (dp_ns _), .lst (sq ep10) (dp_ns _), sh_ns _, sh_ns _, ?_⟩
          rw [eqv_ns, decide_eq_true rfl]
          refine ⟨true, rfl, iteT ?_⟩
          refine ⟨_, rfl, _, rfl, dns (cts n ws), dns (cts n ws), .lst (sq (s10 _ _ (s9 _ _ ey8))) (dp_ns _), .lst (sq (s10 _ _ (s9 _ _ eu8))) (dp_ns _), sh_ns _, sh_ns _, ?_⟩
          rw [eqv_ns, decide_eq_true rfl]
          exact ret _
    · have ew := ew4
      generalize H4 = H5 at ew
      refine ⟨_, rfl, _, rfl, q, n, w0, ws, rfl, hq3, by omega, hw, by omega, sq ew, fun H6 u0 s6 nu eu => ?_⟩
      refine ⟨_, rfl, w0, _, rfl, .inl (sq (s6 _ _ ew)), fun h0 nh => ?_⟩
      have nwh : w0 ≠ h0 := ne_of_none (s6 _ _ ew) nh
      have nuh : u0 ≠ h0 := ne_of_none eu nh
      have ew7 : (upd H6 h0 (.lst (vws ws))) w0 = some (.lst (vws ws)) := same_upd nh _ _ (s6 _ _ ew)
      have eu7 : (upd H6 h0 (.lst (vws ws))) u0 = some (.lst ((cts n ws).map V.int)) := same_upd nh _ _ eu
      have eh7 : (upd H6 h0 (.lst (vws ws))) h0 = some (.lst (vws ws)) := upd_same
      generalize (upd H6 h0 (.lst (vws ws))) = H7 at ew7 eu7 eh7 ⊢
      refine ⟨_, rfl, _, rfl, q, n, h0, ws, rfl, hq3, by omega, hw, by omega, sq eh7, fun H8 y0 s8 ny ey => ?_⟩
      have nyh : y0 ≠ h0 := fun z => by rw [z, eh7] at ny; cases ny
      have fws := figs_of hq3 hw
      have fT : ∀ i, Figs (turned ws i) := fun i => figs_of hq3 fun w h => hw w ((turned_mem w).mp h)
      refine ⟨_, rfl, _, rfl, dws ws, dws ws, .lst (sq (s8 _ _ eh7)) (dp_ws _), .lst (sq (s8 _ _ ew7)) (dp_ws _), sh_ws fws, sh_ws fws, _, rfl, ?_⟩
      rw [eqv_ws, decide_eq_true rfl]
      refine iteF ?_
      refine ⟨2, rfl, by decide, by decide, ?_⟩
      refine walk_f 2 (fun i σ H' => ∃ (y8 y9 : Option V), σ = [some (.ref a), some (.ref d0), some (.int (q : Nat)), some (.int (n : Nat)), some (.ref w0), some (.ref u0), some (.ref h0), some (.ref y0), y8, y9, none] ∧ H' w0 = some (.lst (vws ws)) ∧ H' u0 = some (.lst ((cts n ws).map V.int)) ∧ H' y0 = some (.lst ((cts n ws).map V.int)) ∧ H' h0 = some (.lst (vws (turned ws i))))
        ⟨none, none, rfl, s8 _ _ ew7, s8 _ _ eu7, ey, s8 _ _ eh7⟩ (fun i σ H' hi hp => ?_) (fun σ H' hp => ?_)
      · obtain ⟨y8, y9, rfl, i1, i2, i3, i4⟩ := hp
        refine ⟨hi, fun x H'' y => ?_⟩
        obtain ⟨rfl, rfl⟩ := y
        refine ⟨_, rfl, _, rfl, q, n, h0, turned ws i, rfl, hq3, by omega, fun w h => hw w ((turned_mem w).mp h), by rw [turned_len]; omega, sq i4, fun H9 p s9 np ep => ?_⟩
        rw [cts_turned] at ep
        refine ⟨_, rfl, .ref p, .ty "list", .type "list", .type "list", true, rfl, .ty _, .base (.lst ep), kit_ty (by decide +kernel), true, rfl, iteF ?_⟩
        refine ⟨_, rfl, _, rfl, dns (cts n ws), dns (cts n ws), .lst (sq ep) (dp_ns _), .lst (sq (s9 _ _ i2)) (dp_ns _), sh_ns _, sh_ns _, _, rfl, ?_⟩
        rw [eqv_ns, decide_eq_true rfl]
        refine iteF ?_
        refine ⟨_, rfl, p, rfl, ⟨_, sq ep⟩, fun D0 nD => ?_⟩
        have lc : ((cts n ws).map V.int).length = n + 1 := by rw [List.length_map, cts_len]
        refine walk_n (n + 1) (fun j Hj => Same H9 Hj ∧ Hj D0 = some (.lst (vws []))) ⟨same_upd nD, upd_same⟩ (fun j Hj hj ⟨j1, j2⟩ => ⟨itl_go (sq (j1 _ _ ep)) (by rw [lc]; exact hj), fun x Hk y => ?_⟩) (fun Hj ⟨j1, j2⟩ => ⟨itl_stop (sq (j1 _ _ ep)) lc, ?_⟩)
        · obtain ⟨rfl, ex⟩ := itl_yld (sq (j1 _ _ ep)) y
          rw [List.getElem?_map, List.getElem?_eq_getElem (by rw [cts_len]; exact hj)] at ex
          cases ex
          exact ⟨rfl, _, rfl, _, rfl, true, rfl, iteF ⟨j1, j2⟩⟩
        · refine ⟨Nat.zero_le _, fun z0 nz => ?_⟩
          have j3 := same_upd (o := .lst []) nz _ _ j2
          have s10 : Same H9 (upd Hj z0 (.lst [])) := j1.trans (same_upd nz)
          have ez : (upd Hj z0 (.lst [])) z0 = some (.lst (vws [])) := upd_same
          generalize (upd Hj z0 (.lst [])) = Ha at j3 s10 ez ⊢
          refine ⟨dws [], dws [], .lst (sq j3) (dp_ws []), .lst (sq ez) (dp_ws []), sh_ws (fun w hw => absurd hw (by simp)), sh_ws (fun w hw => absurd hw (by simp)), _, rfl, ?_⟩
          rw [eqv_ws, decide_eq_true rfl]
          refine iteF ?_
          have epa := s10 _ _ ep
          have sA := s9.trans s10
          refine ⟨.ref p, rfl, .inl ⟨rfl, _, sq epa⟩, p, _, _, rfl, rfl, epa, by rw [lc]; exact sz' (by omega), ?_⟩
          have sB : Same H'' (upd Ha p (.lst ((cts n ws).map V.int ++ [.int 0]))) := same_over sA np
          generalize (upd Ha p (.lst ((cts n ws).map V.int ++ [.int 0]))) = Hb at sB ⊢
          refine ⟨_, rfl, _, rfl, _, rfl, w0, _, rfl, sq (sB _ _ i1), fun r nr => ?_⟩
          rw [vws_rev]
          refine ⟨(show 2 ≤ sizeLine by decide), fun l nl => ?_⟩
          have sC : Same H'' (upd (upd Hb r (.lst (vws ws.reverse))) l (.lst [.ref w0, .ref r])) := (sB.trans (same_upd nr)).trans (same_upd nl)
          have er : (upd (upd Hb r (.lst (vws ws.reverse))) l (.lst [.ref w0, .ref r])) r = some (.lst (vws ws.reverse)) := same_upd nl _ _ upd_same
          have el : (upd (upd Hb r (.lst (vws ws.reverse))) l (.lst [.ref w0, .ref r])) l = some (.lst [.ref w0, .ref r]) := upd_same
          generalize (upd (upd Hb r (.lst (vws ws.reverse))) l (.lst [.ref w0, .ref r])) = Hc at sC er el ⊢
          obtain ⟨z, hz, ez⟩ : ∃ z, atI [V.ref w0, V.ref r] (0 + (i : Int)) = some (.ref z) ∧ Hc z = some (.lst (vws (turned ws i))) := by
            rcases (show i = 0 ∨ i = 1 by omega) with e | e
            · rw [e]
              exact ⟨w0, rfl, sC _ _ i1⟩
            · rw [e]
              exact ⟨r, rfl, er⟩
          refine ⟨_, rfl, l, _, _, _, rfl, rfl, sq el, hz, ?_⟩
          refine ⟨dws (turned ws i), dws (turned ws i), .lst (sq (sC _ _ i4)) (dp_ws _), .lst (sq ez) (dp_ws _), sh_ws (fT i), sh_ws (fT i), _, rfl, ?_⟩
          rw [eqv_ws, decide_eq_true rfl]
          refine iteF ?_
          refine ⟨.ref h0, rfl, .inl ⟨rfl, _, sq (sC _ _ i4)⟩, h0, _, rfl, rfl, sC _ _ i4, ?_⟩
          refine ⟨_, _, rfl, by rw [upd_ne nwh]; exact sC _ _ i1, by rw [upd_ne nuh]; exact sC _ _ i2, by rw [upd_ne nyh]; exact sC _ _ i3, ?_⟩
          rw [upd_same, vws_rev]
          rcases (show i = 0 ∨ i = 1 by omega) with e | e
          · rw [e]
            rfl
          · rw [e]
            show some (HO.lst (vws ws.reverse.reverse)) = _
            rw [List.reverse_reverse]
            rfl
      · obtain ⟨y8, y9, rfl, i1, i2, i3, i4⟩ := hp
        refine ⟨Nat.le_refl 2, ?_⟩
        have i4' : H' h0 = some (.lst (vws ws)) := i4
        refine ⟨_, rfl, Nat.zero_le _, fun z0 nz => ?_⟩
        have g1 : Same H' (upd H' z0 (.lst [])) := same_upd nz
        have ez7 : (upd H' z0 (.lst [])) z0 = some (.lst (vws [])) := upd_same
        generalize (upd H' z0 (.lst [])) = Ha at g1 ez7 ⊢
        refine ⟨dws ws, dws [], .lst (sq (g1 _ _ i1)) (dp_ws _), .lst (sq ez7) .nil, sh_ws fws, sh_ws (fun w hw => absurd hw (by simp)), ?_⟩
        rw [eqv_ws]
        by_cases hne : ws = []
        · refine ⟨_, rfl, iteFB (by rw [decide_eq_true hne]; rfl) ?_⟩
          have hus := hw
          have hlu : ws.length ≤ 10000 := by omega
          have eh := g1 _ _ i4'
          have ey8 := g1 _ _ i3
          have eu8 := g1 _ _ i2
          generalize Ha = Hb at eh ey8 eu8
          refine ⟨_, rfl, _, rfl, q, n, h0, ws, rfl, hq3, by omega, hus, hlu, sq eh, fun H9 p9 s9 np9 ep9 => ?_⟩
          refine ⟨_, rfl, _, rfl, q, n, h0, ws, rfl, hq3, by omega, hus, hlu, sq (s9 _ _ eh), fun H10 p10 s10 np10 ep10 => ?_⟩
          refine ⟨dns (cts n ws), dns (cts n ws), .lst (sq (s10 _ _ ep9)) (dp_ns _), .lst (sq ep10) (dp_ns _), sh_ns _, sh_ns _, ?_⟩
          rw [eqv_ns, decide_eq_true rfl]
          refine ⟨true, rfl, iteT ?_⟩
          refine ⟨_, rfl, _, rfl, dns (cts n ws), dns (cts n ws), .lst (sq (s10 _ _ (s9 _ _ ey8))) (dp_ns _), .lst (sq (s10 _ _ (s9 _ _ eu8))) (dp_ns _), sh_ns _, sh_ns _, ?_⟩
          rw [eqv_ns, decide_eq_true rfl]
          exact ret _
        · refine ⟨_, rfl, iteTB (by rw [decide_eq_false hne]; rfl) ?_⟩
          have hpos : 0 < ws.length := List.length_pos_iff.mpr hne
          refine ⟨_, rfl, .inl ⟨rfl, _, sq (g1 _ _ i4')⟩, h0, _, 0, 0, .str (wd ws[0]), rfl, rfl, g1 _ _ i4', by decide, by decide, ?_, ?_, ?_⟩
          · rw [vws_len]
            exact seqIndex_of (by decide) (by omega)
          · rw [vws_get, List.getElem?_eq_getElem hpos]
            rfl
          rw [vws_tail]
          have hus : ∀ w ∈ ws.tail, Wd q n w := fun w h => hw w (List.mem_of_mem_tail h)
          have hlu : ws.tail.length ≤ 10000 := by rw [List.length_tail]; omega
          have eh : (upd Ha h0 (.lst (vws ws.tail))) h0 = some (.lst (vws ws.tail)) := upd_same
          have ey8 : (upd Ha h0 (.lst (vws ws.tail))) y0 = some (.lst ((cts n ws).map V.int)) := by rw [upd_ne nyh]; exact g1 _ _ i3
          have eu8 : (upd Ha h0 (.lst (vws ws.tail))) u0 = some (.lst ((cts n ws).map V.int)) := by rw [upd_ne nuh]; exact g1 _ _ i2
          generalize (upd Ha h0 (.lst (vws ws.tail))) = Hb at eh ey8 eu8 ⊢
          refine ⟨_, rfl, _, rfl, q, n, h0, ws.tail, rfl, hq3, by omega, hus, hlu, sq eh, fun H9 p9 s9 np9 ep9 => ?_⟩
          refine ⟨_, rfl, _, rfl, q, n, h0, ws.tail, rfl, hq3, by omega, hus, hlu, sq (s9 _ _ eh), fun H10 p10 s10 np10 ep10 => ?_⟩
          refine ⟨dns (cts n ws.tail), dns (cts n ws.tail), .lst (sq (s10 _ _ ep9)) (dp_ns _), .lst (sq ep10) (dp_ns _), sh_ns _, sh_ns _, ?_⟩
          rw [eqv_ns, decide_eq_true rfl]
          refine ⟨true, rfl, iteT ?_⟩
          refine ⟨_, rfl, _, rfl, dns (cts n ws), dns (cts n ws), .lst (sq (s10 _ _ (s9 _ _ ey8))) (dp_ns _), .lst (sq (s10 _ _ (s9 _ _ eu8))) (dp_ns _), sh_ns _, sh_ns _, ?_⟩
          rw [eqv_ns, decide_eq_true rfl]
          exact ret _
end
end Wa
namespace Wa
open PySem PySem.Spec PyProof.Rows L2
theorem all_mk {l : PySem.W.OpenLaw} {w : World} {K : PySem.W.Frag} {h : Heap} {mg : Str → Option Value} {fa f1 f2 f3 f4 f5 f6 f7 f8 f9 f10 f11 f12 f13 f14 : Addr} (X : K.In h) (G : h.Ns mainGlobals mg) (hfa : mg "law" = some (.ref fa)) (T : TabsOf PySem.Challenge.pw_wordsapart_k04_counts_of_distances mg h)
    {od1 an1 od2 an2 od3 an3 od4 an4 od5 an5 od6 an6 od7 an7 od8 an8 od9 an9 od10 an10 od11 an11 od12 an12 od13 an13 od14 an14 : Option Addr} {sl1 sl2 sl3 sl4 sl5 sl6 sl7 sl8 sl9 sl10 sl11 sl12 sl13 sl14 : Array (Option Value)} {oc1 kV1 dc1 pm1 cd1 ct1 oc2 kV2 dc2 pm2 cd2 ct2 oc3 kV3 dc3 pm3 cd3 ct3 oc4 kV4 dc4 pm4 cd4 ct4 oc5 kV5 dc5 pm5 cd5 ct5 oc6 kV6 dc6 pm6 cd6 ct6 oc7 kV7 dc7 pm7 cd7 ct7 oc8 kV8 dc8 pm8 cd8 ct8 oc9 kV9 dc9 pm9 cd9 ct9 oc10 kV10 dc10 pm10 cd10 ct10 oc11 kV11 dc11 pm11 cd11 ct11 oc12 kV12 dc12 pm12 cd12 ct12 oc13 kV13 dc13 pm13 cd13 ct13 oc14 kV14 dc14 pm14 cd14 ct14 : Value}
    {tk0 : Tok}
    (a1 : PySem.W.nsIn K mainGlobals "marks" = some (some (.ref f1))) (l1 : K.lookup f1 = some ⟨oc1, od1, .func (PySem.W.fnOf "marks" "marks" (defArgs sMarks) (defBody sMarks) (defScope sMarks) .none kV1 dc1 pm1 an1 cd1 ct1), sl1⟩) (q1 : PySem.W.codeIn K cd1 "marks" = true) (k1 : PySem.W.keepIn K (.ref f1) = true)
    (a2 : PySem.W.nsIn K mainGlobals "gap" = some (some (.ref f2))) (l2 : K.lookup f2 = some ⟨oc2, od2, .func (PySem.W.fnOf "gap" "gap" (defArgs sGap) (defBody sGap) (defScope sGap) .none kV2 dc2 pm2 an2 cd2 ct2), sl2⟩) (q2 : PySem.W.codeIn K cd2 "gap" = true) (k2 : PySem.W.keepIn K (.ref f2) = true)
    (a3 : PySem.W.nsIn K mainGlobals "counts" = some (some (.ref f3))) (l3 : K.lookup f3 = some ⟨oc3, od3, .func (PySem.W.fnOf "counts" "counts" (defArgs sCounts) (defBody sCounts) (defScope sCounts) .none kV3 dc3 pm3 an3 cd3 ct3), sl3⟩) (q3 : PySem.W.codeIn K cd3 "counts" = true) (k3 : PySem.W.keepIn K (.ref f3) = true)
    (a4 : PySem.W.nsIn K mainGlobals "_law_draws" = some (some (.ref f4))) (l4 : K.lookup f4 = some ⟨oc4, od4, .func (PySem.W.fnOf "_law_draws" "_law_draws" (defArgs sDraws) (defBody sDraws) (defScope sDraws) .none kV4 dc4 pm4 an4 cd4 ct4), sl4⟩) (q4 : PySem.W.codeIn K cd4 "_law_draws" = true) (k4 : PySem.W.keepIn K (.ref f4) = true)
    (a5 : PySem.W.nsIn K mainGlobals "_law_pop" = some (some (.ref f5))) (l5 : K.lookup f5 = some ⟨oc5, od5, .func (PySem.W.fnOf "_law_pop" "_law_pop" (defArgs sPop) (defBody sPop) (defScope sPop) .none kV5 dc5 pm5 an5 cd5 ct5), sl5⟩) (q5 : PySem.W.codeIn K cd5 "_law_pop" = true) (k5 : PySem.W.keepIn K (.ref f5) = true)
    (a6 : PySem.W.nsIn K mainGlobals "_law_size" = some (some (.ref f6))) (l6 : K.lookup f6 = some ⟨oc6, od6, .func (PySem.W.fnOf "_law_size" "_law_size" (defArgs sSize) (defBody sSize) (defScope sSize) .none kV6 dc6 pm6 an6 cd6 ct6), sl6⟩) (q6 : PySem.W.codeIn K cd6 "_law_size" = true) (k6 : PySem.W.keepIn K (.ref f6) = true)
    (a7 : PySem.W.nsIn K mainGlobals "_law_word" = some (some (.ref f7))) (l7 : K.lookup f7 = some ⟨oc7, od7, .func (PySem.W.fnOf "_law_word" "_law_word" (defArgs sWord) (defBody sWord) (defScope sWord) .none kV7 dc7 pm7 an7 cd7 ct7), sl7⟩) (q7 : PySem.W.codeIn K cd7 "_law_word" = true) (k7 : PySem.W.keepIn K (.ref f7) = true)
    (a8 : PySem.W.nsIn K mainGlobals "_law_far" = some (some (.ref f8))) (l8 : K.lookup f8 = some ⟨oc8, od8, .func (PySem.W.fnOf "_law_far" "_law_far" (defArgs sFar) (defBody sFar) (defScope sFar) .none kV8 dc8 pm8 an8 cd8 ct8), sl8⟩) (q8 : PySem.W.codeIn K cd8 "_law_far" = true) (k8 : PySem.W.keepIn K (.ref f8) = true)
    (a9 : PySem.W.nsIn K mainGlobals "_law_list" = some (some (.ref f9))) (l9 : K.lookup f9 = some ⟨oc9, od9, .func (PySem.W.fnOf "_law_list" "_law_list" (defArgs sList) (defBody sList) (defScope sList) .none kV9 dc9 pm9 an9 cd9 ct9), sl9⟩) (q9 : PySem.W.codeIn K cd9 "_law_list" = true) (k9 : PySem.W.keepIn K (.ref f9) = true)
    (a10 : PySem.W.nsIn K mainGlobals "_law_whole" = some (some (.ref f10))) (l10 : K.lookup f10 = some ⟨oc10, od10, .func (PySem.W.fnOf "_law_whole" "_law_whole" (defArgs sWhole) (defBody sWhole) (defScope sWhole) .none kV10 dc10 pm10 an10 cd10 ct10), sl10⟩) (q10 : PySem.W.codeIn K cd10 "_law_whole" = true) (k10 : PySem.W.keepIn K (.ref f10) = true)
    (a11 : PySem.W.nsIn K mainGlobals "_law_all" = some (some (.ref f11))) (l11 : K.lookup f11 = some ⟨oc11, od11, .func (PySem.W.fnOf "_law_all" "_law_all" (defArgs sAll) (defBody sAll) (defScope sAll) .none kV11 dc11 pm11 an11 cd11 ct11), sl11⟩) (q11 : PySem.W.codeIn K cd11 "_law_all" = true) (k11 : PySem.W.keepIn K (.ref f11) = true)
    (a12 : PySem.W.nsIn K mainGlobals "_law_many" = some (some (.ref f12))) (l12 : K.lookup f12 = some ⟨oc12, od12, .func (PySem.W.fnOf "_law_many" "_law_many" (defArgs sMany) (defBody sMany) (defScope sMany) .none kV12 dc12 pm12 an12 cd12 ct12), sl12⟩) (q12 : PySem.W.codeIn K cd12 "_law_many" = true) (k12 : PySem.W.keepIn K (.ref f12) = true)
    (a13 : PySem.W.nsIn K mainGlobals "_law_counts" = some (some (.ref f13))) (l13 : K.lookup f13 = some ⟨oc13, od13, .func (PySem.W.fnOf "_law_counts" "_law_counts" (defArgs sLCounts) (defBody sLCounts) (defScope sLCounts) .none kV13 dc13 pm13 an13 cd13 ct13), sl13⟩) (q13 : PySem.W.codeIn K cd13 "_law_counts" = true) (k13 : PySem.W.keepIn K (.ref f13) = true)
    (a14 : PySem.W.nsIn K mainGlobals "law" = some (some (.ref f14))) (l14 : K.lookup f14 = some ⟨oc14, od14, .func (PySem.W.fnOf "law" "law" (defArgs sLaw) (defBody sLaw) (defScope sLaw) .none kV14 dc14 pm14 an14 cd14 ct14), sl14⟩) (q14 : PySem.W.codeIn K cd14 "law" = true) (k14 : PySem.W.keepIn K (.ref f14) = true)
    (y0 : PySem.W.nsIn K mainGlobals "SIGNS" = some (some (.str ("012" : Str) tk0)))
    (z0 : PySem.W.nsIn K mainGlobals "range" = some none)
    (z1 : PySem.W.nsIn K mainGlobals "len" = some none)
    (z2 : PySem.W.nsIn K mainGlobals "str" = some none)
    (z3 : PySem.W.nsIn K mainGlobals "isinstance" = some none)
    (z4 : PySem.W.nsIn K mainGlobals "int" = some none)
    (z5 : PySem.W.nsIn K mainGlobals "list" = some none)
    (z6 : PySem.W.nsIn K mainGlobals "bool" = some none)
    (z7 : PySem.W.nsIn K mainGlobals "max" = some none)
    : LamX.LawAtS l w K CX0 10 63 "_law_script" mg fa h := by
  cases hfa.symm.trans (PySem.W.mg_of X G a14)
  have F1 := fun_mk (st := sMarks) l1 q1 k1
  have D1 : Df K mg "marks" sMarks ["word"] f1 _ := ⟨F1, F1.binds (ps := ["word"]) (fun _ _ _ _ _ _ us hl => match us, hl with | [_], _ => rfl), PySem.W.mg_of X G a1⟩
  have F2 := fun_mk (st := sGap) l2 q2 k2
  have D2 : Df K mg "gap" sGap ["one", "other"] f2 _ := ⟨F2, F2.binds (ps := ["one", "other"]) (fun _ _ _ _ _ _ us hl => match us, hl with | [_, _], _ => rfl), PySem.W.mg_of X G a2⟩
  have F3 := fun_mk (st := sCounts) l3 q3 k3
  have D3 : Df K mg "counts" sCounts ["n", "words"] f3 _ := ⟨F3, F3.binds (ps := ["n", "words"]) (fun _ _ _ _ _ _ us hl => match us, hl with | [_, _], _ => rfl), PySem.W.mg_of X G a3⟩
  have F4 := fun_mk (st := sDraws) l4 q4 k4
  have D4 : Df K mg "_law_draws" sDraws ["_law_script", "_law_turn", "_law_many_here"] f4 _ := ⟨F4, F4.binds (ps := ["_law_script", "_law_turn", "_law_many_here"]) (fun _ _ _ _ _ _ us hl => match us, hl with | [_, _, _], _ => rfl), PySem.W.mg_of X G a4⟩
  have F5 := fun_mk (st := sPop) l5 q5 k5
  have D5 : Df K mg "_law_pop" sPop ["_law_draws_here"] f5 _ := ⟨F5, F5.binds (ps := ["_law_draws_here"]) (fun _ _ _ _ _ _ us hl => match us, hl with | [_], _ => rfl), PySem.W.mg_of X G a5⟩
  have F6 := fun_mk (st := sSize) l6 q6 k6
  have D6 : Df K mg "_law_size" sSize ["_law_draws_here"] f6 _ := ⟨F6, F6.binds (ps := ["_law_draws_here"]) (fun _ _ _ _ _ _ us hl => match us, hl with | [_], _ => rfl), PySem.W.mg_of X G a6⟩
  have F7 := fun_mk (st := sWord) l7 q7 k7
  have D7 : Df K mg "_law_word" sWord ["_law_number", "_law_q", "_law_n"] f7 _ := ⟨F7, F7.binds (ps := ["_law_number", "_law_q", "_law_n"]) (fun _ _ _ _ _ _ us hl => match us, hl with | [_, _, _], _ => rfl), PySem.W.mg_of X G a7⟩
  have F8 := fun_mk (st := sFar) l8 q8 k8
  have D8 : Df K mg "_law_far" sFar ["_law_one", "_law_other"] f8 _ := ⟨F8, F8.binds (ps := ["_law_one", "_law_other"]) (fun _ _ _ _ _ _ us hl => match us, hl with | [_, _], _ => rfl), PySem.W.mg_of X G a8⟩
  have F9 := fun_mk (st := sList) l9 q9 k9
  have D9 : Df K mg "_law_list" sList ["_law_draws_here", "_law_q", "_law_n", "_law_most", "_law_far_here"] f9 _ := ⟨F9, F9.binds (ps := ["_law_draws_here", "_law_q", "_law_n", "_law_most", "_law_far_here"]) (fun _ _ _ _ _ _ us hl => match us, hl with | [_, _, _, _, _], _ => rfl), PySem.W.mg_of X G a9⟩
  have F10 := fun_mk (st := sWhole) l10 q10 k10
  have D10 : Df K mg "_law_whole" sWhole ["_law_found"] f10 _ := ⟨F10, F10.binds (ps := ["_law_found"]) (fun _ _ _ _ _ _ us hl => match us, hl with | [_], _ => rfl), PySem.W.mg_of X G a10⟩
  have F11 := fun_mk (st := sAll) l11 q11 k11
  have D11 : Df K mg "_law_all" sAll ["_law_q", "_law_n"] f11 _ := ⟨F11, F11.binds (ps := ["_law_q", "_law_n"]) (fun _ _ _ _ _ _ us hl => match us, hl with | [_, _], _ => rfl), PySem.W.mg_of X G a11⟩
  have F12 := fun_mk (st := sMany) l12 q12 k12
  have D12 : Df K mg "_law_many" sMany ["_law_draws_here", "_law_q", "_law_n"] f12 _ := ⟨F12, F12.binds (ps := ["_law_draws_here", "_law_q", "_law_n"]) (fun _ _ _ _ _ _ us hl => match us, hl with | [_, _, _], _ => rfl), PySem.W.mg_of X G a12⟩
  have F13 := fun_mk (st := sLCounts) l13 q13 k13
  have D13 : Df K mg "_law_counts" sLCounts ["_law_n", "_law_words"] f13 _ := ⟨F13, F13.binds (ps := ["_law_n", "_law_words"]) (fun _ _ _ _ _ _ us hl => match us, hl with | [_, _], _ => rfl), PySem.W.mg_of X G a13⟩
  have F14 := fun_mk (st := sLaw) l14 q14 k14
  have hT : ∀ p ∈ ([] : List (Addr × Addr)), h.get? p.2 = some { cls := .none, data := .fields #[] } ∧ K.lookup p.2 = none ∧ PySem.W.CodeHd h p.1 p.2 := by
    intro p hp
    simp only [List.mem_cons, List.not_mem_nil, or_false] at hp
  refine ⟨PySem.W.fnOf "law" "law" (defArgs sLaw) (defBody sLaw) (defScope sLaw) .none kV14 dc14 pm14 an14 cd14 ct14, [], spLaw K [], fun p hp => (hT p hp).1, fun p hp => (hT p hp).2.1, fun p hp => (hT p hp).2.2, fun s v => .of_eq rfl, fun H a ns _ _ hH hS => ⟨a, ns, rfl, hS, ?_, fun _ => rfl⟩, fun base _ _ TB => ?_⟩
  · intro p hp
    simp only [List.mem_cons, List.not_mem_nil, or_false] at hp
  · exact ok_law F14 D1 D2 D3 D4 D5 D6 D7 D8 D9 D10 D11 D12 D13 (PySem.W.mg_of X G y0) (PySem.W.mg_none_of X G z0) (PySem.W.mg_none_of X G z1) (PySem.W.mg_none_of X G z2) (PySem.W.mg_none_of X G z3) (PySem.W.mg_none_of X G z4) (PySem.W.mg_none_of X G z5) (PySem.W.mg_none_of X G z6) (PySem.W.mg_none_of X G z7)
end Wa
open PySem PySem.W PyProof.Rows
set_option maxHeartbeats 0 in
theorem PySem.Challenge.cw_wordsapart_k04_counts_of_distances_holds : PySem.Challenge.rw_wordsapart_k04_counts_of_distances.Holds := by
  w_on; o_law; k_head; (case hw => w_witness2)
  k_fill
  refine Wa.walk_tabs (l := PySem.Challenge.rw_wordsapart_k04_counts_of_distances) (n := 63) (k := 10) (x := "_law_script") (CX := fun _ => L2.CX0) rfl (by decide) rfl ⟨rfl, by decide, by decide⟩ (fun w h Y => PySem.W.kIn_of Y) ?F (fun _ _ _ _ _ h => h)
  case F =>
    intro w mg fa h KX G hmg TT
    refine' Wa.all_mk KX G hmg TT ?a1 ?l1 ?q1 ?k1 ?a2 ?l2 ?q2 ?k2 ?a3 ?l3 ?q3 ?k3 ?a4 ?l4 ?q4 ?k4 ?a5 ?l5 ?q5 ?k5 ?a6 ?l6 ?q6 ?k6 ?a7 ?l7 ?q7 ?k7 ?a8 ?l8 ?q8 ?k8 ?a9 ?l9 ?q9 ?k9 ?a10 ?l10 ?q10 ?k10 ?a11 ?l11 ?q11 ?k11 ?a12 ?l12 ?q12 ?k12 ?a13 ?l13 ?q13 ?k13 ?a14 ?l14 ?q14 ?k14 ?y0 ?z0 ?z1 ?z2 ?z3 ?z4 ?z5 ?z6 ?z7
    (case a1 => k_is)
    (case l1 => k_is)
    (case q1 => k_is)
    (case k1 => k_is)
    (case a2 => k_is)
    (case l2 => k_is)
    (case q2 => k_is)
    (case k2 => k_is)
    (case a3 => k_is)
    (case l3 => k_is)
    (case q3 => k_is)
    (case k3 => k_is)
    (case a4 => k_is)
    (case l4 => k_is)
    (case q4 => k_is)
    (case k4 => k_is)
    (case a5 => k_is)
    (case l5 => k_is)
    (case q5 => k_is)
    (case k5 => k_is)
    (case a6 => k_is)
    (case l6 => k_is)
    (case q6 => k_is)
    (case k6 => k_is)
    (case a7 => k_is)
    (case l7 => k_is)
    (case q7 => k_is)
    (case k7 => k_is)
    (case a8 => k_is)
    (case l8 => k_is)
    (case q8 => k_is)
    (case k8 => k_is)
    (case a9 => k_is)
    (case l9 => k_is)
    (case q9 => k_is)
    (case k9 => k_is)
    (case a10 => k_is)
    (case l10 => k_is)
    (case q10 => k_is)
    (case k10 => k_is)
    (case a11 => k_is)
    (case l11 => k_is)
    (case q11 => k_is)
    (case k11 => k_is)
    (case a12 => k_is)
    (case l12 => k_is)
    (case q12 => k_is)
    (case k12 => k_is)
    (case a13 => k_is)
    (case l13 => k_is)
    (case q13 => k_is)
    (case k13 => k_is)
    (case a14 => k_is)
    (case l14 => k_is)
    (case q14 => k_is)
    (case k14 => k_is)
    (case y0 => k_is)
    (case z0 => k_is)
    (case z1 => k_is)
    (case z2 => k_is)
    (case z3 => k_is)
    (case z4 => k_is)
    (case z5 => k_is)
    (case z6 => k_is)
    (case z7 => k_is)
