import PyProof.Rows.All
import Wide.All
import OpenK.AllK
import Wide.FinOn
import HandS.Base
import HandS.Call
import HandS.List
import HandS.Comp
import HandS.Ends
import HandS.Dict
import HandS.Iter
import HandS.Text
import HandS.Words
import HandS.WordsList
import HandS.WordsDict
import HandS.Wide
import HandS.IsInst
import HandS.AnyAll
import HandS.GenOver
import HandS.EndTab
import HandS.JoinGen
import KE.GoesNew
import KE.GoesEnum
import KE.GoesMore
import HandS.SortInts
import HandS.Conv
import HandS.Small
import HandS.Style
import HandS.FStr
import PyProof.FString3
import KE.DatumOrd
import PySem.Challenge.RW_wordsapart_k20_ways_and_waves
set_option Elab.async false
set_option linter.all false
set_option maxRecDepth 100000
set_option maxHeartbeats 4000000
/-! words by their figures; walks by a count; heaps -/
namespace Wa
open PySem PySem.Spec PyProof.Rows L2
/-- the text of a word, by its figures -/
def wd (ds : List Nat) : Str := ⟨(ds.map (48 + ·)).toArray⟩
/-- the values of a list of words -/
def vws (ws : List (List Nat)) : List V := ws.map fun w => V.str (wd w)
theorem str_ext {x y : Str} (h : x.cps.toList = y.cps.toList) : x = y := by
  cases x with
  | mk a =>
    cases y with
    | mk b =>
      cases a with
      | mk l =>
        cases b with
        | mk m =>
          have e : l = m := h
          rw [e]
theorem str_app (x y : Str) : (x ++ y).cps.toList = x.cps.toList ++ y.cps.toList := by
  show (x.cps ++ y.cps).toList = _
  exact Array.toList_append ..
theorem wd_list (ds : List Nat) : (wd ds).cps.toList = ds.map (48 + ·) := rfl
theorem wd_app (a b : List Nat) : wd a ++ wd b = wd (a ++ b) := by
  apply str_ext
  rw [str_app, wd_list, wd_list, wd_list, List.map_append]
theorem wd_len (a : List Nat) : (wd a).length = a.length := by
  show (a.map (48 + ·)).toArray.size = _
  rw [List.size_toArray, List.length_map]
theorem map48_inj : ∀ {a b : List Nat}, a.map (48 + ·) = b.map (48 + ·) → a = b
  | [], [], _ => rfl
  | [], _ :: _, h => by cases h
  | _ :: _, [], h => by cases h
  | x :: a, y :: b, h => by
    have h1 : 48 + x = 48 + y := (List.cons.inj h).1
    have h2 := map48_inj (List.cons.inj h).2
    have e : x = y := by omega
    rw [e, h2]
theorem wd_inj {a b : List Nat} (h : wd a = wd b) : a = b := map48_inj (by rw [← wd_list, ← wd_list, h])
theorem wd_one (c : Nat) : wd [c] = ⟨#[48 + c]⟩ := rfl
theorem wd_at {ds : List Nat} {i c : Nat} (h : (wd ds).cps[i]? = some c) : ∃ d, ds[i]? = some d ∧ c = 48 + d := by
  have h2 : ((ds.map (48 + ·)).toArray)[i]? = some c := h
  rw [List.getElem?_toArray, List.getElem?_map] at h2
  cases e : ds[i]? with
  | none => rw [e] at h2; cases h2
  | some d =>
    rw [e] at h2
    exact ⟨d, rfl, (Option.some.inj h2).symm⟩
theorem small_log {s : Nat} (h : s < 3) : ((s : Nat) : Int).natAbs.log2 < 1920 := by
  match s, h with
  | 0, _ => decide +kernel
  | 1, _ => decide +kernel
  | 2, _ => decide +kernel
theorem str_fig {s : Nat} (h : s < 3) : Str.ofString (toString (s : Int)) = wd [s] := by
  match s, h with
  | 0, _ => decide +kernel
  | 1, _ => decide +kernel
  | 2, _ => decide +kernel
theorem wd_ix {ds : List Nat} {i d : Nat} (h : ds[i]? = some d) : (wd ds).cps[i]? = some (48 + d) := by
  show ((ds.map (48 + ·)).toArray)[i]? = _
  rw [List.getElem?_toArray, List.getElem?_map, h]
  rfl
theorem vws_len (ws : List (List Nat)) : (vws ws).length = ws.length := List.length_map ..
theorem vws_get (ws : List (List Nat)) (i : Nat) : (vws ws)[i]? = (ws[i]?).map fun w => V.str (wd w) := List.getElem?_map ..
theorem vws_app (a b : List (List Nat)) : vws (a ++ b) = vws a ++ vws b := List.map_append ..
theorem vws_snoc (a : List (List Nat)) (b : List Nat) : vws (a ++ [b]) = vws a ++ [V.str (wd b)] := vws_app a [b]
theorem sz {n : Nat} (h : n ≤ 16000000) : n ≤ sizeLine := Nat.le_trans h (by decide)
theorem sz' {n : Nat} (h : n < 16000000) : n < sizeLine := Nat.lt_of_lt_of_le h (by decide)

/-- a new object leaves what stood -/
theorem same_upd {H : Hp} {p : Addr} {o : HO} (h : H p = none) : Same H (upd H p o) := fun b x e => by
  rw [upd_ne (ne_of_none e h)]
  exact e
/-- a change at an address that was free at the start -/
theorem same_over {H H1 : Hp} {p : Addr} {o : HO} (s : Same H H1) (h : H p = none) : Same H (upd H1 p o) := fun b x e => by
  rw [upd_ne (ne_of_none e h)]
  exact s b x e
/-- all but a has stayed -/
def Others (a : Addr) (H H' : Hp) : Prop := ∀ b o, b ≠ a → H b = some o → H' b = some o
theorem Others.refl (a : Addr) (H : Hp) : Others a H H := fun _ _ _ h => h
theorem Others.trans {a : Addr} {H H1 H2 : Hp} (x : Others a H H1) (y : Others a H1 H2) : Others a H H2 := fun b o n h => y b o n (x b o n h)
theorem Same.others {a : Addr} {H H' : Hp} (s : Same H H') : Others a H H' := fun b o _ h => s b o h
theorem others_upd {a : Addr} {H : Hp} {o : HO} : Others a H (upd H a o) := fun b x n e => by
  rw [upd_ne n]
  exact e

/-- a walk of n turns: comprehensions -/
theorem walk_n {stop go : Nat → Hp → Prop} {T : Nat → Hp → (Hp → Prop) → Prop} {H0 : Hp} {Qd : Hp → Prop} (n : Nat) (Pv : Nat → Hp → Prop) (h0 : Pv 0 H0)
    (hs : ∀ i H, i < n → Pv i H → go i H ∧ T i H (Pv (i + 1))) (hd : ∀ H, Pv n H → stop n H ∧ Qd H) :
    ∃ W : Nat → Nat → Hp → Prop, (∃ m, W 0 m H0) ∧ ∀ i m H, W i m H → (stop i H ∧ Qd H) ∨ (go i H ∧ ∃ Nx : Hp → Prop, (∀ H', Nx H' → ∃ m', m' < m ∧ W (i + 1) m' H') ∧ T i H Nx) := by
  refine ⟨fun i m H => m = n - i ∧ i ≤ n ∧ Pv i H, ⟨n, by simp, Nat.zero_le _, h0⟩, ?_⟩
  rintro i m H ⟨rfl, hi, p⟩
  by_cases hlt : i < n
  · obtain ⟨g, t⟩ := hs i H hlt p
    exact .inr ⟨g, Pv (i + 1), fun H' p' => ⟨n - (i + 1), by omega, rfl, hlt, p'⟩, t⟩
  · have e : i = n := by omega
    subst e
    exact .inl (hd H p)
/-- a walk of n turns: for loops -/
theorem walk_f {stop go : Nat → Hp → Prop} {T : Nat → L2.St → Hp → (L2.St → Hp → Prop) → Prop} {s0 : L2.St} {H0 : Hp} {Qd : L2.St → Hp → Prop} (n : Nat) (Pv : Nat → L2.St → Hp → Prop) (h0 : Pv 0 s0 H0)
    (hs : ∀ i σ H, i < n → Pv i σ H → go i H ∧ T i σ H (Pv (i + 1))) (hd : ∀ σ H, Pv n σ H → stop n H ∧ Qd σ H) :
    ∃ W : Nat → Nat → L2.St → Hp → Prop, (∃ m, W 0 m s0 H0) ∧ ∀ i m σ H, W i m σ H → (stop i H ∧ Qd σ H) ∨ (go i H ∧ ∃ N : L2.St → Hp → Prop, (∀ σ' H', N σ' H' → ∃ m', m' < m ∧ W (i + 1) m' σ' H') ∧ T i σ H N) := by
  refine ⟨fun i m σ H => m = n - i ∧ i ≤ n ∧ Pv i σ H, ⟨n, by simp, Nat.zero_le _, h0⟩, ?_⟩
  rintro i m σ H ⟨rfl, hi, p⟩
  by_cases hlt : i < n
  · obtain ⟨g, t⟩ := hs i σ H hlt p
    exact .inr ⟨g, Pv (i + 1), fun σ' H' p' => ⟨n - (i + 1), by omega, rfl, hlt, p'⟩, t⟩
  · have e : i = n := by omega
    subst e
    exact .inl (hd σ H p)
theorem yes {σ : L2.St} {H : Hp} {Q : Bool → Hp → Prop} (h : Q true H) : tYes σ H Q := h
/-- what a list's iterator hands out -/
theorem itl_go {K : PySem.W.Frag} {a : Addr} {xs : List V} {i : Nat} {H : Hp} (h : SqL K H a xs) (hi : i < xs.length) : (Itl K a).go i H := ⟨xs, xs[i], h, List.getElem?_eq_getElem hi⟩
theorem itl_stop {K : PySem.W.Frag} {a : Addr} {xs : List V} {H : Hp} (h : SqL K H a xs) {n : Nat} (e : xs.length = n) : (Itl K a).stop n H := ⟨xs, h, by omega⟩
theorem itl_yld {K : PySem.W.Frag} {a : Addr} {xs : List V} {i : Nat} {H H' : Hp} {x : V} (h : SqL K H a xs) (y : (Itl K a).yld i H x H') : H' = H ∧ xs[i]? = some x := ⟨y.1, y.2 xs h⟩
theorem sq {K : PySem.W.Frag} {H : Hp} {a : Addr} {xs : List V} (h : H a = some (.lst xs)) : SqL K H a xs := .inl (.inl h)

/-- all words of length n with q signs, rising -/
def allD (q : Nat) : Nat → List (List Nat)
  | 0 => [[]]
  | n + 1 => (allD q n).flatMap fun w => (List.range q).map fun s => w ++ [s]
def spAW : Sp := fun vs H Q _ => ∃ (q n : Nat), vs = [.int q, .int n] ∧ q ≤ 3 ∧ n ≤ 8 ∧ ∀ H' p, Same H H' → H p = none → H' p = some (.lst (vws (allD q n))) → Q (.ref p) H'
theorem flat_len {α β : Type} {f : α → List β} {q : Nat} : ∀ {l : List α}, (∀ x ∈ l, (f x).length = q) → (l.flatMap f).length = l.length * q
  | [], _ => by simp
  | a :: l, h => by
    rw [List.flatMap_cons, List.length_append, flat_len (l := l) fun x hx => h x (List.mem_cons_of_mem _ hx), h a List.mem_cons_self, List.length_cons, Nat.succ_mul]
    omega
theorem allD_len (q : Nat) : ∀ n, (allD q n).length = q ^ n
  | 0 => rfl
  | n + 1 => by
    show ((allD q n).flatMap _).length = _
    rw [flat_len (q := q) (fun x _ => by rw [List.length_map, List.length_range]), allD_len q n, Nat.pow_succ]
theorem allD_mem {q : Nat} : ∀ {n : Nat} {w : List Nat}, w ∈ allD q n → w.length = n ∧ ∀ d ∈ w, d < q
  | 0, w, h => by
    have e : w = [] := List.mem_singleton.mp h
    subst e
    exact ⟨rfl, fun d hd => absurd hd (by simp)⟩
  | n + 1, w, h => by
    obtain ⟨u, hu, hw⟩ := List.mem_flatMap.mp h
    obtain ⟨s, hs, rfl⟩ := List.mem_map.mp hw
    obtain ⟨h1, h2⟩ := allD_mem hu
    refine ⟨by rw [List.length_append, h1]; rfl, fun d hd => ?_⟩
    rcases List.mem_append.mp hd with z | z
    · exact h2 d z
    · rw [List.mem_singleton.mp z]
      exact List.mem_range.mp hs
theorem pow_bound {q n : Nat} (hq : q ≤ 3) (hn : n ≤ 8) : q ^ n ≤ 6561 := Nat.le_trans (Nat.pow_le_pow_left hq n) (Nat.le_trans (Nat.pow_le_pow_right (by decide) hn) (by decide))
theorem flat_take {α β : Type} {f : α → List β} {i : Nat} {l : List α} {x : α} (h : l[i]? = some x) : (l.take (i + 1)).flatMap f = (l.take i).flatMap f ++ f x := by
  rw [List.take_add_one, h, List.flatMap_append]
  show _ ++ ([x].flatMap f) = _
  rw [List.flatMap_singleton]
theorem range_take {q i : Nat} (h : i < q) : (List.range q).take (i + 1) = (List.range q).take i ++ [i] := by
  rw [List.take_add_one, List.getElem?_range h]
  rfl
end Wa
/-! lists of words and of numbers as data: equality -/
namespace Wa
open PySem PySem.Spec PyProof.Rows L2
def dws (ws : List (List Nat)) : PyData := .list (ws.map fun w => .str (wd w))
def dns (ns : List Int) : PyData := .list (ns.map PyData.int)
theorem dp_ws {K : PySem.W.Frag} {H : Hp} : ∀ (ws : List (List Nat)), DpAll K H (vws ws) (ws.map fun w => .str (wd w))
  | [] => .nil
  | w :: r => .cons (.str (wd w)) (dp_ws r)
theorem dp_ns {K : PySem.W.Frag} {H : Hp} : ∀ (ns : List Int), DpAll K H (ns.map V.int) (ns.map PyData.int)
  | [] => .nil
  | w :: r => .cons (.int w) (dp_ns r)
theorem sh_list {ds : List PyData} (h : ∀ d ∈ ds, d.canLay0 = true ∧ d.depth = 0) : SeqAt.shaped (.list ds) = true := by
  have h1 : ∀ {ds : List PyData}, (∀ d ∈ ds, d.canLay0 = true ∧ d.depth = 0) → PyData.canLayAll0 ds = true ∧ PyData.depthAll ds = 0 := by
    intro ds
    induction ds with
    | nil => exact fun _ => ⟨rfl, rfl⟩
    | cons d r ih =>
      intro h
      obtain ⟨i1, i2⟩ := ih fun x hx => h x (List.mem_cons_of_mem _ hx)
      obtain ⟨j1, j2⟩ := h d List.mem_cons_self
      refine ⟨?_, ?_⟩
      · show (d.canLay0 && PyData.canLayAll0 r) = true
        rw [i1, j1]
        rfl
      · show max d.depth (PyData.depthAll r) = 0
        rw [i2, j2]
        rfl
  obtain ⟨a, b⟩ := h1 h
  unfold SeqAt.shaped
  rw [Bool.and_eq_true]
  refine ⟨a, decide_eq_true ?_⟩
  show PyData.depthAll ds + 1 ≤ 64
  rw [b]
  decide
/-- words of figures -/
def Figs (ws : List (List Nat)) : Prop := ∀ w ∈ ws, ∀ d ∈ w, d < 10
theorem allD_figs {q n : Nat} (h : q ≤ 3) : Figs (allD q n) := fun w hw d hd => by
  have := (allD_mem hw).2 d hd
  omega
theorem wd_ok {w : List Nat} (h : ∀ d ∈ w, d < 10) : PyData.strOk (wd w) = true := by
  show (w.map (48 + ·)).toArray.all (· < 0x110000) = true
  rw [List.all_toArray, List.all_eq_true]
  intro x hx
  obtain ⟨d, hd, rfl⟩ := List.mem_map.mp hx
  have := h d hd
  exact decide_eq_true (by omega)
theorem sh_ws {ws : List (List Nat)} (h : Figs ws) : SeqAt.shaped (dws ws) = true := sh_list fun d hd => by
  obtain ⟨w, hw, rfl⟩ := List.mem_map.mp hd
  exact ⟨wd_ok (h w hw), rfl⟩
theorem sh_ns (ns : List Int) : SeqAt.shaped (dns ns) = true := sh_list fun d hd => by
  obtain ⟨w, _, rfl⟩ := List.mem_map.mp hd
  exact ⟨rfl, rfl⟩
theorem eqv_ws : ∀ (a b : List (List Nat)), PyData.eqv (dws a) (dws b) = decide (a = b)
  | [], [] => rfl
  | [], _ :: _ => rfl
  | _ :: _, [] => rfl
  | x :: a, y :: b => by
    have ih := eqv_ws a b
    show (wd x == wd y && PyData.eqv (dws a) (dws b)) = _
    rw [ih]
    by_cases e : x = y
    · subst e
      rw [beq_self_eq_true, Bool.true_and]
      by_cases e2 : a = b
      · rw [e2, decide_eq_true rfl, decide_eq_true rfl]
      · rw [decide_eq_false e2, decide_eq_false fun z => e2 (List.cons.inj z).2]
    · rw [beq_eq_false_iff_ne.mpr fun z => e (wd_inj z), Bool.false_and, decide_eq_false fun z => e (List.cons.inj z).1]
theorem eqv_ns : ∀ (a b : List Int), PyData.eqv (dns a) (dns b) = decide (a = b)
  | [], [] => rfl
  | [], _ :: _ => rfl
  | _ :: _, [] => rfl
  | x :: a, y :: b => by
    have ih := eqv_ns a b
    show (x == y && PyData.eqv (dns a) (dns b)) = _
    rw [ih]
    by_cases e : x = y
    · subst e
      rw [beq_self_eq_true, Bool.true_and]
      by_cases e2 : a = b
      · rw [e2, decide_eq_true rfl, decide_eq_true rfl]
      · rw [decide_eq_false e2, decide_eq_false fun z => e2 (List.cons.inj z).2]
    · rw [beq_eq_false_iff_ne.mpr e, Bool.false_and, decide_eq_false fun z => e (List.cons.inj z).1]
end Wa
/-! generator expressions over the layer: the element is any expression with a rule -/
namespace Gx
open PySem PySem.Spec PyProof.Rows L2
/-- the context in which a generator expression's own code runs -/
abbrev gcx (X : Cx) (s : Shared) (H : Hp) (cenv : Env) (fp : List Addr) (A : Around) : Cx :=
  { X with A := A, s_0 := s, H_0 := H, env := cenv, outer := X.stack, stack := cenv :: X.stack, ex := fp, fn := fun _ => false, pn := [], xe := fun _ _ => False }
theorem clo_old {X : Cx} {pins : List (Addr × Obj)} {σ : L2.St} {H : Hp} {s : Shared} {scope : Scope} {own : List (Str × Nat)} (I : Inv X pins σ H s) (ok : BlkOk X.N X.env.scope scope own) {y : Str} {c : Addr}
    (e : (cloFrom X.env.cells scope.names []).lookup y = some c) : X.env.cells.lookup y = some c ∧ scope.names.lookup y = some .free ∧ c < s.heap.objs.size := by
  rcases cloFrom_mem (PySem.mem_of_lookup e) with z | ⟨m1, m2⟩
  · cases z
  · have hc : ∃ c, X.env.cells.lookup y = some c := (ok.free _ m1 rfl).elim (fun k => I.ok.has _ (.inl k)) fun k => I.ok.has _ (.inr k)
    obtain ⟨c', hc'⟩ := hc
    rw [hc'] at m2
    have m3 : c = c' := m2
    subst m3
    obtain ⟨v, z⟩ := I.cell _ _ hc'
    exact ⟨hc', ok.uniq _ m1, z.lt⟩
theorem clo_has {X : Cx} {pins : List (Addr × Obj)} {σ : L2.St} {H : Hp} {s : Shared} {scope : Scope} {own : List (Str × Nat)} (I : Inv X pins σ H s) (ok : BlkOk X.N X.env.scope scope own) {y : Str}
    (hl : scope.names.lookup y = some .free) : ∃ c, (cloFrom X.env.cells scope.names []).lookup y = some c := mem_lookup (cloFrom_has (cells := X.env.cells) (acc := []) (PySem.mem_of_lookup hl))
/-- the generator's own frame, laid -/
theorem gen_start {X : Cx} {pins : List (Addr × Obj)} {σ : L2.St} {H : Hp} {s s5 : Shared} {scope : Scope} {own : List (Str × Nat)} {fp : List Addr} {code : Value} {A : Around} {m0 : Str → Option Value}
    (I : Inv X pins σ H s) (ok : BlkOk X.N X.env.scope scope own) (nocell : ∀ y ∈ scope.names, y.2 ≠ .cell) (hN : X.N.Nodup) (hfp : ∀ b ∈ fp, FpOk X pins H b ∧ b < s.heap.objs.size)
    (hh : A.handled = none) (hf : A.frames = some (genEnv scope (cloFrom X.env.cells scope.names []) s.heap.objs.size code builtinsNs X.env :: X.stack))
    (kp : ∀ b o, s.heap.get? b = some o → s5.heap.get? b = some o) (hns : s5.heap.Ns s.heap.objs.size m0) (hos : s5.os = s.os) (hb : AllBare s5.gens) :
    Inv (gcx X s H (genEnv scope (cloFrom X.env.cells scope.names []) s.heap.objs.size code builtinsNs X.env) fp A) [] (wipe σ (own.map (·.2))) H s5 := by
  have old := fun {y : Str} {c : Addr} (e : (cloFrom X.env.cells scope.names []).lookup y = some c) => clo_old I ok e
  have kinds : ∀ {y : Str} {k : NameKind}, scope.names.lookup y = some k → k = .cell ∨ k = .free → scope.names.lookup y = some .free := fun {y k} h1 h2 => by
    rcases h2 with z | z
    · exact absurd z (nocell _ (PySem.mem_of_lookup h1))
    · rw [h1, z]
  have okG : (gcx X s H (genEnv scope (cloFrom X.env.cells scope.names []) s.heap.objs.size code builtinsNs X.env) fp A).Ok := {
    mod := I.ok.mod
    kind := ok.kind
    glob := I.ok.glob
    blt := rfl
    above := Nat.le_refl _
    inj := fun x y c e1 e2 => I.ok.inj x y c (old e1).1 (old e2).1
    has := fun x hx => clo_has I ok (hx.elim (fun z => kinds z (.inl rfl)) fun z => kinds z (.inr rfl))
    cab := fun x c z _ => Bool.noConfusion z
    hd := fun _ => hh
    frames := hf
    stk := .inr ⟨rfl, rfl⟩
    exf := fun b hb => ⟨Nat.ne_of_lt (hfp b hb).2, fun x c e => (hfp b hb).1.2.2.2.2.1 x c (old e).1⟩
    bs := I.bs
    bsz := Nat.le_trans I.ok.bsz I.sz
    noex := fun b o e hb => by
      rcases (hfp b hb).1.2.2.2.1 with z | z
      · exact I.ok.noex b o e z
      · have h1 := Nat.lt_of_lt_of_le (Heap.lt_size e) I.ok.bsz
        exact absurd (Nat.lt_of_lt_of_le h1 z) (Nat.lt_irrefl _)
    exfs := fun b hb z => (List.mem_cons.mp (I.stkSub b z)).elim (hfp b hb).1.2.1 (hfp b hb).1.2.2.1
    funs := I.stack
    frf := I.stkFree }
  exact {
    ok := okG
    os := hos
    bare := hb
    base := Un.kept kp
    loc := ⟨m0, hns, fun i y av e1 e2 e3 => by
      obtain ⟨e2, hne⟩ := wipe_some e2
      have e1 : X.N[i]? = some y := e1
      have hy : scope.names.lookup y = some .free := by
        have key : ∀ k, scope.names.lookup y = some k → k = .local → False := fun k hk z => by
          rcases ok.own _ (PySem.mem_of_lookup hk) (.inl z) with q | q
          · obtain ⟨p, hp, hpy⟩ := List.mem_map.mp q
            have e4 := ok.ix p hp
            have hpy : p.1 = y := hpy
            rw [hpy] at e4
            exact hne (List.mem_map.mpr ⟨p, hp, nodup_ix hN e4 e1⟩)
          · exact q (List.mem_of_getElem? e1)
        have e3 : Vis scope y := e3
        rcases e3 with z | z | z
        · exact (key _ z rfl).elim
        · exact kinds z (.inl rfl)
        · exact z
      obtain ⟨c, hc⟩ := clo_has I ok hy
      obtain ⟨m, hn, hl⟩ := I.loc
      have hv : Vis X.env.scope y := (ok.free _ (PySem.mem_of_lookup hy) rfl).elim (fun k => .inr (.inl k)) fun k => .inr (.inr k)
      obtain ⟨u, r, q⟩ := hl i y av e1 e2 hv
      refine ⟨u, r, .inr ⟨.inr hy, c, hc, ?_⟩⟩
      rcases q with ⟨k, _⟩ | ⟨_, c', e', z⟩
      · have k : X.env.scope.names.lookup y = some .local := k
        rcases ok.free _ (PySem.mem_of_lookup hy) rfl with k' | k'
        · rw [k] at k'; cases k'
        · rw [k] at k'; cases k'
      · rw [(old hc).1] at e'
        cases e'
        exact z.keeps kp⟩
    cell := fun y c e => by
      obtain ⟨v, z⟩ := I.cell y c (old e).1
      exact ⟨v, z.keeps kp⟩
    free := I.hok.fresh (Nat.le_refl _)
    freeC := fun y c e => I.freeC y c (old e).1
    pin := fun p hp => absurd (show p ∈ ([] : List (Addr × Obj)) from hp) (by simp)
    hok := I.hok.kept kp
    len := by rw [wipe_length]; exact I.len }
/-- while a generator sleeps its consumer may change what stands at cs, and lay new objects -/
structure Slept (cs : List Addr) (s s' : Shared) : Prop where
  os : s'.os = s.os
  bare : AllBare s'.gens
  keep : ∀ b o, b ∉ cs → s.heap.get? b = some o → s'.heap.get? b = some o
def Stood (cs : List Addr) (s : Shared) : Prop := ∀ b ∈ cs, ∃ o, s.heap.get? b = some o ∧ ∀ v, o.data ≠ .cell v
/-- the consumer's places: younger than the generator's frame -/
structure CsOk (G : Cx) (cs : List Addr) : Prop where
  young : ∀ b ∈ cs, G.s_0.heap.objs.size < b
  loc : G.env.locals = G.s_0.heap.objs.size
  cells : ∀ x c, G.env.cells.lookup x = some c → c < G.s_0.heap.objs.size
  pn : G.pn = []
theorem slept_inv {G : Cx} {σ : L2.St} {H : Hp} {s s' : Shared} {cs : List Addr} (I : Inv G [] σ H s) (c : CsOk G cs) (hH : ∀ b ∈ cs, H b = none) (z : Slept cs s s') : Inv G [] σ H s' := by
  obtain ⟨hh, g, d, t, o⟩ := s'
  obtain ⟨z1, z2, z3⟩ := z
  have ho : o = s.os := z1
  subst ho
  have nt : ∀ b u, H b = some u → b ∉ cs := fun b u e hb => by rw [hH b hb] at e; cases e
  refine I.step (g' := g) (t' := t) (d' := d) (h' := hh) (ch := cs) (fun b hb => ⟨.inr (Nat.le_of_lt (c.young b hb)), fun e => ?_, fun x k e q => ?_, fun p hp => ?_⟩) (fun b u _ _ hc e _ => z3 b u hc e) (fun b u _ _ hc e _ => ⟨u.slots, z3 b u hc e⟩) (fun _ _ _ _ n => n) (fun b u hc e => ⟨u, z3 b u hc e⟩)
    (fun _ _ e => e) (fun _ _ _ e => e) (fun b ps e => ⟨#[], by rw [e]; simp⟩) (fun m hm => ?_) (fun b u e => ?_) z2
  · have := c.young b hb
    rw [e, c.loc] at this
    exact Nat.lt_irrefl _ this
  · have h1 := c.young b hb
    have h2 := c.cells x k e
    rw [q] at h2
    exact absurd (Nat.lt_trans h1 h2) (Nat.lt_irrefl _)
  · rw [c.pn] at hp
    exact absurd hp (by simp)
  · obtain ⟨ob, es, ep, ho, r⟩ := hm
    refine ⟨ob, es, ep, z3 _ ob (fun hb => ?_) ho, r⟩
    have := c.young _ hb
    rw [c.loc] at this
    exact Nat.lt_irrefl _ this
  · refine (I.hok b u e).stay (fun k v hk q => z3 k v ?_ q) (fun _ q => q) fun _ _ q => q
    rcases hk with y | y
    · rw [y]; exact nt b u e
    · exact nt k _ y
theorem cs_fp {G : Cx} {σ : L2.St} {H : Hp} {s : Shared} {cs : List Addr} (I : Inv G [] σ H s) (c : CsOk G cs) (hH : ∀ b ∈ cs, H b = none) : ∀ b ∈ cs, FpOk G [] H b := fun b hb => by
  have yb := c.young b hb
  refine ⟨hH b hb, fun e => ?_, fun z => ?_, .inr (Nat.le_of_lt yb), fun x k e q => ?_, fun p hp => ?_⟩
  · rw [e, c.loc] at yb
    exact Nat.lt_irrefl _ yb
  · obtain ⟨_, o, ho, _⟩ := I.ok.funs.mem z
    exact absurd (Nat.lt_trans yb (Heap.lt_size ho)) (Nat.lt_irrefl _)
  · have h2 := c.cells x k e
    rw [q] at h2
    exact absurd (Nat.lt_trans yb h2) (Nat.lt_irrefl _)
  · rw [c.pn] at hp
    exact absurd hp (by simp)
end Gx
/-! the generator's loop -/
namespace Gx
open PySem PySem.Spec PyProof.Rows L2
theorem seg_yield_0 {M : Model} {A : Around} {R : GenEnd} {Y : Protocol} {s₀ s : Shared} {c : Code} {fs : List Frame} {v : Value} {g : Bool} {l : List Value} {k : Resume → Sem PySem.Fin} (hf : splitAtGen fs = none) (hg : g = false) (hd : fs.any Frame.guarded = false)
    (h : Y 0 s₀ v s fun _ _ => False) : Seg M A R Y 0 s₀ c (.yield v g l k) fs s := by
  rintro Γ p rfl _
  refine ⟨_, s, Runs.yield' fs hf, ?_, h⟩
  simp [End.quiet, hg, hd]
/-- what a turn of the generator's loop asks: W by the turn, a measure, what is out; on: what the consumer asks of an item (C: that it goes on); fin: of the end -/
def Turns (J : It) (g : TG) (tt : TT) (te : TE) (vs : List Nat) (σ : L2.St) (on : List V → V → Hp → Prop → Prop) (fin : List V → Hp → Prop) (W : Nat → Nat → List V → Hp → Prop) : Prop :=
  ∀ i m acc H, W i m acc H → (J.stop i H ∧ fin acc H) ∨ (J.go i H ∧ ∃ Nx : List V → Hp → Prop, (∀ acc' H', Nx acc' H' → ∃ m', m' < m ∧ W (i + 1) m' acc' H') ∧ ∀ x H', J.yld i H x H' → g x (wipe σ vs) H' fun σ2 H2 => wipe σ2 vs = wipe σ vs ∧ tt σ2 H2 fun b H3 =>
    if b = true then te σ2 H3 fun y H4 => on acc y H4 (Nx (acc ++ [y]) H4) else Nx acc H3)
def GY (G : Cx) (σw : L2.St) (cs : List Addr) (CR : List V → Shared → Prop) (on : List V → V → Hp → Prop → Prop) : Protocol := fun n s₀ v s kap =>
  ∃ (acc : List V) (y : V) (H : Hp) (C : Prop), RelV y v ∧ Inv G [] σw H s ∧ (∀ b ∈ cs, H b = none ∧ ∀ o, s₀.heap.get? b = some o → s.heap.get? b = some o) ∧ CR acc s ∧ on acc y H C ∧
    (C → ∀ s', Slept cs s s' → Stood cs s' → CR (acc ++ [y]) s' → kap (.send .none) s')
def GP (G : Cx) (σw : L2.St) (cs : List Addr) (CR : List V → Shared → Prop) (fin : List V → Hp → Prop) (_ : Nat) (s₀ s : Shared) : Prop :=
  ∃ (acc : List V) (H : Hp), Inv G [] σw H s ∧ (∀ b ∈ cs, H b = none ∧ ∀ o, s₀.heap.get? b = some o → s.heap.get? b = some o) ∧ CR acc s ∧ fin acc H
/-- the consumer's relation hangs on its own objects alone -/
def Stable (cs : List Addr) (CR : List V → Shared → Prop) : Prop := ∀ acc s s', (∀ b ∈ cs, ∀ o, s.heap.get? b = some o → s'.heap.get? b = some o) → CR acc s → CR acc s'
section
variable {X : Cx} {s3 : Shared} {H3 : Hp} {cenv : Env} {fp : List Addr} {B : Around} {it : Addr} {tn : Nat → Heap → Prop} {J : It} {elt tg iter : Expr} {ifs : List Expr} {scope : Scope} {pos : Pos} {g : TG} {tt : TT} {te : TE} {vs : List Nat} {σ : L2.St}
  {on : List V → V → Hp → Prop → Prop} {fin : List V → Hp → Prop} {W : Nat → Nat → List V → Hp → Prop} {cs : List Addr} {CR : List V → Shared → Prop}
theorem seg_gx (hc : X.calm = true) (T : Turn X.prog X.w X.K tg J fp it tn) (hco : cenv.scope.isCoroutine = false) (hfp : ∀ b ∈ fp, b < s3.heap.objs.size)
    (hg : PG (gcx X s3 H3 cenv fp (B.deeper cenv)) tg g) (ht : PTs (gcx X s3 H3 cenv fp (B.deeper cenv)) ifs tt) (he : PE (gcx X s3 H3 cenv fp (B.deeper cenv)) elt te)
    (K : CsOk (gcx X s3 H3 cenv fp (B.deeper cenv)) cs) (hCR : Stable cs CR) (turn : Turns J g tt te vs σ on fin W) :
    ∀ (m n i : Nat) (acc : List V) (H : Hp) (s₀ s : Shared), m ≤ n → Inv (gcx X s3 H3 cenv fp (B.deeper cenv)) ([] ++ pinsAt cs s₀.heap) (wipe σ vs) H s → Stood cs s₀ → tn i s.heap → (∀ b ∈ fp, H b = none) → CR acc s → W i m acc H →
      Seg (model X.prog X.w) B (fun n s₀ r s₁ => r = .ok .next ∧ GP (gcx X s3 H3 cenv fp (B.deeper cenv)) (wipe σ vs) cs CR fin n s₀ s₁) (GY (gcx X s3 H3 cenv fp (B.deeper cenv)) (wipe σ vs) cs CR on) n s₀
        (.compLoop (.GeneratorExp elt [⟨tg, iter, ifs, 0⟩] scope pos) 0 (.ref it) .none cenv) ((model X.prog X.w).den (.compLoop (.GeneratorExp elt [⟨tg, iter, ifs, 0⟩] scope pos) 0 (.ref it) .none cenv)) [] s := by
  intro m
  induction m using Nat.strongRecOn with
  | ind m ih =>
    intro n i acc H s₀ s hmn I hS st nfp hcr w
    have hov : B.over (.compLoop (.GeneratorExp elt [⟨tg, iter, ifs, 0⟩] scope pos) 0 (.ref it) .none cenv) [] = B.deeper cenv := rfl
    have csP : ∀ {p : Addr × Obj}, p ∈ [] ++ pinsAt cs s₀.heap → p.1 ∈ cs := fun {p} hp => (of_pinsAt (show p ∈ pinsAt cs s₀.heap from hp)).1
    have stat : ∀ {σ' : L2.St} {H' : Hp} {s' : Shared}, Inv (gcx X s3 H3 cenv fp (B.deeper cenv)) ([] ++ pinsAt cs s₀.heap) σ' H' s' → (∀ b ∈ fp, H' b = none) → ∀ b ∈ fp, FpOk (gcx X s3 H3 cenv fp (B.deeper cenv)) ([] ++ pinsAt cs s₀.heap) H' b := fun {σ' H' s'} I' hn b hb =>
      ⟨hn b hb, (I'.ok.exf b hb).1, I'.ok.exfs b hb, .inl hb, fun x c e => (I'.ok.exf b hb).2 x c e, fun p hp e => by
        have h1 := K.young _ (csP (show p ∈ [] ++ pinsAt cs s₀.heap from hp))
        rw [e] at h1
        exact absurd (Nat.lt_trans h1 (hfp b hb)) (Nat.lt_irrefl _)⟩
    -- what stands at cs is as it was
    have csK : ∀ {pl : List (Addr × Obj)} {σ' : L2.St} {H' : Hp} {s' : Shared}, Inv (gcx X s3 H3 cenv fp (B.deeper cenv)) ([] ++ pinsAt cs s₀.heap ++ pl) σ' H' s' → ∀ b ∈ cs, H' b = none ∧ ∀ o, s₀.heap.get? b = some o → s'.heap.get? b = some o := fun {pl σ' H' s'} I' b hb => by
      obtain ⟨o, e, _⟩ := hS b hb
      have hp : (b, o) ∈ ([] : List (Addr × Obj)) ++ ([] ++ pinsAt cs s₀.heap ++ pl) := List.mem_append_right _ (List.mem_append_left _ (List.mem_append_right _ (mem_pinsAt hb e)))
      obtain ⟨h1, h2, _⟩ := I'.pin (b, o) hp
      exact ⟨h2, fun o' e' => by rw [e] at e'; cases e'; exact h1⟩
    have crK : ∀ {pl : List (Addr × Obj)} {σ' : L2.St} {H' : Hp} {s' : Shared}, Inv (gcx X s3 H3 cenv fp (B.deeper cenv)) ([] ++ pinsAt cs s₀.heap ++ pl) σ' H' s' → CR acc s' := fun {pl σ' H' s'} I' =>
      hCR acc s s' (fun b hb o e => by
        obtain ⟨u, eu, _⟩ := hS b hb
        have h0 := ((csK (pl := []) (by rw [List.append_nil]; exact I) b hb).2 u eu)
        rw [e] at h0
        cases h0
        exact (csK I' b hb).2 _ eu) hcr
    show Seg _ B _ _ _ s₀ _ ((compTurn (.GeneratorExp elt [⟨tg, iter, ifs, 0⟩] scope pos) 0 (.ref it) .none cenv).onRaise (leaving cenv)) [] s
    have etree : compTurn (.GeneratorExp elt [⟨tg, iter, ifs, 0⟩] scope pos) 0 (.ref it) .none cenv = (do
        standAt iter.pos
        match ← pyNext (.ref it) with
        | none => pure (.done .next)
        | some v =>
          letOwnedTupleGo tg (.ref it) v
          assign tg cenv v
          let mut ok := true
          for c in ifs do
            if ok then ok ← isTrue c cenv (eval c cenv)
          if ok then
            (do let v ← eval elt cenv; standAt elt.pos; let _ ← yieldOut cenv v)
          again (.compLoop (.GeneratorExp elt [⟨tg, iter, ifs, 0⟩] scope pos) 0 (.ref it) .none cenv)) := by rfl
    rw [etree, Sem.onRaise_eq_wrap]
    refine seg_bind_wrap (wpAny_standAt ?_)
    rcases turn i m acc H w with ⟨stop, hfin⟩ | ⟨go, Nx, hNx, step⟩
    · refine seg_bind_wrap (wpAny_mono (T.done (gcx X s3 H3 cenv fp (B.deeper cenv)) rfl rfl rfl hc i _ s _ H (fun _ _ => False) I (stat I nfp) st stop) (fun r s6 hr => ?_) fun _ _ z => z.elim)
      obtain ⟨rfl, I6⟩ := hr
      have I6' : Inv (gcx X s3 H3 cenv fp (B.deeper cenv)) ([] ++ pinsAt cs s₀.heap ++ []) (wipe σ vs) H s6 := by rw [List.append_nil]; exact I6
      exact seg_end (.ok .next) ⟨rfl, acc, H, I6.unpinned, fun b hb => csK I6' b hb, crK I6', hfin⟩
    · refine seg_bind_wrap (wpAny_mono (T.item (gcx X s3 H3 cenv fp (B.deeper cenv)) rfl rfl rfl hc i _ s _ H (fun _ _ => False) I (stat I nfp) st go) (fun r s6 hr => ?_) fun _ _ z => z.elim)
      obtain ⟨u, rfl, h6⟩ := hr
      refine seg_bind_wrap (wpAny_mono h6 (fun _ s7 h7 => ?_) fun _ _ z => z.elim)
      obtain ⟨x, H7, I7, r7, y7, st7, n7⟩ := h7
      have I7' := I7.pinned (stat I7 n7) (T.obj _ _ st7)
      refine seg_bind_wrap (wpAny_mono (hg.run _ s7 _ H7 x u _ I7' r7 (step x H7 y7)) (fun _ s8 h8 => ?_) fun _ _ z => z.elim)
      obtain ⟨σ8, H8, I8, hw8, q8⟩ := h8
      refine seg_bind_wrap (wpAny_mono (ht.run _ s8 σ8 H8 _ I8 q8) (fun b s9 h9 => ?_) fun _ _ z => z.elim)
      obtain ⟨H9, I9, q9⟩ := h9
      have hl8 : (wipe σ vs).length = σ8.length := by rw [← hw8, wipe_length]
      have weak8 : ∀ {pl : List (Addr × Obj)} {H' : Hp} {s' : Shared}, Inv (gcx X s3 H3 cenv fp (B.deeper cenv)) pl σ8 H' s' → Inv (gcx X s3 H3 cenv fp (B.deeper cenv)) pl (wipe σ vs) H' s' := fun I' => I'.weak hl8 fun j v e => by
        rw [← hw8] at e
        exact (wipe_some e).1
      have fpK : ∀ {H' : Hp} {s' : Shared}, Inv (gcx X s3 H3 cenv fp (B.deeper cenv)) ([] ++ pinsAt cs s₀.heap ++ pinsAt fp s7.heap) σ8 H' s' → ∀ b ∈ fp, H' b = none ∧ ∀ o, s7.heap.get? b = some o → s'.heap.get? b = some o := fun {H' s'} I' b hb => by
        obtain ⟨o, e, _⟩ := T.obj _ _ st7 b hb
        obtain ⟨h1, h2, _⟩ := I'.pin (b, o) (List.mem_append_right _ (List.mem_append_right _ (mem_pinsAt hb e)))
        exact ⟨h2, fun o' e' => by rw [e] at e'; cases e'; exact h1⟩
      cases b with
      | false =>
        simp only [Bool.false_eq_true, if_false] at q9 ⊢
        obtain ⟨m', hm, w'⟩ := hNx _ _ q9
        exact seg_again rfl (ih m' hm n (i + 1) acc H9 s₀ s9 (by omega) (weak8 I9.unpinned) hS (T.keep _ _ _ st7 fun b hb o e => (fpK I9 b hb).2 o e) (fun b hb => (fpK I9 b hb).1) (crK I9) w')
      | true =>
        simp only [if_true] at q9 ⊢
        have hyo : ∀ v, yieldOut cenv v = yieldValue v := fun v => by simp only [yieldOut, hco, Bool.false_eq_true, if_false]
        simp only [hyo]
        rw [Sem.bind_eq_wrap', Sem.bind_eq_wrap', Sem.wrap_wrap, Sem.wrap_wrap]
        refine seg_wrap (wpAny_mono (he.run _ s9 σ8 H9 _ I9 q9) (fun z s10 h10 => ?_) fun _ _ z => z.elim)
        obtain ⟨yv, H10, I10, r10, q10⟩ := h10
        cases n with
        | zero =>
          refine seg_at (seg_yield_0 rfl rfl rfl ⟨acc, yv, H10, Nx (acc ++ [yv]) H10, r10, weak8 I10.unpinned.unpinned, fun b hb => csK I10 b hb, crK I10, q10, fun nx s' _ _ _ => ?_⟩)
          obtain ⟨m', hm, _⟩ := hNx _ _ nx
          exact absurd hm (by omega)
        | succ n =>
          refine seg_at (seg_yield rfl rfl rfl ⟨acc, yv, H10, Nx (acc ++ [yv]) H10, r10, weak8 I10.unpinned.unpinned, fun b hb => csK I10 b hb, crK I10, q10, fun nx s' hsl hst' hcr' => ?_⟩)
          obtain ⟨m', hm, w'⟩ := hNx _ _ nx
          have hH10 : ∀ b ∈ cs, H10 b = none := fun b hb => (csK I10 b hb).1
          have I11 := slept_inv (weak8 I10.unpinned.unpinned) K hH10 hsl
          have I12 := I11.pinned (cs_fp I11 K hH10) hst'
          have ncs : ∀ b ∈ fp, b ∉ cs := fun b hb z => absurd (Nat.lt_trans (hfp b hb) (K.young b z)) (Nat.lt_irrefl _)
          exact seg_again rfl (ih m' hm n (i + 1) (acc ++ [yv]) H10 s' s' (by omega) I12 hst' (T.keep _ _ _ st7 fun b hb o e => hsl.keep b o (ncs b hb) ((fpK I10 b hb).2 o e)) (fun b hb => (fpK I10 b hb).1) hcr' w')
end
end Gx
/-! the generator made, asleep, asked -/
namespace Gx
open PySem PySem.Spec PyProof.Rows L2
/-- the generator that was made: at a, with the number gn; s4: ahead of its frame -/
structure Made (X : Cx) (pins : List (Addr × Obj)) (σ : L2.St) (elt tg iter : Expr) (ifs : List Expr) (scope : Scope) (gpos : Pos) (J : It) (H2 : Hp) (a gn : Nat) (s4 s5 : Shared) (cenv : Env) (fp : List Addr) (it : Addr) (tn : Nat → Heap → Prop) : Prop where
  inv : Inv X pins σ H2 s4
  turn : Turn X.prog X.w X.K tg J fp it tn
  at0 : tn 0 s4.heap
  fpok : ∀ b ∈ fp, FpOk X pins H2 b ∧ b < s4.heap.objs.size
  env : ∃ code, cenv = genEnv scope (cloFrom X.env.cells scope.names []) s4.heap.objs.size code builtinsNs X.env
  kept : ∀ b o, s4.heap.get? b = some o → s5.heap.get? b = some o
  ns : ∃ m0, s5.heap.Ns s4.heap.objs.size m0
  os : s5.os = s4.os
  gens : s5.gens = s4.gens.push (.fresh (.compStart (.GeneratorExp elt [⟨tg, iter, ifs, 0⟩] scope gpos) 0 (.ref it) .none cenv))
  num : gn = s4.gens.size
  isgen : s5.heap.IsGen a gn
  young : s4.heap.objs.size < a
  size : s5.heap.objs.size = a + 1
theorem gx_eval {X : Cx} {pins : List (Addr × Obj)} {σ : L2.St} {H : Hp} {s : Shared} {c P : Addr} {elt tg iter : Expr} {ifs : List Expr} {gpos : Pos} {scope : Scope} {own : List (Str × Nat)} {wi : TI} {k : Nat} {Q' : Value → Shared → Prop} {R : It → Hp → Prop}
    (hr : Room k X.A) (TB : GxR.TabB X.base X.mg c P) (hcode : X.env.code = .ref c) (hco : scope.isCoroutine = false) (ok : BlkOk X.N X.env.scope scope own) (nocell : ∀ y ∈ scope.names, y.2 ≠ .cell) (dot : scope.names.lookup (".0" : Str) = some NameKind.local)
    (hi : PI X tg iter wi) (hs : ∀ v, genFold iter X.env v = pure v) (I : Inv X pins σ H s) (h : wi σ H fun J H1 => GxR.TabG H1 P ∧ ∀ H2, GxR.Tabbed P H1 H2 → R J H2)
    (hQ : ∀ J H2 a gn s4 s5 cenv fp it tn, Made X pins σ elt tg iter ifs scope gpos J H2 a gn s4 s5 cenv fp it tn → R J H2 → Q' (.ref a) s5) :
    wpAny (model X.prog X.w) X.A (eval (.GeneratorExp elt [⟨tg, iter, ifs, 0⟩] scope gpos) X.env) Q' X.xe s := by
  have hfree : ∀ y ∈ scope.names, y.2 = .free → ∃ c, X.env.cells.lookup y.1 = some c := fun y hy e => (ok.free y hy e).elim (fun z => I.ok.has _ (.inl z)) fun z => I.ok.has _ (.inr z)
  refine wpAny_GeneratorExp_make hco (closure_ok hfree) nocell dot ok.kind (by have := hr.dp; omega) ?_ hs
  refine thn (hi.run pins s σ H _ I h) fun xv s1 hx => thn hx fun itv s2 h2 => ?_
  obtain ⟨it, fp, tn, J, H1, rfl, I1, T, st, f1, ⟨ps, hP, ht⟩, hR⟩ := h2
  have hPs : s2.heap.get? P = some { cls := .none, data := .fields ps } := I1.hok P _ hP
  have cd : PySem.W.CodeHd s2.heap c P := TB.code.keeps I1.bk
  have fpP : ∀ b ∈ fp, b ≠ P := fun b hb e => by
    have := (f1 b hb).1
    rw [e, hP] at this
    cases this
  have cont : ∀ (code : Value) (h3 : Heap) (tk : Nat) (ps' : Array Value), Heap.ExtBut P s2.heap h3 → s2.heap.objs.size ≤ h3.objs.size → h3.get? P = some { cls := .none, data := .fields ps' } → (∃ more, ps' = ps ++ more) → TriplesOk ps'.toList →
      wpAny (model X.prog X.w) X.A (builtinsFor X.env.globals X.env.builtins) (fun bi s₄ => ∀ h', h'.Ns s₄.heap.objs.size (fun y => if y = ".0" then some (.ref it) else none) → Heap.SameBut s₄.heap.objs.size (s₄.heap.push { cls := .type "frame", data := .dict #[] }) h' →
          Q' (.ref h'.objs.size) { s₄ with
            gens := s₄.gens.push (.fresh (.compStart (.GeneratorExp elt [⟨tg, iter, ifs, 0⟩] scope gpos) 0 (.ref it) .none (genEnv scope (cloFrom X.env.cells scope.names []) s₄.heap.objs.size code bi X.env))),
            toks := s₄.toks + 1 + 1 + 1,
            heap := h'.push { cls := .type "generator", data := .fields #[.int s₄.gens.size 0, .str "<genexpr>" (s₄.toks + 1), .str (X.env.qual ++ "<genexpr>") (s₄.toks + 1 + 1)] } }) X.xe { s2 with heap := h3, toks := tk } := by
    intro code h3 tk ps' hx hsz hP3 hmore ht3
    obtain ⟨bm, ob, e1, e2, e3, e4, e5, e6, e7, e8⟩ := TB.bm
    have keep3 : ∀ b u, b ≠ P → s2.heap.get? b = some u → h3.get? b = some u := fun b u hb e => hx b u hb e
    refine wpAny_builtinsFor (m := X.mg) (by rw [I1.ok.glob]; exact (I1.mod.glob.keeps I1.bk).extBut hx TB.gP) e1 e2 (keep3 _ _ e4 (I1.bk _ _ e5)) e6 e7 e8 ?_
    intro h' hn' hs'
    obtain ⟨more, em⟩ := hmore
    have J4 := GxR.inv_tab (more := more) (h' := h3) (g' := s2.gens) (d' := s2.drawn) (t' := tk) I1 hP (fun b u hb e => keep3 b u hb e) (by rw [← em]; exact hP3) I1.bare
    have hT2 : GxR.Tabbed P H1 (upd H1 P (.tbl (ps ++ more))) := ⟨⟨ps ++ more, upd_same, by rw [← em]; exact ht3⟩, fun b hb => upd_ne hb⟩
    have hsz' : h'.objs.size = h3.objs.size + 1 := by rw [hs'.1, Heap.size_push]
    have kept1 : ∀ b o, h3.get? b = some o → h'.get? b = some o := fun b o e => hs'.extBut b o (Nat.ne_of_lt (Heap.lt_size e)) (Heap.get?_push_of_some _ e)
    refine hQ J _ h'.objs.size s2.gens.size { s2 with heap := h3, toks := tk } _ _ fp it tn {
      inv := J4
      turn := T
      at0 := T.keep _ _ _ st fun b hb o e => keep3 b o (fpP b hb) e
      fpok := fun b hb => ⟨⟨by rw [upd_ne (fpP b hb)]; exact (f1 b hb).1, (f1 b hb).2⟩, by
        obtain ⟨o, e, _⟩ := T.obj _ _ st b hb
        exact Nat.lt_of_lt_of_le (Heap.lt_size e) hsz⟩
      env := ⟨code, rfl⟩
      kept := fun b o e => Heap.get?_push_of_some _ (kept1 b o e)
      ns := ⟨_, hn'.push _⟩
      os := rfl
      gens := rfl
      num := rfl
      isgen := ⟨_, _, _, Heap.get?_push_size _ rfl, rfl, rfl, rfl⟩
      young := by show h3.objs.size < h'.objs.size; omega
      size := by show (h'.push _).objs.size = _; rw [Heap.size_push] } (hR _ hT2)
  refine ⟨I1.nolimit, ?_⟩
  cases hf : codeAmong gpos ps.toList with
  | none =>
    refine wpAny_genexprCodeX hcode (cd.code hPs ht) (cd.tab hPs) hf fun c' h' tk hx hge hlt hco' _ htab' _ => ?_
    obtain ⟨o1, vs, f1, tf, fl, tg, inF, tx, tt, op, _, _, _, _, _, _, _, _, _, htr, _⟩ := hco'
    exact cont _ h' tk _ hx (Nat.le_trans hge (Nat.le_of_lt hlt)) htab'.2 ⟨_, rfl⟩ htr
  | some cv =>
    refine wpAny_genexprCode_hit hcode (cd.code hPs ht) hf ?_
    exact cont cv s2.heap s2.toks ps (Heap.ExtBut.refl _ _) (Nat.le_refl _) hPs ⟨#[], by simp⟩ ht
/-- the generator number gn sleeps; n: how often it may still hand out -/
def Asleep (M : Model) (B : Around) (G : Cx) (σw : L2.St) (cs : List Addr) (CR : List V → Shared → Prop) (on : List V → V → Hp → Prop → Prop) (fin : List V → Hp → Prop) (gn n : Nat) (acc : List V) (s : Shared) : Prop :=
  ∃ gs, s.gens[gn]? = some gs ∧ ∀ s', Slept cs s s' → Stood cs s' → CR acc s' → gs.Goes M B (fun n s₀ r s₁ => r = .ok .next ∧ GP G σw cs CR fin n s₀ s₁) (GY G σw cs CR on) n (.send .none) s'
theorem setg_other (s : Shared) (g : Nat) (x : GenState) (h : AllBare s.gens) (hx : x.bare = true) : AllBare (s.setGen g x).gens := fun y hy => by
  have e : (s.setGen g x).gens = s.gens.setIfInBounds g x := rfl
  rw [e] at hy
  obtain ⟨i, hi, rfl⟩ := Array.mem_iff_getElem.mp hy
  have hi2 : i < s.gens.size := by
    rw [Array.size_setIfInBounds] at hi
    exact hi
  rw [Array.getElem_setIfInBounds hi2]
  split
  · exact hx
  · exact h _ (Array.getElem_mem hi2)
theorem slept_set {cs : List Addr} {s s' : Shared} {g : Nat} {x : GenState} (z : Slept cs (s.setGen g x) s') : Slept cs s s' := ⟨z.os, z.bare, z.keep⟩
section
variable {X : Cx} {pins : List (Addr × Obj)} {σ : L2.St} {elt tg iter : Expr} {ifs : List Expr} {scope : Scope} {gpos : Pos} {J : It} {H2 : Hp} {a gn : Nat} {s4 s5 : Shared} {cenv : Env} {fp : List Addr} {it : Addr} {tn : Nat → Heap → Prop} {own : List (Str × Nat)}
  {g : TG} {tt : TT} {te : TE} {on : List V → V → Hp → Prop → Prop} {fin : List V → Hp → Prop} {W : Nat → Nat → List V → Hp → Prop} {cs : List Addr} {CR : List V → Shared → Prop} {B : Around}
theorem made_cs (Z : Made X pins σ elt tg iter ifs scope gpos J H2 a gn s4 s5 cenv fp it tn) (ok : BlkOk X.N X.env.scope scope own) (hy : ∀ b ∈ cs, s4.heap.objs.size < b) : CsOk (gcx X s4 H2 cenv fp (B.deeper cenv)) cs := by
  obtain ⟨code, rfl⟩ := Z.env
  exact ⟨hy, rfl, fun x c e => (clo_old Z.inv ok e).2.2, rfl⟩
theorem made_asleep (Z : Made X pins σ elt tg iter ifs scope gpos J H2 a gn s4 s5 cenv fp it tn) (hc : X.calm = true) (hco : scope.isCoroutine = false) (ok : BlkOk X.N X.env.scope scope own) (nocell : ∀ y ∈ scope.names, y.2 ≠ .cell) (hN : X.N.Nodup)
    (hB : B.handled = none) (hBf : B.frames = X.A.frames)
    (hg : PG (gcx X s4 H2 cenv fp (B.deeper cenv)) tg g) (ht : PTs (gcx X s4 H2 cenv fp (B.deeper cenv)) ifs tt) (he : PE (gcx X s4 H2 cenv fp (B.deeper cenv)) elt te)
    (hy : ∀ b ∈ cs, s4.heap.objs.size < b) (hCR : Stable cs CR) (turn : Turns J g tt te (own.map (·.2)) σ on fin W) {m0 : Nat} (w0 : W 0 m0 [] H2) {s : Shared} (hs : Slept cs s5 s) (hsg : s.gens[gn]? = s5.gens[gn]?) :
    Asleep (model X.prog X.w) B (gcx X s4 H2 cenv fp (B.deeper cenv)) (wipe σ (own.map (·.2))) cs CR on fin gn m0 [] s := by
  refine ⟨.fresh (.compStart (.GeneratorExp elt [⟨tg, iter, ifs, 0⟩] scope gpos) 0 (.ref it) .none cenv), by rw [hsg, Z.gens, Z.num]; exact Array.getElem?_push_size .., fun s' hsl hst hcr => ⟨rfl, ?_⟩⟩
  have K := made_cs (B := B) Z ok hy
  obtain ⟨m1, hns⟩ := Z.ns
  have hco' : cenv.scope.isCoroutine = false := by
    obtain ⟨code, e⟩ := Z.env
    rw [e]
    exact hco
  have bare5 : AllBare s5.gens := by
    rw [Z.gens]
    exact Z.inv.bare.push rfl
  have I5 : Inv (gcx X s4 H2 cenv fp (B.deeper cenv)) [] (wipe σ (own.map (·.2))) H2 s5 := by
    obtain ⟨code, rfl⟩ := Z.env
    exact gen_start Z.inv ok nocell hN Z.fpok hB (by show Option.map _ B.frames = _; rw [hBf, Z.inv.ok.frames]; rfl) Z.kept hns Z.os bare5
  have hH : ∀ b ∈ cs, H2 b = none := fun b hb => Z.inv.hok.fresh (Nat.le_of_lt (hy b hb))
  have I6 := slept_inv (slept_inv I5 K hH hs) K hH hsl
  have ncs : ∀ b ∈ fp, b ∉ cs := fun b hb z => absurd (Nat.lt_trans (Z.fpok b hb).2 (hy b z)) (Nat.lt_irrefl _)
  have tn6 : tn 0 s'.heap := Z.turn.keep _ _ _ Z.at0 fun b hb o e => hsl.keep b o (ncs b hb) (hs.keep b o (ncs b hb) (Z.kept b o e))
  have loop := seg_gx (iter := iter) (scope := scope) (pos := gpos) hc Z.turn hco' (fun b hb => (Z.fpok b hb).2) hg ht he K hCR turn m0 m0 0 [] H2 s' s' (Nat.le_refl _) (I6.pinned (cs_fp I6 K hH) hst) hst tn6 (fun b hb => (Z.fpok b hb).1.1) hcr w0
  show Seg _ B _ _ _ s' _ ((compStart (.GeneratorExp elt [⟨tg, iter, ifs, 0⟩] scope gpos) 0 (.ref it) .none cenv).onRaise (leaving cenv)) [] s'
  unfold compStart
  rw [Sem.onRaise_eq_wrap]
  show Seg _ B _ _ _ s' _ ((ask >>= _).wrap _ _ _ _) [] s'
  refine seg_bind_wrap (wpAny_askSetting ?_)
  split
  · exact seg_again rfl loop
  · refine seg_bind_wrap (wpAny_rule ?_)
    show Seg _ B _ _ _ s' _ ((standAt iter.pos >>= _).wrap _ _ _ _) [] s'
    refine seg_bind_wrap (wpAny_standAt ?_)
    exact seg_bind_wrap (Z.turn.self _ 0 s' _ _ tn6 (seg_again rfl loop))
/-- back in the def's own frame -/
theorem made_back (Z : Made X pins σ elt tg iter ifs scope gpos J H2 a gn s4 s5 cenv fp it tn) {σw : L2.St} {H : Hp} {s s' : Shared} (I : Inv (gcx X s4 H2 cenv fp (B.deeper cenv)) [] σw H s) (hos : s'.os = s.os) (hb : AllBare s'.gens) (hk : ∀ b o, s.heap.get? b = some o → s'.heap.get? b = some o) : Inv X pins σ H s' :=
  Z.inv.call' (ch := fp) (hos.trans I.os) (I.base.trans (Un.kept hk)) (I.hok.kept hk) hb fun b hb => ⟨(Z.fpok b hb).1.2.2.2.1, (Z.fpok b hb).1.2.1, (Z.fpok b hb).1.2.2.2.2.1, (Z.fpok b hb).1.2.2.2.2.2⟩
/-- the consumer asks for the next item -/
theorem gx_next (Z : Made X pins σ elt tg iter ifs scope gpos J H2 a gn s4 s5 cenv fp it tn) {σw : L2.St} {A1 : Around} {n : Nat} {acc : List V} {s : Shared} {Q : Option Value → Shared → Prop} {E : Value → Shared → Prop}
    (hh : A1.handled = none) (hroom : A1.depth < recursionLimit) (hl : s.heap.NoLimit) (hgen : s.heap.IsGen a gn) (hb : AllBare s.gens) (S : Asleep (model X.prog X.w) A1.in1 (gcx X s4 H2 cenv fp (A1.in1.deeper cenv)) σw cs CR on fin gn n acc s) (hst : Stood cs s) (hcr : CR acc s)
    (hY : ∀ v y acc' H C s', RelV y v → Inv X pins σ H s' → AllBare s'.gens → (∀ b ∈ cs, ∀ o, s.heap.get? b = some o → s'.heap.get? b = some o) → CR acc' s' → on acc' y H C →
      (C → ∀ s'', Slept cs s' s'' → s''.gens[gn]? = s'.gens[gn]? → Stood cs s'' → CR (acc' ++ [y]) s'' → 0 < n ∧ Asleep (model X.prog X.w) A1.in1 (gcx X s4 H2 cenv fp (A1.in1.deeper cenv)) σw cs CR on fin gn (n - 1) (acc' ++ [y]) s'') → Q (some v) s')
    (hP : ∀ acc' H s', Inv X pins σ H s' → (∀ b ∈ cs, ∀ o, s.heap.get? b = some o → s'.heap.get? b = some o) → CR acc' s' → fin acc' H → Q none s') (hCR : Stable cs CR) :
    wpAny (model X.prog X.w) A1 (pyNext (.ref a)) Q E s := by
  obtain ⟨gs, hgs, hgo⟩ := S
  have hlt : gn < s.gens.size := by
    rcases Nat.lt_or_ge gn s.gens.size with z | z
    · exact z
    · rw [Array.getElem?_eq_none z] at hgs; cases hgs
  refine GenW.wpAny_gsz (n := gn + 1) hlt ?_
  refine wpAny_pyNext_genexpQ (P := GP (gcx X s4 H2 cenv fp (A1.in1.deeper cenv)) σw cs CR fin) (Y := GY (gcx X s4 H2 cenv fp (A1.in1.deeper cenv)) σw cs CR on) (n := n) hh hl hroom hgen hgs (hgo (s.setGen gn .running) ⟨rfl, setg_other s gn _ hb rfl, fun b o _ e => e⟩ hst (hCR acc s _ (fun _ _ _ e => e) hcr)) (fun v s₁ gs' hbs hv => ?_) (fun s₁ hp h' hkk => ?_)
  · intro hsz
    obtain ⟨acc', y, H, C, rv, I, hk, cr', ho, kap⟩ := hv
    have b1 := setg_other s₁ gn gs' I.bare hbs
    refine hY v y acc' H C _ rv (made_back Z I rfl b1 fun b o e => e) b1 (fun b hb o e => (hk b hb).2 o e) (hCR acc' s₁ _ (fun _ _ _ e => e) cr') ho fun hC s'' hsl hge hsd hcr2 => ?_
    have hsz' : gn < s₁.gens.size := by
      rw [GenW.setGen_size] at hsz
      exact hsz
    have e1 : (s₁.setGen gn gs').gens[gn]? = some gs' := by
      show (s₁.gens.setIfInBounds gn gs')[gn]? = some gs'
      rw [Array.getElem?_setIfInBounds_self_of_lt hsz']
    cases n with
    | zero =>
      exact (kap hC s'' (slept_set hsl) hsd hcr2).elim
    | succ n => exact ⟨Nat.succ_pos _, gs', hge.trans e1, fun s3 z1 z2 z3 => kap hC s3 ⟨z1.os.trans hsl.os, z1.bare, fun b o nb e => z1.keep b o nb (hsl.keep b o nb e)⟩ z2 z3⟩
  · intro _
    obtain ⟨acc', H, I, hk, cr', hf⟩ := hp
    refine hP acc' H _ (made_back Z I rfl (setg_other s₁ gn .finished I.bare rfl) fun b o e => hkk b o e) (fun b hb o e => hkk b o ((hk b hb).2 o e)) (hCR acc' s₁ _ (fun _ _ o e => hkk _ o e) cr') hf
end
end Gx
/-! all, sum and join over a generator expression -/
namespace Gx
open PySem PySem.Spec PyProof.Rows L2
/-- the rules of a generator expression's parts, in whatever frame it runs -/
structure Parts (X : Cx) (k : Nat) (c P : Addr) (elt tg : Expr) (ifs : List Expr) (scope : Scope) (own : List (Str × Nat)) (g : TG) (tt : TT) (te : TE) : Prop where
  tab : GxR.TabB X.base X.mg c P
  code : X.env.code = .ref c
  co : scope.isCoroutine = false
  ok : BlkOk X.N X.env.scope scope own
  nocell : ∀ y ∈ scope.names, y.2 ≠ .cell
  dot : scope.names.lookup (".0" : Str) = some NameKind.local
  calm : X.calm = true
  nd : X.N.Nodup
  pg : ∀ (s : Shared) (H : Hp) (C : Addr) (cl : List (Str × Addr)) (cd : Value) (fp : List Addr) (A : Around), PG (gcx X s H (genEnv scope cl C cd builtinsNs X.env) fp A) tg g
  pt : ∀ (s : Shared) (H : Hp) (C : Addr) (cl : List (Str × Addr)) (cd : Value) (fp : List Addr) (A : Around), Room k A → PTs (gcx X s H (genEnv scope cl C cd builtinsNs X.env) fp A) ifs tt
  pe : ∀ (s : Shared) (H : Hp) (C : Addr) (cl : List (Str × Addr)) (cd : Value) (fp : List Addr) (A : Around), Room k A → PE (gcx X s H (genEnv scope cl C cd builtinsNs X.env) fp A) elt te
/-- the reading: the table may have grown; then the turns -/
def tGx (P : Addr) (wi : TI) (g : TG) (tt : TT) (te : TE) (vs : List Nat) (on : VK → List V → V → Hp → Prop → Prop) (fin : VK → List V → Hp → Prop) : TE := fun σ H Q => wi σ H fun J H1 => GxR.TabG H1 P ∧ ∀ H2, GxR.Tabbed P H1 H2 →
  ∃ W : Nat → Nat → List V → Hp → Prop, (∃ m, W 0 m [] H2) ∧ Turns J g tt te vs σ (on Q) (fin Q) W
def onAll : VK → List V → V → Hp → Prop → Prop := fun Q _ y H C => ∃ b, y = .bl b ∧ if b = true then C else Q (.bl false) H
def finAll : VK → List V → Hp → Prop := fun Q _ H => Q (.bl true) H
def isum : List V → Int
  | [] => 0
  | .int i :: r => i + isum r
  | _ :: r => isum r
theorem isum_app : ∀ (a : List V) (i : Int), isum (a ++ [.int i]) = isum a + i
  | [], i => by show i + 0 = 0 + i; omega
  | .int j :: r, i => by show j + isum (r ++ [.int i]) = j + isum r + i; rw [isum_app r i]; omega
  | .non :: r, i => isum_app r i
  | .bl _ :: r, i => isum_app r i
  | .str _ :: r, i => isum_app r i
  | .byt _ :: r, i => isum_app r i
  | .flt _ :: r, i => isum_app r i
  | .ref _ :: r, i => isum_app r i
  | .ty _ :: r, i => isum_app r i
def onSum : VK → List V → V → Hp → Prop → Prop := fun _ acc y _ C => ∃ j, y = .int j ∧ (-(2 ^ 63) ≤ j ∧ j < 2 ^ 63) ∧ (-(2 ^ 63) ≤ isum acc + j ∧ isum acc + j < 2 ^ 63) ∧ C
def finSum : VK → List V → Hp → Prop := fun Q acc H => Q (.int (isum acc)) H
def onStr : VK → List V → V → Hp → Prop → Prop := fun _ acc y _ C => (∃ x, y = .str x) ∧ acc.length < sizeLine ∧ C
def finStr (sep : Str) : VK → List V → Hp → Prop := fun Q acc H => ∃ ws : List Str, acc = ws.map V.str ∧ JoinOk sep ws = true ∧ Q (.str (Txt.join sep ws)) H
section
variable {X : Cx} {pins : List (Addr × Obj)} {σ : L2.St} {elt tg iter : Expr} {ifs : List Expr} {scope : Scope} {gpos : Pos} {J : It} {H2 : Hp} {a gn : Nat} {s4 s5 : Shared} {cenv : Env} {fp : List Addr} {it : Addr} {tn : Nat → Heap → Prop} {own : List (Str × Nat)}
  {g : TG} {tt : TT} {te : TE} {k : Nat} {c P : Addr} {Q : VK} {W : Nat → Nat → List V → Hp → Prop}
theorem slept_keep {cs : List Addr} {s : Shared} {h' : Heap} {t' : Nat} (hb : AllBare s.gens) (hk : ∀ b o, b ∉ cs → s.heap.get? b = some o → h'.get? b = some o) : Slept cs s { s with heap := h', toks := t' } := ⟨rfl, hb, hk⟩
theorem gen_stood {a gn : Nat} {s : Shared} (h : s.heap.IsGen a gn) : ∃ o, s.heap.get? a = some o ∧ ∀ v, o.data ≠ .cell v := by
  obtain ⟨o, nm, qn, e, _, d, _⟩ := h
  exact ⟨o, e, fun v z => by rw [d] at z; cases z⟩
theorem gen_at {a gn : Nat} {s s' : Shared} (h : s.heap.IsGen a gn) (k : ∀ o, s.heap.get? a = some o → s'.heap.get? a = some o) : s'.heap.IsGen a gn := by
  obtain ⟨o, nm, qn, e, r⟩ := h
  exact ⟨o, nm, qn, k o e, r⟩
theorem all_loop (Z : Made X pins σ elt tg iter ifs scope gpos J H2 a gn s4 s5 cenv fp it tn) (hr : Room (k + 3) X.A) {σw : L2.St} : ∀ (n : Nat) (acc : List V) (s : Shared), s.heap.NoLimit → AllBare s.gens → s.heap.IsGen a gn →
    Asleep (model X.prog X.w) X.A.in1.in1 (gcx X s4 H2 cenv fp (X.A.in1.in1.deeper cenv)) σw [a] (fun _ s => s.heap.IsGen a gn) (onAll Q) (finAll Q) gn n acc s →
    codeAny (model X.prog X.w) X.A (.builtin "all.loop" ⟨[.ref a], []⟩) (fun r s' => ∃ v x H', r = .ok (.ret v) ∧ Inv X pins σ H' s' ∧ RelV x v ∧ Q x H') s := by
  have stab : Stable [a] (fun _ s => s.heap.IsGen a gn) := fun _ s s' hk h => gen_at h fun o e => hk a List.mem_cons_self o e
  intro n
  induction n with
  | zero =>
    intro acc s hl hb hg S
    refine codeAny_builtin F.entry_all_loop ?_
    rw [Around.under_plainId F.plain_all_loop _]
    show wpAny _ X.A.in1 (pyNext (.ref a) >>= _) _ _ s
    refine wpAny_bind (gx_next (A1 := X.A.in1) Z hr.hd (by have := hr.dp; show X.A.depth < _; omega) hl hg hb S (fun b hb => by rw [List.mem_singleton.mp hb]; exact gen_stood hg) hg (fun v y acc' H C s' rv I b' hk cr ho go => ?_) (fun acc' H s' I hk cr hf => ?_) stab)
    · obtain ⟨b, rfl, q⟩ := ho
      obtain rfl : v = Value.bool b := rv
      refine wpAny_bind (wpAny_holding (wpAny_truthy_bool ?_))
      refine wpAny_bind (wpAny_letGo ?_)
      cases b with
      | true =>
        rw [if_pos rfl] at q
        obtain ⟨z, _⟩ := go q s' ⟨rfl, b', fun _ _ _ e => e⟩ rfl (fun b hb => by rw [List.mem_singleton.mp hb]; exact gen_stood cr) cr
        exact absurd z (Nat.lt_irrefl _)
      | false =>
        rw [if_neg Bool.false_ne_true] at q
        simp only [Bool.false_eq_true, if_false]
        exact wpAny_bind (wpAny_rule (wpAny_pure ⟨_, .bl false, H, rfl, I, rfl, q⟩))
    · exact wpAny_bind (wpAny_rule (wpAny_pure ⟨_, .bl true, H, rfl, I, rfl, hf⟩))
  | succ n ih =>
    intro acc s hl hb hg S
    refine codeAny_builtin F.entry_all_loop ?_
    rw [Around.under_plainId F.plain_all_loop _]
    show wpAny _ X.A.in1 (pyNext (.ref a) >>= _) _ _ s
    refine wpAny_bind (gx_next (A1 := X.A.in1) Z hr.hd (by have := hr.dp; show X.A.depth < _; omega) hl hg hb S (fun b hb => by rw [List.mem_singleton.mp hb]; exact gen_stood hg) hg (fun v y acc' H C s' rv I b' hk cr ho go => ?_) (fun acc' H s' I hk cr hf => ?_) stab)
    · obtain ⟨b, rfl, q⟩ := ho
      obtain rfl : v = Value.bool b := rv
      refine wpAny_bind (wpAny_holding (wpAny_truthy_bool ?_))
      refine wpAny_bind (wpAny_letGo ?_)
      cases b with
      | true =>
        rw [if_pos rfl] at q
        obtain ⟨_, S'⟩ := go q s' ⟨rfl, b', fun _ _ _ e => e⟩ rfl (fun b hb => by rw [List.mem_singleton.mp hb]; exact gen_stood cr) cr
        simp only [if_true]
        exact wpAny_pure ⟨plainId_quiet F.plain_all_loop _, ih _ s' I.nolimit b' cr S'⟩
      | false =>
        rw [if_neg Bool.false_ne_true] at q
        simp only [Bool.false_eq_true, if_false]
        exact wpAny_bind (wpAny_rule (wpAny_pure ⟨_, .bl false, H, rfl, I, rfl, q⟩))
    · exact wpAny_bind (wpAny_rule (wpAny_pure ⟨_, .bl true, H, rfl, I, rfl, hf⟩))
theorem room_gen {A : Around} (hr : Room (k + 3) A) (env : Env) : Room k (A.in1.in1.deeper env) := (hr.in1.in1).deeper env
theorem Made.inv5 (Z : Made X pins σ elt tg iter ifs scope gpos J H2 a gn s4 s5 cenv fp it tn) : Inv X pins σ H2 s5 ∧ AllBare s5.gens := by
  have b5 : AllBare s5.gens := by
    rw [Z.gens]
    exact Z.inv.bare.push rfl
  exact ⟨Z.inv.call' (ch := []) Z.os (Un.kept Z.kept) (Z.inv.hok.kept Z.kept) b5 fun b hb => absurd hb (by simp), b5⟩
theorem boot_all_ : bootBuiltins "all" = some (.builtin "all") := by decide +kernel
theorem boot_sum_ : bootBuiltins "sum" = some (.builtin "sum") := by decide +kernel
theorem pe_allG {p pos : Pos} {wi : TI} (hr : Room (k + 3) X.A) (hg : Gl X "all") (hm : X.mg "all" = none) (D : Parts X k c P elt tg ifs scope own g tt te) (hi : PI X tg iter wi) (hs : ∀ v, genFold iter X.env v = pure v := by intro _; rfl)
    (he : starEach [.GeneratorExp elt [⟨tg, iter, ifs, 0⟩] scope gpos] X.env = (false, eval (.GeneratorExp elt [⟨tg, iter, ifs, 0⟩] scope gpos) X.env) :: starEach [] X.env := by rfl) :
    PE X (.Call (.Name "all" p) [.GeneratorExp elt [⟨tg, iter, ifs, 0⟩] scope gpos] [] pos) (tGx P wi g tt te (own.map (·.2)) onAll finAll) := by
  refine ⟨fun pins s σ H Q I h => ?_⟩
  refine wpAny_Call_Name_kw (ld_blt I hg hm boot_all_ ?_)
  refine PyProof.Rows.callWith_builtin1 ?_ he (by rfl)
  rw [he]
  show wpAny _ _ (spliced ((false, eval (.GeneratorExp elt [⟨tg, iter, ifs, 0⟩] scope gpos) X.env) :: backTo pos (starEach [] X.env))) _ _ s
  refine Calls.spliced_cons (gx_eval hr D.tab D.code D.co D.ok D.nocell D.dot hi hs I h fun J H2 a gn s4 s5 cenv fp it tn Z hR => ?_)
  obtain ⟨W, ⟨m0, w0⟩, turn⟩ := hR
  obtain ⟨I5, b5⟩ := Z.inv5
  refine Calls.spliced_nil ?_
  refine call_function_tree F.kind_all F.plain_all F.entry_all (F.args_all1 _) ?_
  unfold Builtin.«all»
  refine wpAny_bind (m := oneArg "all" _) (wpAny_pure ?_)
  refine wpAny_bind (wpAny_pyIter_gen Z.isgen ?_)
  have pp : PG (gcx X s4 H2 cenv fp (X.A.in1.in1.deeper cenv)) tg g ∧ PTs (gcx X s4 H2 cenv fp (X.A.in1.in1.deeper cenv)) ifs tt ∧ PE (gcx X s4 H2 cenv fp (X.A.in1.in1.deeper cenv)) elt te := by
    obtain ⟨cd, rfl⟩ := Z.env
    exact ⟨D.pg _ _ _ _ _ _ _, D.pt _ _ _ _ _ _ _ (room_gen hr _), D.pe _ _ _ _ _ _ _ (room_gen hr _)⟩
  have S := made_asleep (B := X.A.in1.in1) (cs := [a]) (CR := fun _ s => s.heap.IsGen a gn) Z D.calm D.co D.ok D.nocell D.nd hr.hd rfl pp.1 pp.2.1 pp.2.2 (fun b hb => by rw [List.mem_singleton.mp hb]; exact Z.young)
    (fun _ s s' hk h => gen_at h fun o e => hk a List.mem_cons_self o e) turn w0 (s := s5) ⟨rfl, b5, fun _ _ _ e => e⟩ rfl
  refine wpAny_pure ⟨plainId_quiet F.plain_all_loop _, codeAny_mono (all_loop Z hr m0 [] s5 I5.nolimit b5 Z.isgen S) fun r s' hx => ?_⟩
  obtain ⟨v, x, H', rfl, I', rv, q⟩ := hx
  exact ⟨x, H', I', rv, q⟩
end
end Gx
namespace Gx
open PySem PySem.Spec PyProof.Rows L2
/-! sum -/
abbrev sumObj (i : Int) (t : Tok) (c : Nat) : Obj := { cls := .type "list", dict := none, data := .seq #[.int i t] c, slots := #[] }
def CRsum (a gn S : Nat) (acc : List V) (s : Shared) : Prop := s.heap.IsGen a gn ∧ ∃ t c, s.heap.get? S = some (sumObj (isum acc) t c)
section
variable {X : Cx} {pins : List (Addr × Obj)} {σ : L2.St} {elt tg iter : Expr} {ifs : List Expr} {scope : Scope} {gpos : Pos} {J : It} {H2 : Hp} {a gn : Nat} {s4 s5 : Shared} {cenv : Env} {fp : List Addr} {it : Addr} {tn : Nat → Heap → Prop} {own : List (Str × Nat)}
  {g : TG} {tt : TT} {te : TE} {k : Nat} {c P : Addr} {Q : VK} {W : Nat → Nat → List V → Hp → Prop} {S : Nat}
theorem crsum_stable : Stable [a, S] (CRsum a gn S) := fun acc s s' hk h => by
  obtain ⟨h1, t, c, h2⟩ := h
  exact ⟨gen_at h1 fun o e => hk a List.mem_cons_self o e, t, c, hk S (List.mem_cons_of_mem _ List.mem_cons_self) _ h2⟩
theorem crsum_stood {acc : List V} {s : Shared} (h : CRsum a gn S acc s) : Stood [a, S] s := fun b hb => by
  obtain ⟨h1, t, c, h2⟩ := h
  rcases List.mem_cons.mp hb with z | z
  · rw [z]; exact gen_stood h1
  · rw [List.mem_singleton.mp z]; exact ⟨_, h2, fun v q => by cases q⟩
theorem sum_loop (Z : Made X pins σ elt tg iter ifs scope gpos J H2 a gn s4 s5 cenv fp it tn) (hr : Room (k + 3) X.A) {σw : L2.St} (haS : a ≠ S) : ∀ (n : Nat) (acc : List V) (s : Shared), s.heap.NoLimit → AllBare s.gens → CRsum a gn S acc s →
    Asleep (model X.prog X.w) X.A.in1.in1 (gcx X s4 H2 cenv fp (X.A.in1.in1.deeper cenv)) σw [a, S] (CRsum a gn S) (onSum Q) (finSum Q) gn n acc s →
    codeAny (model X.prog X.w) X.A (.builtin "sum.loop" ⟨[.ref a, .ref S, rawInt 0, rawInt 0], []⟩) (fun r s' => ∃ v x H', r = .ok (.ret v) ∧ Inv X pins σ H' s' ∧ RelV x v ∧ Q x H') s := by
  intro n
  induction n with
  | zero =>
    intro acc s hl hb hcr A0
    obtain ⟨hg, tA, cA, hS⟩ := _root_.id hcr
    refine codeAny_builtin F.entry_sum_loop ?_
    rw [Around.under_plainId F.plain_sum_loop _]
    show wpAny _ X.A.in1 (seqItems? (.ref S) >>= _) _ _ s
    refine wpAny_bind (wpAny_seqItems hS rfl ?_)
    show wpAny _ X.A.in1 (tryCatch (pyNext (.ref a)) _ >>= _) _ _ s
    refine wpAny_bind (wpAny_tryCatch (gx_next (A1 := X.A.in1) Z hr.hd (by have := hr.dp; show X.A.depth < _; omega) hl hg hb A0 (crsum_stood hcr) hcr (fun v y acc' H C s' rv I b' hk cr ho go => ?_) (fun acc' H s' I hk cr hf => ?_) crsum_stable))
    · obtain ⟨j, rfl, hj, hj2, hC⟩ := ho
      obtain ⟨hg', t', c', hS'⟩ := _root_.id cr
      have hup : ∀ b o, b ≠ S → s'.heap.get? b = some o → (s'.heap.update S (Obj.mapSeq fun _ => #[.int (isum acc' + j) s'.toks])).get? b = some o := fun b o hb e => (Heap.get?_update_other _ _ (Ne.symm hb)).trans e
      have hS2 := Heap.get?_update_self (Obj.mapSeq fun _ => #[.int (isum acc' + j) s'.toks]) hS' rfl
      have cr2 : CRsum a gn S (acc' ++ [.int j]) { s' with heap := s'.heap.update S (Obj.mapSeq fun _ => #[.int (isum acc' + j) s'.toks]), toks := s'.toks + 1 } := ⟨gen_at hg' fun o e => hup a o haS e, s'.toks, _, by rw [isum_app]; exact hS2⟩
      obtain ⟨z, _⟩ := go hC { s' with heap := s'.heap.update S (Obj.mapSeq fun _ => #[.int (isum acc' + j) s'.toks]), toks := s'.toks + 1 } (slept_keep b' fun b o hb e => hup b o (fun z => hb (by rw [z]; exact List.mem_cons_of_mem _ List.mem_cons_self)) e) rfl (crsum_stood cr2) cr2
      exact absurd z (Nat.lt_irrefl _)
    · obtain ⟨_, t', c', hS'⟩ := _root_.id cr
      have e := hk S (List.mem_cons_of_mem _ List.mem_cons_self) _ hS
      rw [hS'] at e
      have e2 : isum acc' = isum acc := by
        have e3 := congrArg (fun o => match o with | some ob => ob.data | none => .plain) e
        injection e3 with e4 _
        have e5 := congrArg (fun l => l.toList) e4
        injection e5 with e6 _
        injection e6
      refine wpAny_pure ⟨_, .int (isum acc), H, rfl, I, ⟨_, rfl⟩, ?_⟩
      rw [← e2]
      exact hf
  | succ n ih =>
    intro acc s hl hb hcr A0
    obtain ⟨hg, tA, cA, hS⟩ := _root_.id hcr
    refine codeAny_builtin F.entry_sum_loop ?_
    rw [Around.under_plainId F.plain_sum_loop _]
    show wpAny _ X.A.in1 (seqItems? (.ref S) >>= _) _ _ s
    refine wpAny_bind (wpAny_seqItems hS rfl ?_)
    show wpAny _ X.A.in1 (tryCatch (pyNext (.ref a)) _ >>= _) _ _ s
    refine wpAny_bind (wpAny_tryCatch (gx_next (A1 := X.A.in1) Z hr.hd (by have := hr.dp; show X.A.depth < _; omega) hl hg hb A0 (crsum_stood hcr) hcr (fun v y acc' H C s' rv I b' hk cr ho go => ?_) (fun acc' H s' I hk cr hf => ?_) crsum_stable))
    · obtain ⟨j, rfl, hj, hj2, hC⟩ := ho
      obtain ⟨t, rfl⟩ : ∃ t, v = Value.int j t := rv
      obtain ⟨hg', t', c', hS'⟩ := _root_.id cr
      have e := hk S (List.mem_cons_of_mem _ List.mem_cons_self) _ hS
      have e2 : isum acc' = isum acc := by
        rw [hS'] at e
        have e3 := congrArg (fun o => match o with | some ob => ob.data | none => .plain) e
        injection e3 with e4 _
        have e5 := congrArg (fun l => l.toList) e4
        injection e5 with e6 _
        injection e6
      rw [e2] at hj2 hS'
      have hup : ∀ b o, b ≠ S → s'.heap.get? b = some o → (s'.heap.update S (Obj.mapSeq fun _ => #[.int (isum acc + j) s'.toks])).get? b = some o := fun b o hb e => (Heap.get?_update_other _ _ (Ne.symm hb)).trans e
      have hS2 := Heap.get?_update_self (Obj.mapSeq fun _ => #[.int (isum acc + j) s'.toks]) hS' rfl
      have hcc : ((decide (-(2 ^ 63) ≤ j) && decide (j < 2 ^ 63)) && (decide (-(2 ^ 63) ≤ isum acc + j) && decide (isum acc + j < 2 ^ 63))) = true := by
        simp only [Bool.and_eq_true, decide_eq_true_eq]
        exact ⟨hj, hj2⟩
      show wpAny _ X.A.in1 (if (_ : Bool) = true then (mkInt (isum acc + j) >>= _) else _) _ _ _
      split
      · refine wpAny_bind (wpAny_mkInt ?_)
        show wpAny _ X.A.in1 (updateSeq S (fun _ => #[.int (isum acc + j) s'.toks]) >>= _) _ _ _
        refine wpAny_bind ?_
        have cr2 : ∀ tk, CRsum a gn S (acc' ++ [.int j]) { s' with heap := s'.heap.update S (Obj.mapSeq fun _ => #[.int (isum acc + j) s'.toks]), toks := tk } := fun tk => ⟨gen_at hg' fun o e => hup a o haS e, s'.toks, _, by rw [isum_app, e2]; exact hS2⟩
        have sl : ∀ tk, Slept [a, S] s' { s' with heap := s'.heap.update S (Obj.mapSeq fun _ => #[.int (isum acc + j) s'.toks]), toks := tk } := fun tk => slept_keep b' fun b o hb e => hup b o (fun z => hb (by rw [z]; exact List.mem_cons_of_mem _ List.mem_cons_self)) e
        refine wpAny_updateSeq hS' rfl (wpAny_pure ⟨plainId_quiet F.plain_sum_loop _, ?_⟩)
        have A1 := (go hC _ (sl (s'.toks + 1)) rfl (crsum_stood (cr2 _)) (cr2 _)).2
        have lim : s'.heap.NoLimit := I.nolimit
        refine ih _ _ ?_ b' (cr2 _) A1
        obtain ⟨mc, hns, hnn⟩ := lim
        refine ⟨mc, hns.at' fun o e => hup _ o (fun z => ?_) e, hnn⟩
        obtain ⟨o2, _, _, e3, d3, _⟩ := hns
        rw [z, hS'] at e3
        cases e3
        cases d3
      · rename_i hneg
        exact absurd hcc hneg
    · obtain ⟨_, t', c', hS'⟩ := _root_.id cr
      have e := hk S (List.mem_cons_of_mem _ List.mem_cons_self) _ hS
      rw [hS'] at e
      have e2 : isum acc' = isum acc := by
        have e3 := congrArg (fun o => match o with | some ob => ob.data | none => .plain) e
        injection e3 with e4 _
        have e5 := congrArg (fun l => l.toList) e4
        injection e5 with e6 _
        injection e6
      refine wpAny_pure ⟨_, .int (isum acc), H, rfl, I, ⟨_, rfl⟩, ?_⟩
      rw [← e2]
      exact hf
theorem pe_sumG {p pos : Pos} {wi : TI} (hr : Room (k + 3) X.A) (hg : Gl X "sum") (hm : X.mg "sum" = none) (D : Parts X k c P elt tg ifs scope own g tt te) (hi : PI X tg iter wi) (hs : ∀ v, genFold iter X.env v = pure v := by intro _; rfl)
    (he : starEach [.GeneratorExp elt [⟨tg, iter, ifs, 0⟩] scope gpos] X.env = (false, eval (.GeneratorExp elt [⟨tg, iter, ifs, 0⟩] scope gpos) X.env) :: starEach [] X.env := by rfl) :
    PE X (.Call (.Name "sum" p) [.GeneratorExp elt [⟨tg, iter, ifs, 0⟩] scope gpos] [] pos) (tGx P wi g tt te (own.map (·.2)) onSum finSum) := by
  refine ⟨fun pins s σ H Q I h => ?_⟩
  refine wpAny_Call_Name_kw (ld_blt I hg hm boot_sum_ ?_)
  refine PyProof.Rows.callWith_builtin1 ?_ he (by rfl)
  rw [he]
  show wpAny _ _ (spliced ((false, eval (.GeneratorExp elt [⟨tg, iter, ifs, 0⟩] scope gpos) X.env) :: backTo pos (starEach [] X.env))) _ _ s
  refine Calls.spliced_cons (gx_eval hr D.tab D.code D.co D.ok D.nocell D.dot hi hs I h fun J H2 a gn s4 s5 cenv fp it tn Z hR => ?_)
  obtain ⟨W, ⟨m0, w0⟩, turn⟩ := hR
  obtain ⟨I5, b5⟩ := Z.inv5
  refine Calls.spliced_nil ?_
  refine call_function_tree F.kind_sum F.plain_sum F.entry_sum (F.args_sum1 _) ?_
  unfold Builtin.«sum»
  simp only [List.length_cons, List.length_nil]
  rw [if_neg (by decide)]
  refine wpAny_bind (wpAny_of_eq (show Builtin.Builtins.bindParams "sum" ["start"] 0 { } = pure [none] from rfl) ?_)
  refine wpAny_bind (wpAny_pyIter_gen Z.isgen ?_)
  refine wpAny_bind (wpAny_mkInt ?_)
  refine wpAny_bind (wpAny_pure ?_)
  simp only [List.forIn_cons, List.forIn_nil]
  refine wpAny_bind (wpAny_bind (wpAny_bind (wpAny_isInstance (T := "int") (b := false) (typeIs_int _ _ _) PySem.sub_int_str ?_)))
  simp only [Bool.false_eq_true, if_false]
  refine wpAny_pure (wpAny_bind (wpAny_bind (wpAny_isInstance (T := "int") (b := false) (typeIs_int _ _ _) PySem.sub_int_bytes ?_)))
  simp only [Bool.false_eq_true, if_false]
  refine wpAny_pure (wpAny_bind (wpAny_bind (wpAny_isInstance (T := "int") (b := false) (typeIs_int _ _ _) PySem.sub_int_bytearray ?_)))
  simp only [Bool.false_eq_true, if_false]
  refine wpAny_pure (wpAny_pure ?_)
  refine wpAny_bind (wpAny_newObj_type ?_)
  have pp : PG (gcx X s4 H2 cenv fp (X.A.in1.in1.deeper cenv)) tg g ∧ PTs (gcx X s4 H2 cenv fp (X.A.in1.in1.deeper cenv)) ifs tt ∧ PE (gcx X s4 H2 cenv fp (X.A.in1.in1.deeper cenv)) elt te := by
    obtain ⟨cd, rfl⟩ := Z.env
    exact ⟨D.pg _ _ _ _ _ _ _, D.pt _ _ _ _ _ _ _ (room_gen hr _), D.pe _ _ _ _ _ _ _ (room_gen hr _)⟩
  have hSa : s5.heap.objs.size = a + 1 := Z.size
  have hya := Z.young
  have ya : ∀ b ∈ [a, s5.heap.objs.size], s4.heap.objs.size < b := fun b hb => by
    rcases List.mem_cons.mp hb with z | z
    · rw [z]; exact hya
    · rw [List.mem_singleton.mp z]; exact Nat.lt_of_lt_of_le hya (by omega)
  have kp : ∀ (o' : Obj) b o, s5.heap.get? b = some o → (s5.heap.push o').get? b = some o := fun o' b o e => Heap.get?_push_of_some _ e
  refine wpAny_pure ⟨plainId_quiet F.plain_sum_loop _, codeAny_mono (sum_loop Z hr (S := s5.heap.objs.size) (by omega) m0 [] _ (I5.nolimit.push _) b5 ⟨gen_at Z.isgen fun o e => kp _ _ _ e, _, _, Heap.get?_push_size _ rfl⟩
    (made_asleep (B := X.A.in1.in1) (cs := [a, s5.heap.objs.size]) (CR := CRsum a gn s5.heap.objs.size) Z D.calm D.co D.ok D.nocell D.nd hr.hd rfl pp.1 pp.2.1 pp.2.2 ya crsum_stable turn w0 (slept_keep b5 fun b o _ e => kp _ b o e) rfl)) fun r s' hx => ?_⟩
  obtain ⟨v, x, H', rfl, I', rv, q⟩ := hx
  exact ⟨x, H', I', rv, q⟩
end
end Gx
namespace Gx
open PySem PySem.Spec PyProof.Rows L2
/-! sep.join(..) -/
abbrev lsObj (xs : Array Value) (c : Nat) : Obj := { cls := .type "list", dict := none, data := .seq xs c, slots := #[] }
def CRlst (a gn S : Nat) (acc : List V) (s : Shared) : Prop := s.heap.IsGen a gn ∧ ∃ xs c, Vals acc xs.toList ∧ s.heap.get? S = some (lsObj xs c)
section
variable {X : Cx} {pins : List (Addr × Obj)} {σ : L2.St} {elt tg iter : Expr} {ifs : List Expr} {scope : Scope} {gpos : Pos} {J : It} {H2 : Hp} {a gn : Nat} {s4 s5 : Shared} {cenv : Env} {fp : List Addr} {it : Addr} {tn : Nat → Heap → Prop} {own : List (Str × Nat)}
  {g : TG} {tt : TT} {te : TE} {k : Nat} {c P : Addr} {Q : VK} {W : Nat → Nat → List V → Hp → Prop} {S : Nat} {sep : Str}
theorem crlst_stable : Stable [a, S] (CRlst a gn S) := fun acc s s' hk h => by
  obtain ⟨h1, xs, c, hv, h2⟩ := h
  exact ⟨gen_at h1 fun o e => hk a List.mem_cons_self o e, xs, c, hv, hk S (List.mem_cons_of_mem _ List.mem_cons_self) _ h2⟩
theorem crlst_stood {acc : List V} {s : Shared} (h : CRlst a gn S acc s) : Stood [a, S] s := fun b hb => by
  obtain ⟨h1, xs, c, _, h2⟩ := h
  rcases List.mem_cons.mp hb with z | z
  · rw [z]; exact gen_stood h1
  · rw [List.mem_singleton.mp z]; exact ⟨_, h2, fun v q => by cases q⟩
theorem ext_loop (Z : Made X pins σ elt tg iter ifs scope gpos J H2 a gn s4 s5 cenv fp it tn) (hr : Room (k + 4) X.A) {σw : L2.St} (haS : a ≠ S) : ∀ (n : Nat) (acc : List V) (s : Shared), s.heap.NoLimit → AllBare s.gens → CRlst a gn S acc s →
    Asleep (model X.prog X.w) X.A.in1.in1.in1 (gcx X s4 H2 cenv fp (X.A.in1.in1.in1.deeper cenv)) σw [a, S] (CRlst a gn S) (onStr Q) (finStr sep Q) gn n acc s →
    codeAny (model X.prog X.w) X.A.in1 (.builtin "list.extend.loop" ⟨[.ref S, .ref a, .ref S], []⟩) (fun r s' => r = .ok (.ret (.ref S)) ∧ ∃ acc H xs c, Inv X pins σ H s' ∧ Vals acc xs.toList ∧ s'.heap.get? S = some (lsObj xs c) ∧ finStr sep Q acc H) s := by
  intro n
  induction n with
  | zero =>
    intro acc s hl hb hcr A0
    refine codeAny_builtin F.entry_extend_loop ?_
    rw [Around.under_plainId F.plain_extend_loop _]
    show wpAny _ X.A.in1.in1 (pyNext (.ref a) >>= _) _ _ s
    refine wpAny_bind (gx_next (A1 := X.A.in1.in1) Z hr.hd (by have := hr.dp; show X.A.depth < _; omega) hl hcr.1 hb A0 (crlst_stood hcr) hcr (fun v y acc' H C s' rv I b' hk cr ho go => ?_) (fun acc' H s' I hk cr hf => ?_) crlst_stable)
    · obtain ⟨⟨x, rfl⟩, hsz, hC⟩ := ho
      obtain ⟨hg', xs, c', hv, hS'⟩ := _root_.id cr
      have hup : ∀ b o, b ≠ S → s'.heap.get? b = some o → (s'.heap.update S (Obj.mapSeq (·.push v))).get? b = some o := fun b o hb e => (Heap.get?_update_other _ _ (Ne.symm hb)).trans e
      have hS2 := Heap.get?_update_self (Obj.mapSeq (·.push v)) hS' rfl
      have cr2 : CRlst a gn S (acc' ++ [.str x]) { s' with heap := s'.heap.update S (Obj.mapSeq (·.push v)), toks := s'.toks } := ⟨gen_at hg' fun o e => hup a o haS e, xs.push v, _, by rw [Array.toList_push]; exact hv.append (.cons rv .nil), hS2⟩
      obtain ⟨z, _⟩ := go hC { s' with heap := s'.heap.update S (Obj.mapSeq (·.push v)), toks := s'.toks } (slept_keep b' fun b o hb e => hup b o (fun z => hb (by rw [z]; exact List.mem_cons_of_mem _ List.mem_cons_self)) e) rfl (crlst_stood cr2) cr2
      exact absurd z (Nat.lt_irrefl _)
    · obtain ⟨_, xs, c', hv, hS'⟩ := cr
      exact wpAny_pure ⟨rfl, acc', H, xs, c', I, hv, hS', hf⟩
  | succ n ih =>
    intro acc s hl hb hcr A0
    refine codeAny_builtin F.entry_extend_loop ?_
    rw [Around.under_plainId F.plain_extend_loop _]
    show wpAny _ X.A.in1.in1 (pyNext (.ref a) >>= _) _ _ s
    refine wpAny_bind (gx_next (A1 := X.A.in1.in1) Z hr.hd (by have := hr.dp; show X.A.depth < _; omega) hl hcr.1 hb A0 (crlst_stood hcr) hcr (fun v y acc' H C s' rv I b' hk cr ho go => ?_) (fun acc' H s' I hk cr hf => ?_) crlst_stable)
    · obtain ⟨⟨x, rfl⟩, hsz, hC⟩ := ho
      obtain ⟨hg', xs, c', hv, hS'⟩ := _root_.id cr
      have hup : ∀ b o, b ≠ S → s'.heap.get? b = some o → (s'.heap.update S (Obj.mapSeq (·.push v))).get? b = some o := fun b o hb e => (Heap.get?_update_other _ _ (Ne.symm hb)).trans e
      have hS2 := Heap.get?_update_self (Obj.mapSeq (·.push v)) hS' rfl
      have hxl : xs.size = acc'.length := by
        have := hv.length
        rw [this, Array.length_toList]
      have cr2 : ∀ tk, CRlst a gn S (acc' ++ [.str x]) { s' with heap := s'.heap.update S (Obj.mapSeq (·.push v)), toks := tk } := fun tk => ⟨gen_at hg' fun o e => hup a o haS e, xs.push v, _, by rw [Array.toList_push]; exact hv.append (.cons rv .nil), hS2⟩
      have sl : ∀ tk, Slept [a, S] s' { s' with heap := s'.heap.update S (Obj.mapSeq (·.push v)), toks := tk } := fun tk => slept_keep b' fun b o hb e => hup b o (fun z => hb (by rw [z]; exact List.mem_cons_of_mem _ List.mem_cons_self)) e
      show wpAny _ X.A.in1.in1 (updateSeq S (·.push v) >>= _) _ _ _
      refine wpAny_bind ?_
      refine wpAny_updateSeq hS' rfl (wpAny_pure ⟨plainId_quiet F.plain_extend_loop _, ?_⟩) (by omega) (by show (xs.push v).size ≤ sizeLine + 1; rw [Array.size_push]; omega)
      refine ih _ _ ?_ b' (cr2 _) (go hC _ (sl _) rfl (crlst_stood (cr2 _)) (cr2 _)).2
      obtain ⟨mc, hns, hnn⟩ := I.nolimit
      refine ⟨mc, hns.at' fun o e => hup _ o (fun z => ?_) e, hnn⟩
      obtain ⟨o2, _, _, e3, d3, _⟩ := hns
      rw [z, hS'] at e3
      cases e3
      cases d3
    · obtain ⟨_, xs, c', hv, hS'⟩ := cr
      exact wpAny_pure ⟨rfl, acc', H, xs, c', I, hv, hS', hf⟩
theorem strs_of : ∀ {ws : List Str} {vs : List Value}, Vals (ws.map V.str) vs → ∃ l : List (Str × Tok), strValues l = vs ∧ l.map (·.1) = ws
  | [], _, .nil => ⟨[], rfl, rfl⟩
  | w :: r, _, .cons h t => by
    obtain ⟨u, rfl⟩ := (show ∃ u, _ = Value.str w u from h)
    obtain ⟨l, e1, e2⟩ := strs_of t
    exact ⟨(w, u) :: l, by rw [← e1]; rfl, by rw [← e2]; rfl⟩
/-- the reading of sep.join(..) -/
def tJoinGx (P : Addr) (to : TE) (wi : TI) (g : TG) (tt : TT) (te : TE) (vs : List Nat) : TE := fun σ H Q => to σ H fun v H0 => ∃ sep : Str, v = .str sep ∧ tGx P wi g tt te vs onStr (finStr sep) σ H0 Q
theorem pe_joinG {o : Expr} {apos cpos : Pos} {to : TE} {wi : TI} (hr : Room (k + 4) X.A) (ho : PE X o to) (D : Parts X k c P elt tg ifs scope own g tt te) (hi : PI X tg iter wi) (hs : ∀ v, genFold iter X.env v = pure v := by intro _; rfl)
    (he : starEach [.GeneratorExp elt [⟨tg, iter, ifs, 0⟩] scope gpos] X.env = (false, eval (.GeneratorExp elt [⟨tg, iter, ifs, 0⟩] scope gpos) X.env) :: starEach [] X.env := by rfl)
    (hbase : attributeBase o "join" X.env (eval o X.env) = eval o X.env := by rfl) (hline : (apos.endLine == cpos.line) = true := by rfl)
    (hfew : ((backTo cpos (starEach [.GeneratorExp elt [⟨tg, iter, ifs, 0⟩] scope gpos] X.env)).all (fun x => !x.1) && (backToKw cpos (keywordEach [] X.env)).all (fun x => x.1.isSome) && decide (([.GeneratorExp elt [⟨tg, iter, ifs, 0⟩] scope gpos] : List Expr).length + ([] : List Keyword).length + (if ([] : List Keyword).isEmpty then 0 else 1) < 30)) = true := by rfl)
    (hplain : (backTo cpos (starEach [] X.env)).any (·.1) = false := by rfl) :
    PE X (.Call (.Attribute o "join" apos) [.GeneratorExp elt [⟨tg, iter, ifs, 0⟩] scope gpos] [] cpos) (tJoinGx P to wi g tt te (own.map (·.2))) := by
  refine ⟨fun pins s σ H Q I h => ?_⟩
  refine wpAny_Call_method_late hbase hfew hline rfl (thn (ho.run pins s σ H _ I h) fun v s1 hv1 => ?_)
  obtain ⟨_, H1, I1, r1, sep, rfl, q1⟩ := hv1
  obtain ⟨tk, rfl⟩ := (show ∃ t, v = Value.str sep t from r1)
  refine ⟨"str", _, PySem.F.plainAttrs_str, PySem.F.slot_str_join, PySem.F.type_str_join, typeIs_str _ _ _, (fun _ e => nomatch e), ?_⟩
  rw [he]
  refine Calls.callWith_builtin (by show (false || (backTo cpos (starEach [] X.env)).any (·.1)) = false; rw [hplain] <;> rfl) (Calls.evalArgs_plain ?_)
  show wpAny _ _ (spliced ((false, eval (.GeneratorExp elt [⟨tg, iter, ifs, 0⟩] scope gpos) X.env) :: backTo cpos (starEach [] X.env))) _ _ s1
  refine Calls.spliced_cons (gx_eval hr D.tab D.code D.co D.ok D.nocell D.dot hi hs I1 q1 fun J H2 a gn s4 s5 cenv fp it tn Z hR => ?_)
  obtain ⟨W, ⟨m0, w0⟩, turn⟩ := hR
  obtain ⟨I5, b5⟩ := Z.inv5
  refine Calls.spliced_nil ?_
  refine wpAny_call (codeAny_call_builtin F.slot_str_join.plain F.entry_str_join (F.slot_str_join.check _ _ _ _ _ _ _ _ (typeIs_str _ _ _) (F.args_str_join_2 _ _) ?_))
  show wpAny _ X.A.in1 (Builtin.«str.join» ⟨[.str sep tk, .ref a], []⟩) _ _ s5
  rw [join_tree_other]
  refine wpAny_bind (wpAny_typeOf Z.isgen.typeIs ?_)
  show wpAny _ X.A.in1 ((pyIter (.ref a)).tryCatch _ >>= fun it => collect it >>= fun items => joinTail sep items) _ _ s5
  refine wpAny_bind (wpAny_tryCatch (wpAny_pyIter_gen Z.isgen ?_))
  have hSa : s5.heap.objs.size = a + 1 := Z.size
  have hya := Z.young
  have hSI : s5.heap.objs.size ≠ a := by omega
  have pp : PG (gcx X s4 H2 cenv fp (X.A.in1.in1.in1.deeper cenv)) tg g ∧ PTs (gcx X s4 H2 cenv fp (X.A.in1.in1.in1.deeper cenv)) ifs tt ∧ PE (gcx X s4 H2 cenv fp (X.A.in1.in1.in1.deeper cenv)) elt te := by
    obtain ⟨cd, rfl⟩ := Z.env
    exact ⟨D.pg _ _ _ _ _ _ _, D.pt _ _ _ _ _ _ _ (room_gen hr.in1 _), D.pe _ _ _ _ _ _ _ (room_gen hr.in1 _)⟩
  unfold collect
  refine wpAny_bind (wpAny_bind (wpAny_runValue (codeAny_builtin F.entry_proto_collect ?_)))
  rw [Around.under_plainId F.plain_proto_collect _]
  show wpAny _ X.A.in1.in1 (newList [] >>= fun l => again (.builtin "list.__iadd__" ⟨[l, .ref a], []⟩)) _ _ s5
  refine wpAny_bind (wpAny_newObj_type ?_)
  refine wpAny_pure ⟨plainId_quiet F.plain_list_iadd _, codeAny_builtin F.entry_list_iadd ?_⟩
  rw [Around.under_plainId F.plain_list_iadd _]
  have g1 : (s5.heap.push { cls := .type "list", data := .seq ([] : List Value).toArray }).IsGen a gn := Z.isgen.push _
  show wpAny _ X.A.in1.in1 (Builtin.List.listExtendWith (.ref s5.heap.objs.size) (.ref a) (.ref s5.heap.objs.size)) _ _ _
  unfold Builtin.List.listExtendWith
  refine wpAny_bind (wpAny_typeOf (Heap.IsGen.typeIs (s := { s5 with heap := s5.heap.push { cls := .type "list", data := .seq ([] : List Value).toArray } }) g1) ?_)
  have h1 : Builtin.List.listSameRef (.ref s5.heap.objs.size) (.ref a) = false := by simp [Builtin.List.listSameRef, hSI]
  have h2 : (Value.type "generator" == Value.type "list") = false := by decide
  have h3 : (Value.type "generator" == Value.type "tuple") = false := by decide
  simp only [h1, h2, h3, Bool.or_false, Bool.false_eq_true, if_false]
  refine wpAny_bind (wpAny_pyIter_gen g1 ?_)
  refine wpAny_bind (wpAny_holding ?_)
  unfold Builtin.List.listLengthHint
  refine wpAny_bind (wpAny_specialOf (Heap.IsGen.typeIs (s := { s5 with heap := s5.heap.push { cls := .type "list", data := .seq ([] : List Value).toArray } }) g1) F.gen_no_len ?_)
  show wpAny _ X.A.in1.in1 (specialOf (Value.ref a) (Str.ofString "__length_hint__") >>= _) _ _ _
  refine wpAny_bind (wpAny_specialOf (Heap.IsGen.typeIs (s := { s5 with heap := s5.heap.push { cls := .type "list", data := .seq ([] : List Value).toArray } }) g1) F.gen_no_hint ?_)
  refine wpAny_pure ?_
  show wpAny _ X.A.in1.in1 (rule "list.extend.makes-room" >>= fun _ => Builtin.List.listTouch (.ref s5.heap.objs.size) >>= fun _ => again (.builtin "list.extend.loop" ⟨[.ref s5.heap.objs.size, .ref a, .ref s5.heap.objs.size], []⟩)) _ _ _
  refine wpAny_bind (wpAny_rule ?_)
  have k1 : (s5.heap.push { cls := .type "list", data := .seq ([] : List Value).toArray }).get? s5.heap.objs.size = some { cls := .type "list", data := .seq ([] : List Value).toArray } := Heap.get?_push_size _ rfl
  refine wpAny_bind ?_
  show wpAny _ X.A.in1.in1 (updateSeq s5.heap.objs.size (·.push .none) >>= fun _ => updateSeq s5.heap.objs.size (·.pop)) _ _ _
  refine wpAny_bind (wpAny_updateSeq k1 rfl ?_)
  have k2 := Heap.get?_update_self (Obj.mapSeq (·.push Value.none)) k1 rfl
  refine wpAny_updateSeq k2 rfl ?_
  have k3 := Heap.get?_update_self (Obj.mapSeq (·.pop)) k2 rfl
  have oth : ∀ b o, b ≠ s5.heap.objs.size → s5.heap.get? b = some o →
      (((s5.heap.push { cls := .type "list", data := .seq ([] : List Value).toArray }).update s5.heap.objs.size (Obj.mapSeq (·.push Value.none))).update s5.heap.objs.size (Obj.mapSeq (·.pop))).get? b = some o :=
    fun b o hb e => (Heap.get?_update_other _ _ (Ne.symm hb)).trans ((Heap.get?_update_other _ _ (Ne.symm hb)).trans (Heap.get?_push_of_some _ e))
  have ya : ∀ b ∈ [a, s5.heap.objs.size], s4.heap.objs.size < b := fun b hb => by
    rcases List.mem_cons.mp hb with z | z
    · rw [z]; exact hya
    · rw [List.mem_singleton.mp z]; exact Nat.lt_of_lt_of_le hya (by omega)
  refine wpAny_pure ⟨plainId_quiet F.plain_extend_loop _, codeAny_mono (ext_loop (S := s5.heap.objs.size) (sep := sep) Z hr (Ne.symm hSI) m0 [] _ ?_ b5 ⟨gen_at Z.isgen fun o e => oth a o (Ne.symm hSI) e, _, _, .nil, k3⟩
    (made_asleep (B := X.A.in1.in1.in1) (cs := [a, s5.heap.objs.size]) (CR := CRlst a gn s5.heap.objs.size) Z D.calm D.co D.ok D.nocell D.nd hr.hd rfl pp.1 pp.2.1 pp.2.2 ya crlst_stable turn w0 (slept_keep b5 fun b o hb e => oth b o (fun z => hb (by rw [z]; exact List.mem_cons_of_mem _ List.mem_cons_self)) e) rfl)) fun r s' hx => ?_⟩
  · obtain ⟨mc, hns, hnn⟩ := I5.nolimit
    exact ⟨mc, hns.at' fun o e => oth _ o (Nat.ne_of_lt (Heap.lt_size e)) e, hnn⟩
  · obtain ⟨rfl, acc, H, xs, c', I', hv, hS', ws, rfl, hok, q⟩ := hx
    show wpAny _ X.A.in1 (load s5.heap.objs.size >>= _) _ _ s'
    refine wpAny_bind (wpAny_load hS' ?_)
    obtain ⟨l, e1, e2⟩ := strs_of hv
    refine wpAny_pure ?_
    show wpAny _ X.A.in1 (joinTail sep xs.toList) _ _ s'
    rw [← e1]
    rw [← e2] at hok q
    unfold JoinOk at hok
    rw [Bool.not_eq_true'] at hok
    have gv : Gives (joinTail sep (strValues l)) (joinMade sep l) := by
      have g0 := gives_joinTail sep l hok
      cases l with
      | nil => exact g0
      | cons p r => cases r with
        | nil => exact g0
        | cons q r' => exact g0
    exact gv X.prog X.w X.A (wants _ _) s' (post_join l ⟨joinFit_length hok, fun t' kk => ⟨.str _, H, I'.tok kk, ⟨t', rfl⟩, q⟩⟩)
end
end Gx
namespace Gx
open PySem PySem.Spec PyProof.Rows L2
/-! zip of two texts -/
def Itzs (x y : Str) : It :=
  ⟨fun i _ => i < min x.cps.size y.cps.size, fun i H v H' => ∃ T c d, v = .ref T ∧ H T = none ∧ H' = upd H T (.tup [.str ⟨#[c]⟩, .str ⟨#[d]⟩]) ∧ x.cps[i]? = some c ∧ y.cps[i]? = some d, fun i _ => i = min x.cps.size y.cps.size⟩
theorem turn_zips {P : Program} {w : World} {K : PySem.W.Frag} {elts : List Expr} {kk : Nat} {tpos : Pos} (N : Nat) (x y : Str) (t u : Tok) :
    Turn P w K (.Tuple elts kk tpos) (Itzs x y) ((N + 4) :: (N + 2) :: (N + 3) :: ([N] ++ [N + 1])) (N + 4)
      (fun i h => IsZip h (N + 4) (N + 2) (N + 3) .none ∧ IsTupOf2 h (N + 2) (.ref N) (.ref (N + 1)) ∧ (∃ a1 a2, IsTupOf2 h (N + 3) a1 a2) ∧ h.IsStrIter N (strIterType x) x t i ∧ h.IsStrIter (N + 1) (strIterType y) y u i) := by
  have go : ∀ (A : Around), A.handled = none → GoesN P w A (.Tuple elts kk tpos) (N + 4) ((N + 4) :: (N + 2) :: (N + 3) :: ([N] ++ [N + 1])) [N + 4, N + 3, N, N + 1] (min x.cps.size y.cps.size) _ _ := fun A hA =>
    GoesN.zip2 (zip_sep2 (N := N) (fp1 := []) (fp2 := []) (fun b hb => absurd hb (by simp)) (fun b hb => absurd hb (by simp))) (Draws.text (A := A.in1) hA N x t) (Draws.text (A := A.in1) hA (N + 1) y u)
  exact {
    mem := List.mem_cons_self
    obj := fun i h st c hc => by
      obtain ⟨hz, hTI, ⟨a1, a2, hTO⟩, ⟨o1, e1, _, d1⟩, ⟨o2, e2, _, d2⟩⟩ := st
      have e' : c = N + 4 ∨ c = N + 2 ∨ c = N + 3 ∨ c = N ∨ c = N + 1 := by simpa using hc
      rcases e' with q | q | q | q | q
      · rw [q]; exact ⟨_, hz, fun v q => nomatch q⟩
      · rw [q]; exact ⟨_, hTI, fun v q => nomatch q⟩
      · rw [q]; exact ⟨_, hTO, fun v q => nomatch q⟩
      · rw [q]; exact ⟨o1, e1, fun v q => by rw [d1] at q; cases q⟩
      · rw [q]; exact ⟨o2, e2, fun v q => by rw [d2] at q; cases q⟩
    keep := fun i h h' st k => by
      obtain ⟨hz, hTI, ⟨a1, a2, hTO⟩, ⟨o1, e1, r1⟩, ⟨o2, e2, r2⟩⟩ := st
      exact ⟨k _ (by simp) _ hz, k _ (by simp) _ hTI, ⟨a1, a2, k _ (by simp) _ hTO⟩, ⟨o1, k _ (by simp) _ e1, r1⟩, ⟨o2, k _ (by simp) _ e2, r2⟩⟩
    item := by
      intro X hP hw hK hc i pins s σ H E I hf st hg
      subst hP hw hK
      refine (go X.A (I.ok.hd hc)).goes i s (fun v s2 => ∃ x' H', Inv X pins σ H' s2 ∧ RelV x' v ∧ (Itzs x y).yld i H x' H' ∧ _ ∧ ∀ b ∈ ((N + 4) :: (N + 2) :: (N + 3) :: ([N] ++ [N + 1])), H' b = none) E hg st fun v h' tk hY st' hk htk => ?_
      obtain ⟨T, p, q, rfl, hT, ⟨c, u1, hc1, rfl⟩, ⟨d, u2, hd1, rfl⟩, hTt⟩ := hY
      have nT : H T = none := I.hok.fresh hT
      have new : ObjOk X.prog X.w (upd H T (.tup [.str ⟨#[c]⟩, .str ⟨#[d]⟩])) h' T (.tup [.str ⟨#[c]⟩, .str ⟨#[d]⟩]) := ⟨by show 2 ≤ sizeLine; decide, [_, _], .cons ⟨u1, rfl⟩ (.cons ⟨u2, rfl⟩ .nil), hTt⟩
      have lt : ∀ b ∈ ((N + 4) :: (N + 2) :: (N + 3) :: ([N] ++ [N + 1])), b < s.heap.objs.size := fun b hb => by
        obtain ⟨hz, hTI, ⟨a1, a2, hTO⟩, ⟨o1, e1, _⟩, ⟨o2, e2, _⟩⟩ := st
        have e' : b = N + 4 ∨ b = N + 2 ∨ b = N + 3 ∨ b = N ∨ b = N + 1 := by simpa using hb
        rcases e' with q | q | q | q | q
        · rw [q]; exact Heap.lt_size hz
        · rw [q]; exact Heap.lt_size hTI
        · rw [q]; exact Heap.lt_size hTO
        · rw [q]; exact Heap.lt_size e1
        · rw [q]; exact Heap.lt_size e2
      refine ⟨.ref T, _, I.turnedNew (t' := tk) (ch := ((N + 4) :: (N + 2) :: (N + 3) :: ([N] ++ [N + 1]))) (fun b o hb e => hk b o (fun z => hb ?_) e) hf hT new, rfl, ⟨T, c, d, rfl, nT, rfl, hc1, hd1⟩, st', fun b hb => ?_⟩
      · have e' : b = N + 4 ∨ b = N + 3 ∨ b = N ∨ b = N + 1 := by simpa using z
        rcases e' with q | q | q | q <;> rw [q] <;> simp
      · rw [upd_ne (Nat.ne_of_lt (Nat.lt_of_lt_of_le (lt b hb) hT))]
        exact (hf b hb).1
    done := by
      intro X hP hw hK hc i pins s σ H E I hf st hg
      subst hP hw hK
      have hi : i = min x.cps.size y.cps.size := hg
      subst hi
      refine (go X.A (I.ok.hd hc)).stops s (fun s1 => Inv X pins σ H s1) E st fun h' tk hk _ => ?_
      exact I.turnedL (t' := tk) (ch := ((N + 4) :: (N + 2) :: (N + 3) :: ([N] ++ [N + 1]))) (fun b o hb e => hk b o (fun z => hb (by
        have e' : b = N + 4 ∨ b = N + 3 ∨ b = N ∨ b = N + 1 := by simpa using z
        rcases e' with q | q | q | q <;> rw [q] <;> simp)) e) hf
    self := fun A i s Q E st h => wpAny_pyIter_zip st.1 h }
def iZips (ta : TA) : TI := fun σ H R => ta σ H fun vs H1 => ∃ x y, vs = [.str x, .str y] ∧ R (Itzs x y) H1
theorem pi_zips {X : Cx} {e e2 : Expr} {ta : TA} {p pos tpos : Pos} {elts : List Expr} {kk : Nat} (hg : Gl X "zip") (hm : X.mg "zip" = none) (ha : PA X [e, e2] ta)
    (hs : starEach [e, e2] X.env = (false, eval e X.env) :: starEach [e2] X.env := by rfl) (hpl : (backTo pos (starEach [e2] X.env)).any (·.1) = false := by rfl) :
    PI X (.Tuple elts kk tpos) (.Call (.Name "zip" p) [e, e2] [] pos) (iZips ta) := by
  refine ⟨fun pins s σ H R I h => ?_⟩
  refine Call_ (ld_blt I hg hm PyProof.Rows.boot_zip (PyProof.Rows.callWith_type1 (thn (ha.run pos pins s σ H _ I h) fun us s1 h1 => ?_) hs hpl))
  obtain ⟨vs, H1, I1, r1, x, y, rfl, q⟩ := h1
  cases r1 with
  | cons r rr =>
    cases rr with
    | cons r' rr =>
      cases rr
      obtain ⟨t, rfl⟩ := r
      obtain ⟨u, rfl⟩ := r'
      refine zip_begins2 (begins_text x t) (begins_text y u) trivial trivial fun h' hz hTI hTO g1 g2 hsz hk => wpAny_pyIter_zip hz ?_
      have I2 : Inv X pins σ H1 { s1 with heap := h' } := I1.kept (t' := s1.toks) hk
      refine ⟨s1.heap.objs.size + 4, _, _, _, H1, rfl, I2, turn_zips s1.heap.objs.size x y t u, ⟨hz, hTI, ⟨_, _, hTO⟩, ⟨_, g1, rfl, rfl⟩, ⟨_, g2, rfl, rfl⟩⟩, fun c hcm => ?_, q⟩
      have e' : c = s1.heap.objs.size + 4 ∨ c = s1.heap.objs.size + 2 ∨ c = s1.heap.objs.size + 3 ∨ c = s1.heap.objs.size ∨ c = s1.heap.objs.size + 1 := by simpa using hcm
      have hle : s1.heap.objs.size ≤ c := by
        rcases e' with z | z | z | z | z <;> rw [z]
        · exact Nat.le_add_right _ _
        · exact Nat.le_add_right _ _
        · exact Nat.le_add_right _ _
        · exact Nat.le_refl _
        · exact Nat.le_add_right _ _
      exact I1.fpOk hle (I1.hok.fresh hle)
end Gx
namespace Wa
open PySem PySem.Spec PyProof.Rows L2
/-! what stood stands; tables of code may have grown -/
structure Gr (H H' : Hp) : Prop where
  keep : ∀ b o, H b = some o → (∀ ps, o ≠ .tbl ps) → H' b = some o
  tab : ∀ b, GxR.TabG H b → GxR.TabG H' b
  there : ∀ b o, H b = some o → ∃ o', H' b = some o'
theorem Gr.refl (H : Hp) : Gr H H := ⟨fun _ _ e _ => e, fun _ h => h, fun _ o e => ⟨o, e⟩⟩
theorem Gr.of {H H' : Hp} (s : Same H H') : Gr H H' := ⟨fun b o e _ => s b o e, fun b h => by
  obtain ⟨ps, e, t⟩ := h
  exact ⟨ps, s _ _ e, t⟩, fun b o e => ⟨o, s b o e⟩⟩
theorem Gr.trans {H H1 H2 : Hp} (a : Gr H H1) (b : Gr H1 H2) : Gr H H2 := ⟨fun c o e n => b.keep c o (a.keep c o e n) n, fun c h => b.tab c (a.tab c h), fun c o e => by
  obtain ⟨o1, e1⟩ := a.there c o e
  exact b.there c o1 e1⟩
theorem Gr.tabbed {P : Addr} {H H' : Hp} (h : GxR.TabG H P) (t : GxR.Tabbed P H H') : Gr H H' where
  keep := fun b o e n => by
    by_cases hb : b = P
    · obtain ⟨ps, e2, _⟩ := h
      rw [hb, e2] at e
      cases e
      exact absurd rfl (n ps)
    · rw [t.2 b hb]
      exact e
  tab := fun b h2 => by
    by_cases hb : b = P
    · rw [hb]; exact t.1
    · obtain ⟨ps, e, q⟩ := h2
      exact ⟨ps, by rw [t.2 b hb]; exact e, q⟩
  there := fun b o e => by
    by_cases hb : b = P
    · obtain ⟨ps, e2, _⟩ := t.1
      exact ⟨_, by rw [hb]; exact e2⟩
    · exact ⟨o, by rw [t.2 b hb]; exact e⟩
theorem Gr.new {H H' : Hp} (g : Gr H H') {p : Addr} {o : HO} (n : H' p = none) : Gr H (upd H' p o) := g.trans (Gr.of (same_upd n))
theorem Gr.free {H H' : Hp} (g : Gr H H') {l : Addr} (h : H' l = none) : H l = none := by
  cases q : H l with
  | none => rfl
  | some o =>
    obtain ⟨o', e⟩ := g.there l o q
    rw [e] at h
    cases h
theorem Gr.lst {H H' : Hp} (g : Gr H H') {a : Addr} {xs : List V} (h : H a = some (.lst xs)) : H' a = some (.lst xs) := g.keep _ _ h fun _ z => by cases z
theorem Gr.tup {H H' : Hp} (g : Gr H H') {a : Addr} {xs : List V} (h : H a = some (.tup xs)) : H' a = some (.tup xs) := g.keep _ _ h fun _ z => by cases z
theorem Gr.seq {K : PySem.W.Frag} {H H' : Hp} {a : Addr} {xs : List V} (g : Gr H H') (h : SqL K H a xs) : SqL K H' a xs := by
  rcases h with (h | ⟨o, h⟩) | h
  · exact .inl (.inl (g.lst h))
  · exact .inl (.inr ⟨o, g.keep _ _ h fun _ z => by cases z⟩)
  · exact .inr h
/-- a change at an address that was free at the start -/
theorem Gr.over {H H1 : Hp} {p : Addr} {o : HO} (g : Gr H H1) (h : H p = none) : Gr H (upd H1 p o) where
  keep := fun b u e n => by
    rw [upd_ne (ne_of_none e h)]
    exact g.keep b u e n
  tab := fun b hb => by
    obtain ⟨ps, e, q⟩ := g.tab b hb
    obtain ⟨ps0, e0, _⟩ := hb
    exact ⟨ps, by rw [upd_ne (ne_of_none e0 h)]; exact e, q⟩
  there := fun b u e => by
    rw [upd_ne (ne_of_none e h)]
    exact g.there b u e
/-- a def whose code is known -/
theorem okC {P : Program} {w : World} {K : PySem.W.Frag} {mg : Str → Option Value} {base : Heap} {x qual : Str} {st : Stmt} {f c : Addr} {fd : FuncData} {N ps : List Str} {k : Nat} {sp : Sp} (F : Fun K x qual st f fd) (hcd : fd.code = .ref c) (S : FnScope N ps (defScope st)) (len : ∀ vs H Q E, sp vs H Q E → vs.length = ps.length)
    (hbody : ∀ (A : Around) (outer : List Env) (s : Shared) (H : Hp) (vs : List V) (Q : VK) (E : XK), Room k (A.deeper (envOfC qual (defScope st) s.heap.objs.size f (.ref c))) → sp vs H Q E →
      ∃ t, PSs (cxOf CX0 P w K mg base N qual (defScope st) f (.ref c) A outer s H E).nox (defBody st) t ∧ t { nx := fun _ H' => Q .non H', rt := Q } (start N vs) H) : FnOk P w K mg base CX0 (k + 1) f fd ps sp := by
  obtain ⟨oc, od, kV, doc, pm, an, cdv, ct, osl, rfl, lk, hco⟩ := F.ex
  have e : cdv = .ref c := hcd
  subst e
  refine fn_of lk hco S len fun A outer s H vs Q E hr hsp => ?_
  obtain ⟨t, h, q⟩ := hbody A outer s H vs Q E hr hsp
  exact ⟨t, h.nox, q⟩
/-- the tables of the text's defs, as the head leaves them -/
def TabsOf (q : Program) (mg : Str → Option Value) (h : Heap) : Prop := ∀ d ∈ recsOf q, ∃ a o fd c P, mg d.name = some (.ref a) ∧ h.get? a = some o ∧ o.data = .func fd ∧ fd.code = .ref c ∧ h.IsCode c P #[] ∧ h.TableAt c P #[]
theorem tab_at {q : Program} {K : PySem.W.Frag} {mg : Str → Option Value} {h : Heap} {x : Str} {f c P : Addr} {oc e : Value} {od dd : Option Addr} {fd : FuncData} {sl sl2 : Array (Option Value)} {vs : Array Value} (T : TabsOf q mg h) (hd : ((recsOf q).any fun r => r.name == x) = true) (KX : K.In h)
    (gm : mg x = some (.ref f)) (lk : K.lookup f = some ⟨oc, od, .func fd, sl⟩) (hc : fd.code = .ref c) (lc : K.lookup c = some ⟨e, dd, .fields vs, sl2⟩) (hv : vs[11]? = some (.ref P)) :
    h.get? P = some { cls := .none, data := .fields #[] } ∧ PySem.W.CodeHd h c P := by
  obtain ⟨d, hm, hn⟩ := List.any_eq_true.mp hd
  obtain ⟨a, o, fd', c', P', h1, h2, h3, h4, h5, h6⟩ := T d hm
  rw [beq_iff_eq.mp hn, gm] at h1
  cases h1
  rw [KX _ _ lk] at h2
  cases h2
  cases h3
  rw [hc] at h4
  cases h4
  obtain ⟨⟨ob, us, e1, _, e3, e4⟩, hP⟩ := _root_.id h6
  rw [KX _ _ lc] at e1
  cases e1
  cases e3
  rw [hv] at e4
  cases e4
  exact ⟨hP, .of h5 h6⟩
/-- the end of a law's row, with the tables of its defs -/
theorem walk_tabs {l : PySem.W.OpenLaw} {n k : Nat} {q : Program} {loose : List Str} {XP : (Str → Option Value) → Heap → Prop} {YP : World → Heap → Prop} {d : DefRec} {K : Params → PySem.W.Frag} {CX : World → CXT} {x : Str} (hn : l.most = some n) (hn2 : n ≤ sizeLine) (hdf : d.params.defaults = []) (hr : Room k callerA)
    (hY : ∀ (w : World) (h : Heap), YP w h → (K w.params).In h)
    (F : ∀ (w : World) (mg : Str → Option Value) (fa : Addr) (h : Heap), (K w.params).In h → h.Ns mainGlobals mg → mg d.name = some (.ref fa) → TabsOf q mg h → LamX.LawAtS l w (K w.params) (CX w) k n x mg fa h)
    (hCX : ∀ (w : World) (H : Hp) (s : Shared) (e : Value) (s' : Shared), CX w [] H s (fun _ _ _ => False) e s' → False) : PySem.W.WalkO q loose XP YP l.row.toRowW d [] (fun f vs => PySem.call f vs) := by
  refine Att.attach_callB hn hdf fun w s₀ s₁ mg mb fa o pm cd doc a vs ns G Y ho hd hcd hmg hobj hints hlen hbits hg => ?_
  have KX := hY w _ Y
  obtain ⟨fd, cs, sp, t1, t2, t3, hb, hsp, hF⟩ := F w mg fa _ KX G.T.g hmg G.T.tab
  exact LamX.law_callTs KX G.T.g G.T.b G.T.builtins G.T.nolimit hg t1 t2 t3 G.T.bmain hobj hints (Nat.le_trans hlen hn2) hr hF hb (fun H hH hS => hsp H a ns hlen hbits hH hS) fun H e s' => hCX w H s₁ e s'
end Wa
namespace Wa
open PySem PySem.Spec PyProof.Rows L2
/-! how often a sign stands in a text -/
theorem occ_count (x : Str) (c : Nat) : ∀ (l : List Nat) (st : Array Nat × Nat) (k : Nat), st.1.size ≤ k → (∀ i ∈ l, st.2 ≤ i) → l.Pairwise (· < ·) → k + l.length ≤ x.length + 1 →
    (forIn l st (StrLaws.occBody x ⟨#[c]⟩ x.length (x.length + 1))).run.fst.size = st.1.size + (l.filter fun i => decide (x.cps.toList[i]? = some c)).length
  | [], st, k, _, _, _, _ => rfl
  | a :: l, st, k, hk, hf, hp, hl => by
    rw [List.forIn_cons]
    have ha := hf a List.mem_cons_self
    have hp' := List.pairwise_cons.mp hp
    have hl' : k + (l.length + 1) ≤ x.length + 1 := hl
    by_cases hc : x.cps.toList[a]? = some c
    · obtain ⟨h1, h2⟩ := (StrLaws.subAt_one x c a).mpr hc
      have e : StrLaws.occBody x ⟨#[c]⟩ x.length (x.length + 1) a st = pure (ForInStep.yield (st.1.push a, a + (⟨#[c]⟩ : Str).length)) := by
        unfold StrLaws.occBody
        rw [if_pos ⟨⟨⟨by omega, ha⟩, h1⟩, h2⟩]
      rw [e]
      show (forIn l (st.1.push a, a + 1) (StrLaws.occBody x ⟨#[c]⟩ x.length (x.length + 1))).run.fst.size = _
      rw [occ_count x c l (st.1.push a, a + 1) (k + 1) (by show (st.1.push a).size ≤ k + 1; rw [Array.size_push]; omega) (fun i hi => hp'.1 i hi) hp'.2 (by omega)]
      show (st.1.push a).size + _ = _
      rw [Array.size_push, List.filter_cons_of_pos (by simp [hc]), List.length_cons]
      omega
    · have e : StrLaws.occBody x ⟨#[c]⟩ x.length (x.length + 1) a st = pure (ForInStep.yield (st.1, st.2)) := by
        unfold StrLaws.occBody
        rw [if_neg fun z => hc ((StrLaws.subAt_one x c a).mp ⟨z.1.2, z.2⟩)]
      rw [e]
      show (forIn l (st.1, st.2) (StrLaws.occBody x ⟨#[c]⟩ x.length (x.length + 1))).run.fst.size = _
      rw [occ_count x c l (st.1, st.2) k hk (fun i hi => hf i (List.mem_cons_of_mem _ hi)) hp'.2 (by omega)]
      rw [List.filter_cons_of_neg (by rw [decide_eq_false hc]; exact Bool.false_ne_true)]
theorem filter_at (c : Nat) : ∀ (l : List Nat), ((List.range l.length).filter fun i => decide (l[i]? = some c)).length = l.count c
  | [] => rfl
  | a :: l => by
    have ih := filter_at c l
    rw [List.length_cons, List.range_succ_eq_map, List.filter_cons, List.filter_map, List.count_cons]
    have e : ((fun i => decide ((a :: l)[i]? = some c)) ∘ Nat.succ) = fun i => decide (l[i]? = some c) := by
      funext i
      show decide ((a :: l)[i + 1]? = some c) = _
      rw [List.getElem?_cons_succ]
    rw [e]
    by_cases h : a = c
    · subst h
      rw [if_pos (by simp), List.length_cons, List.length_map, ih, if_pos (by simp)]
    · rw [if_neg (by simp [h]), List.length_map, ih, if_neg (by simp [h])]
      rfl
theorem count_sign (x : Str) (c : Nat) : Txt.count x ⟨#[c]⟩ = ((x.cps.toList.count c : Nat) : Int) := by
  show ((Builtin.Str.occurrences x ⟨#[c]⟩ 0 x.length (x.length + 1)).length : Int) = _
  rw [StrLaws.occ_eq, Array.length_toList]
  have hl : x.cps.toList.length = x.length := Array.length_toList
  rw [occ_count x c _ (#[], 0) 0 (Nat.le_refl _) (fun _ _ => Nat.zero_le _) (List.pairwise_lt_range' ..) (by rw [List.length_range']; omega)]
  have e : (List.range' 0 (x.length + 1 - 0)) = List.range (x.length + 1) := by rw [List.range_eq_range']; rfl
  rw [e, List.range_succ, List.filter_append, List.length_append, ← hl, filter_at]
  have e2 : x.cps.toList[x.cps.toList.length]? = none := List.getElem?_eq_none (Nat.le_refl _)
  rw [List.filter_cons_of_neg (by simp)]
  simp
/-! a text so many times -/
def repS (z : Str) (k : Nat) : Str := ⟨(List.replicate k z.cps).foldl (· ++ ·) #[]⟩
theorem foldl_cps (z : Array Nat) : ∀ (k : Nat) (b : Array Nat), ((List.replicate k z).foldl (· ++ ·) b).toList = b.toList ++ (List.replicate k z.toList).flatten
  | 0, b => by simp
  | k + 1, b => by
    rw [List.replicate_succ, List.foldl_cons, foldl_cps z k, List.replicate_succ, List.flatten_cons, Array.toList_append, List.append_assoc]
theorem repS_list (z : Str) (k : Nat) : (repS z k).cps.toList = (List.replicate k z.cps.toList).flatten := by
  show ((List.replicate k z.cps).foldl (· ++ ·) #[]).toList = _
  rw [foldl_cps]
  rfl
theorem repS_len (z : Str) (k : Nat) : (repS z k).length = k * z.length := by
  show (repS z k).cps.size = _
  rw [← Array.length_toList, repS_list, List.length_flatten, List.map_replicate, List.sum_replicate_nat, Array.length_toList]
  rfl
theorem op_repS {X : Cx} : OpR X (binaryOp .Mult) (fun x y H Q => ∃ (z : Str) (k : Nat), x = .str z ∧ y = .int k ∧ z.length ≤ 1000 ∧ k ≤ 1000 ∧ Q (.str (repS z k)) H) := by
  intro pins s σ H x y v u Q I rx ry h
  obtain ⟨z, k, rfl, rfl, h1, h2, q⟩ := h
  obtain ⟨t, rfl⟩ := rx
  obtain ⟨t', rfl⟩ := ry
  have hm : z.length * k ≤ 1000000 := Nat.le_trans (Nat.mul_le_mul h1 h2) (by decide)
  refine PySem.P.mul_str ?_ (fun h3 _ => ?_) (fun h3 _ => ?_) ?_
  · rw [decide_eq_false (by omega), decide_eq_false (by omega)]
    rfl
  · have e : (1000 : Int) ≤ (2 ^ 63 - 1) / (k : Int) := by
      refine Int.le_ediv_of_mul_le (by omega) ?_
      omega
    omega
  · rw [Int.toNat_natCast]
    show Builtin.Str.tooLong (z.length * k) = false
    unfold Builtin.Str.tooLong
    exact decide_eq_false (by
      have : z.length * k ≤ sizeLine := Nat.le_trans hm (by decide)
      omega)
  · by_cases c1 : (k : Int) < 1
    · have hk : k = 0 := by omega
      subst hk
      rw [if_pos c1]
      exact ⟨by decide, .str (repS z 0), H, I.tok _, ⟨_, rfl⟩, q⟩
    · rw [if_neg c1]
      by_cases c2 : ((k : Int) == 1 || z.length == 0) = true
      · rw [if_pos c2]
        have e : repS z k = z := by
          apply str_ext
          rw [repS_list]
          rcases Bool.or_eq_true_iff.mp c2 with c | c
          · have hk : k = 1 := by have := beq_iff_eq.mp c; omega
            subst hk
            simp
          · have hz : z.cps.toList = [] := List.eq_nil_of_length_eq_zero (by rw [Array.length_toList]; exact beq_iff_eq.mp c)
            rw [hz]
            simp
        rw [e] at q
        exact ⟨.str z, H, I, ⟨_, rfl⟩, q⟩
      · rw [if_neg c2]
        refine ⟨?_, .str (repS z k), H, I.tok _, ⟨_, rfl⟩, ?_⟩
        · rw [Int.toNat_natCast]
          show (repS z k).length ≤ sizeLine
          rw [repS_len, Nat.mul_comm]
          exact Nat.le_trans hm (by decide)
        · exact q
theorem rep_nought (k : Nat) : repS ("0" : Str) k = wd (List.replicate k 0) := by
  apply str_ext
  rw [repS_list, wd_list]
  have e : ("0" : Str).cps.toList = [48] := by decide +kernel
  rw [e]
  induction k with
  | zero => rfl
  | succ k ih => rw [List.replicate_succ, List.flatten_cons, ih, List.replicate_succ]; rfl
/-! the turns of a generator, counted -/
theorem turns_n {J : It} {g : TG} {tt : TT} {te : TE} {vs : List Nat} {σ : L2.St} {on : List V → V → Hp → Prop → Prop} {fin : List V → Hp → Prop} (n : Nat) (Pv : Nat → List V → Hp → Prop) {H0 : Hp} (h0 : Pv 0 [] H0)
    (hs : ∀ i acc H, i < n → Pv i acc H → J.go i H ∧ ∀ x H', J.yld i H x H' → g x (wipe σ vs) H' fun σ2 H2 => wipe σ2 vs = wipe σ vs ∧ tt σ2 H2 fun b H3 => if b = true then te σ2 H3 fun y H4 => on acc y H4 (Pv (i + 1) (acc ++ [y]) H4) else Pv (i + 1) acc H3)
    (hd : ∀ acc H, Pv n acc H → J.stop n H ∧ fin acc H) : ∃ W : Nat → Nat → List V → Hp → Prop, (∃ m, W 0 m [] H0) ∧ Gx.Turns J g tt te vs σ on fin W := by
  refine ⟨fun i m acc H => m = n - i ∧ i ≤ n ∧ Pv i acc H, ⟨n, by simp, Nat.zero_le _, h0⟩, ?_⟩
  rintro i m acc H ⟨rfl, hi, p⟩
  by_cases hlt : i < n
  · obtain ⟨g, t⟩ := hs i acc H hlt p
    exact .inr ⟨g, Pv (i + 1), fun acc' H' p' => ⟨n - (i + 1), by omega, rfl, hlt, p'⟩, t⟩
  · have e : i = n := by omega
    subst e
    exact .inl (hd acc H p)
end Wa
namespace Wa
open PySem PySem.Spec PyProof.Rows L2
/-- a def of the text, as callers use it -/
structure Df (K : PySem.W.Frag) (mg : Str → Option Value) (x : Str) (st : Stmt) (ps : List Str) (f : Addr) (fd : FuncData) : Prop where
  F : Fun K x x st f fd
  b : Binds K fd ps []
  g : mg x = some (.ref f)
theorem tri_nil : TriplesOk (#[] : Array Value).toList := by
  show TriplesOk []
  trivial
def spLaw (K : PySem.W.Frag) (Ps : List Addr) : Sp := fun vs H Q _ => ∃ (a : Addr) (ns : List Int), vs = [.ref a] ∧ SqL K H a (ns.map V.int) ∧ (∀ P ∈ Ps, GxR.TabG H P) ∧ ∀ H', Q (.bl true) H'
theorem iteTB {A B : Prop} {b : Bool} (e : b = true) (h : A) : if b = true then A else B := by
  rw [if_pos e]
  exact h
theorem iteFB {A B : Prop} {b : Bool} (e : b = false) (h : B) : if b = true then A else B := by
  rw [if_neg (by rw [e]; exact Bool.false_ne_true)]
  exact h
end Wa
namespace Wa
open PySem PySem.Spec PyProof.Rows L2
/-- a word of length n with q signs -/
def Wd (q n : Nat) (ds : List Nat) : Prop := ds.length = n ∧ ∀ d ∈ ds, d < q
theorem figs_of {q n : Nat} {ws : List (List Nat)} (hq : q ≤ 3) (h : ∀ w ∈ ws, Wd q n w) : Figs ws := fun w hw d hd => by
  have := (h w hw).2 d hd
  omega
/-- signs and lengths as the document bounds them -/
def QN (q n : Nat) : Prop := (q = 2 ∧ 1 ≤ n ∧ n ≤ 8) ∨ (q = 3 ∧ 1 ≤ n ∧ n ≤ 5)
theorem QN.le {q n : Nat} (h : QN q n) : q ≤ 3 ∧ n ≤ 8 := by
  rcases h with ⟨h1, h2, h3⟩ | ⟨h1, h2, h3⟩ <;> omega
end Wa
namespace Wa
open PySem PySem.Spec PyProof.Rows L2
/-! distances -/
def dist : List Nat → List Nat → Nat
  | x :: a, y :: b => (if x = y then 0 else 1) + dist a b
  | _, _ => 0
theorem dist_le : ∀ (a b : List Nat), dist a b ≤ a.length
  | [], _ => Nat.le_refl _
  | _ :: _, [] => Nat.zero_le _
  | x :: a, y :: b => by
    have := dist_le a b
    show (if x = y then 0 else 1) + dist a b ≤ a.length + 1
    split <;> omega
theorem dist_comm : ∀ (a b : List Nat), dist a b = dist b a
  | [], [] => rfl
  | [], _ :: _ => rfl
  | _ :: _, [] => rfl
  | x :: a, y :: b => by
    show (if x = y then 0 else 1) + dist a b = (if y = x then 0 else 1) + dist b a
    rw [dist_comm a b]
    by_cases e : x = y
    · rw [if_pos e, if_pos e.symm]
    · rw [if_neg e, if_neg fun z => e z.symm]
theorem dist_take : ∀ {a b : List Nat} {i x y : Nat}, a[i]? = some x → b[i]? = some y → dist (a.take (i + 1)) (b.take (i + 1)) = dist (a.take i) (b.take i) + (if x = y then 0 else 1)
  | [], _, _, _, _, h, _ => by simp at h
  | _ :: _, [], _, _, _, _, h => by simp at h
  | u :: a, v :: b, 0, x, y, h1, h2 => by
    cases h1
    cases h2
    show (if u = v then 0 else 1) + dist (a.take 0) (b.take 0) = 0 + _
    rw [List.take_zero, List.take_zero]
    show (if u = v then 0 else 1) + 0 = _
    omega
  | u :: a, v :: b, i + 1, x, y, h1, h2 => by
    have ih := dist_take (a := a) (b := b) (i := i) h1 h2
    show (if u = v then 0 else 1) + dist (a.take (i + 1)) (b.take (i + 1)) = (if u = v then 0 else 1) + dist (a.take i) (b.take i) + _
    rw [ih]
    omega
theorem sign_ne (c d : Nat) : decide ((V.str ⟨#[48 + c]⟩ : V) = V.str ⟨#[48 + d]⟩) = decide (c = d) := by
  by_cases e : c = d
  · rw [e, decide_eq_true rfl, decide_eq_true rfl]
  · rw [decide_eq_false e, decide_eq_false fun z => e (by
      injection z with z
      injection z with z
      have := congrArg (fun l => l.toList) z
      have h : [48 + c] = [48 + d] := this
      injection h with h _
      omega)]
end Wa
namespace Wa
open PySem PySem.Spec PyProof.Rows L2
/-! signs joined to words -/
theorem str_app_assoc (x y z : Str) : x ++ y ++ z = x ++ (y ++ z) := by
  apply str_ext
  rw [str_app, str_app, str_app, str_app, List.append_assoc]
theorem str_app_nil (x : Str) : x ++ ("" : Str) = x := by
  apply str_ext
  rw [str_app]
  have e : ("" : Str).cps.toList = [] := by decide +kernel
  rw [e, List.append_nil]
theorem join_signs : ∀ cs : List Nat, Txt.join ("" : Str) (cs.map fun c => wd [c]) = wd cs := by
  have h : ∀ cs : List Nat, Str.join ("" : Str) (cs.map fun c => wd [c]) = wd cs := by
    intro cs
    induction cs with
    | nil => exact (by decide +kernel : Str.join ("" : Str) [] = wd [])
    | cons c r ih =>
      cases r with
      | nil => rfl
      | cons d r' =>
        show wd [c] ++ ("" : Str) ++ Str.join ("" : Str) ((d :: r').map fun c => wd [c]) = _
        rw [ih, str_app_nil, wd_app]
        rfl
  intro cs
  show Builtin.Str.glued ("" : Str) _ = _
  rw [StrLaws.glued_eq_join]
  exact h cs
theorem joinOk_signs {cs : List Nat} (h : cs.length ≤ 1000) : JoinOk ("" : Str) (cs.map fun c => wd [c]) = true := by
  unfold JoinOk
  rw [StrLaws.joinTotal, Bool.not_eq_true']
  have e0 : ("" : Str).length = 0 := by decide +kernel
  have e1 : ((cs.map fun c => wd [c]).map (·.length)).sum = cs.length := by
    rw [List.map_map]
    have : ((fun x : Str => x.length) ∘ fun c => wd [c]) = fun _ => 1 := by
      funext c
      exact wd_len [c]
    rw [this, List.map_const', List.sum_replicate_nat]
    omega
  rw [e1, e0, Nat.mul_zero, Nat.add_zero]
  exact decide_eq_false (by
    have : sizeLine = 16777216 := by decide
    omega)
theorem int_fig {c : Nat} (h : c < 3) : PySem.intText? (⟨#[48 + c]⟩ : Str) = some ((c : Nat) : Int) := by
  match c, h with
  | 0, _ => decide +kernel
  | 1, _ => decide +kernel
  | 2, _ => decide +kernel
/-- the signs' texts of a list -/
theorem strs_snoc (cs : List Nat) (c : Nat) : (cs.map fun c => V.str (wd [c])) ++ [V.str (wd [c])] = (cs ++ [c]).map fun c => V.str (wd [c]) := by
  rw [List.map_append]
  rfl
def addW (q : Nat) (a b : List Nat) : List Nat := List.zipWith (fun x y => (x + y) % q) a b
def mulW (q t : Nat) (a : List Nat) : List Nat := a.map fun x => x * t % q
def addT (q t : Nat) (a b : List Nat) : List Nat := List.zipWith (fun x y => (x + t * y) % q) a b
theorem zip_take {α β γ : Type} {f : α → β → γ} : ∀ {a : List α} {b : List β} {i : Nat} {x : α} {y : β}, a[i]? = some x → b[i]? = some y → (List.zipWith f a b).take (i + 1) = (List.zipWith f a b).take i ++ [f x y] := fun {a b i x y} h1 h2 => by
  rw [List.take_add_one]
  have e : (List.zipWith f a b)[i]? = some (f x y) := by
    rw [List.getElem?_zipWith, h1, h2]
  rw [e]
  rfl
theorem addW_len {q : Nat} {a b : List Nat} (h : a.length = b.length) : (addW q a b).length = a.length := by
  unfold addW
  rw [List.length_zipWith]
  omega
theorem addT_len {q t : Nat} {a b : List Nat} (h : a.length = b.length) : (addT q t a b).length = a.length := by
  unfold addT
  rw [List.length_zipWith]
  omega
end Wa
namespace Wa
open PySem PySem.Spec PyProof.Rows L2
/-! sorted of texts, any number of them -/
def tv : Value → Str
  | .str x _ => x
  | _ => ⟨#[]⟩
def ltTv (v u : Value) : Bool := decide ((tv v).cps.toList < (tv u).cps.toList)
theorem lex_asymm {a b : List Nat} (h : a < b) : ¬ b < a := fun h' => List.lt_irrefl a (List.lt_trans h h')
theorem swo_text : SrtO.Swo ltTv := by
  refine ⟨fun x y h => decide_eq_false (lex_asymm (of_decide_eq_true h)), fun x y z h1 h2 => ?_⟩
  have a := of_decide_eq_false h1
  have b := of_decide_eq_false h2
  refine decide_eq_false fun hc => ?_
  exact absurd hc (List.not_lt.mpr (List.le_trans (List.not_lt.mp a) (List.not_lt.mp b)))
theorem texts_mem : ∀ {vs : List Value} {ss : List Str}, StrsAre vs ss → ∀ v ∈ vs, ∃ x t, v = Value.str x t
  | _, _, .nil, v, h => absurd h (by simp)
  | _, _, .cons n t r, v, h => by
    rcases List.mem_cons.mp h with e | h
    · exact ⟨n, t, e⟩
    · exact texts_mem r v h
theorem texts_tv : ∀ {vs : List Value}, (∀ v ∈ vs, ∃ x t, v = Value.str x t) → StrsAre vs (vs.map tv)
  | [], _ => .nil
  | v :: vs, h => by
    obtain ⟨x, t, e⟩ := h v List.mem_cons_self
    subst e
    exact .cons x t (texts_tv fun u hu => h u (List.mem_cons_of_mem _ hu))
theorem tv_texts : ∀ {vs : List Value} {ss : List Str}, StrsAre vs ss → vs.map tv = ss
  | _, _, .nil => rfl
  | _, _, .cons n t r => congrArg (n :: ·) (tv_texts r)
section
variable {prog : Program} {w : World} {A : Around} {s : Shared}
theorem text_cmp {vs : List Value} {ss : List Str} (hI : StrsAre vs ss) : SrtO.Cmp prog w A s oneType' (fun p => p.1 ∈ vs) (SrtO.lt2 ltTv) := by
  intro p q hm hm'
  obtain ⟨a, t, e⟩ := texts_mem hI _ hm
  obtain ⟨b, u, e'⟩ := texts_mem hI _ hm'
  show wpAny (model prog w) A (keyLt' oneType' p.1 q.1) (fun r s' => s' = s ∧ r = ltTv p.1 q.1) (fun _ _ => False) s
  rw [e, e', keyLt'_oneType]
  exact oneLt_str ⟨rfl, rfl⟩
theorem texts_sortable {a : Addr} {vs : List Value} {ss : List Str} (hI : StrsAre vs ss) (h2 : 2 ≤ vs.length) : SrtO.SortableO prog w A s a vs ltTv := by
  intro h' _
  refine ⟨oneType', fun Q E hq => ?_, text_cmp hI⟩
  match vs, hI, h2 with
  | v1 :: v2 :: rest, hI, _ =>
    rw [keyKind_strs hI]
    exact wpAny_pure hq
  | [], _, h => exact absurd h (by decide)
  | [v], _, h => exact absurd h (by simp)
end
/-- rising, by the signs' codes -/
def Rising (ys : List Str) : Prop := ys.Pairwise fun a b => ¬ b.cps.toList < a.cps.toList
def rSortedT (K : PySem.W.Frag) : List V → Hp → VK → Prop := fun vs H Q => ∃ (a : Addr) (xs : List Str), vs = [V.ref a] ∧ SqL K H a (xs.map V.str) ∧ ∀ (ys : List Str) (p : Addr), ys.Perm xs → Rising ys → H p = none → Q (.ref p) (upd H p (.lst (ys.map V.str)))
theorem cr_sortedT {X : Cx} : CallR X (.builtin "sorted") (rSortedT X.K) := by
  intro pins s σ H vs us Q I r h
  obtain ⟨a, xs, rfl, hs, q⟩ := h
  obtain ⟨its, rv, hl, hz⟩ := I.list hs
  rw [Vals.ref1 r]
  have hi := rv.strs
  refine SrtO.sorted_ord swo_text hl.isList (by rw [← rv.length]; exact hz) (fun h2 h₁ a' _ _ => texts_sortable hi h2) fun out h1 h2 => ?_
  have k1 : StrsAre out (out.map tv) := texts_tv fun v hv => texts_mem hi v (h2.perm.mem_iff.mp hv)
  have k2 : (out.map tv).Perm xs := by
    have q := h2.perm.map tv
    rw [tv_texts hi] at q
    exact q
  have k3 : Rising (out.map tv) := List.pairwise_map.mpr (h1.imp fun {x y} h => of_decide_eq_false h)
  obtain ⟨ep, he'⟩ := PyProof.Rows.sortedAll_at s.heap its out.toArray
  have hlen : ((out.map tv).map V.str).length ≤ sizeLine := by
    rw [List.length_map, k2.length_eq]
    rw [List.length_map] at hz
    exact hz
  exact ⟨.ref _, upd H (s.heap.objs.size + 1) (.lst ((out.map tv).map V.str)), I.laid (t' := s.toks) (fun _ _ => PyProof.Rows.sortedAll_old) (Nat.le_succ _) ⟨hlen, out, ep, vals_of_strs k1, he'⟩, rfl, q _ _ k2 k3 (I.hok.fresh (Nat.le_succ _))⟩
/-- two rising lists of the same texts are one -/
theorem rising_eq : ∀ {a b : List Str}, Rising a → Rising b → a.Perm b → a = b
  | [], b, _, _, h => (List.Perm.nil_eq h)
  | x :: a, [], _, _, h => by cases h.length_eq
  | x :: a, y :: b, ha, hb, h => by
    have ha' := List.pairwise_cons.mp ha
    have hb' := List.pairwise_cons.mp hb
    have e : x = y := by
      have h1 : x ∈ y :: b := h.mem_iff.mp List.mem_cons_self
      have h2 : y ∈ x :: a := h.mem_iff.mpr List.mem_cons_self
      rcases List.mem_cons.mp h1 with e | h1
      · exact e
      · rcases List.mem_cons.mp h2 with e | h2
        · exact e.symm
        · have c1 := hb'.1 x h1
          have c2 := ha'.1 y h2
          exact str_ext (List.le_antisymm (List.not_lt.mp c2) (List.not_lt.mp c1))
    subst e
    rw [rising_eq ha'.2 hb'.2 (List.Perm.cons_inv h)]
end Wa
namespace Wa
open PySem PySem.Spec PyProof.Rows L2
/-! spans, rising -/
def tws (ws : List (List Nat)) : List Str := ws.map wd
theorem tws_v (ws : List (List Nat)) : (tws ws).map V.str = vws ws := by
  unfold tws vws
  rw [List.map_map]
  rfl
/-- a rising list of the words of S -/
def RisW (R S : List (List Nat)) : Prop := R.Perm S ∧ Rising (tws R)
theorem risW_of {ys : List Str} {S : List (List Nat)} (h : ys.Perm (tws S)) (hr : Rising ys) : ∃ R, ys = tws R ∧ RisW R S := by
  obtain ⟨R, e, hp⟩ : ∃ R, ys = tws R ∧ R.Perm S := by
    have key : ∀ (ys : List Str), (∀ y ∈ ys, ∃ w, y = wd w) → ∃ R, ys = tws R := by
      intro ys
      induction ys with
      | nil => exact fun _ => ⟨[], rfl⟩
      | cons y ys ih =>
        intro hy
        obtain ⟨w, e⟩ := hy y List.mem_cons_self
        obtain ⟨R, e2⟩ := ih fun z hz => hy z (List.mem_cons_of_mem _ hz)
        exact ⟨w :: R, by rw [e, e2]; rfl⟩
    obtain ⟨R, e⟩ := key ys fun y hy => by
      obtain ⟨w, _, e⟩ := List.mem_map.mp (h.mem_iff.mp hy)
      exact ⟨w, e.symm⟩
    refine ⟨R, e, ?_⟩
    rw [e] at h
    rw [List.perm_iff_count]
    intro a
    have := (List.perm_iff_count.mp h) (wd a)
    have cnt : ∀ l : List (List Nat), (tws l).count (wd a) = l.count a := by
      intro l
      induction l with
      | nil => rfl
      | cons x l ih =>
        show (wd x :: tws l).count (wd a) = _
        rw [List.count_cons, List.count_cons, ih]
        by_cases e : x = a
        · rw [e]
          simp
        · have e' : ¬ wd x = wd a := fun z => e (wd_inj z)
          rw [if_neg (by simp [e']), if_neg (by simp [e])]
    rw [cnt, cnt] at this
    exact this
  exact ⟨R, e, hp, by rw [← e]; exact hr⟩
theorem risW_eq {R1 R2 S1 S2 : List (List Nat)} (h1 : RisW R1 S1) (h2 : RisW R2 S2) (hp : S1.Perm S2) : R1 = R2 := by
  have e : tws R1 = tws R2 := rising_eq h1.2 h2.2 (((h1.1.trans hp).trans h2.1.symm).map wd)
  have inj : ∀ a b : List (List Nat), tws a = tws b → a = b := by
    intro a
    induction a with
    | nil => intro b hb; cases b with
      | nil => rfl
      | cons _ _ => cases hb
    | cons x a ih => intro b hb; cases b with
      | nil => cases hb
      | cons y b =>
        have h : wd x :: tws a = wd y :: tws b := hb
        injection h with h1 h2
        rw [wd_inj h1, ih b h2]
  exact inj _ _ e
end Wa
namespace Wa
open PySem PySem.Spec PyProof.Rows L2
/-! turned about -/
def turned (ws : List (List Nat)) (i : Nat) : List (List Nat) := if i = 1 then ws.reverse else ws
theorem turned_mem {ws : List (List Nat)} {i : Nat} : ∀ w, w ∈ turned ws i ↔ w ∈ ws := fun w => by
  unfold turned
  split
  · exact List.mem_reverse
  · exact Iff.rfl
theorem turned_len {ws : List (List Nat)} {i : Nat} : (turned ws i).length = ws.length := by
  unfold turned
  split
  · exact List.length_reverse
  · rfl
theorem vws_rev (ws : List (List Nat)) : (vws ws).reverse = vws ws.reverse := by
  unfold vws
  rw [List.map_reverse]
theorem vws_drop (ws : List (List Nat)) : (vws ws).dropLast = vws ws.dropLast := by
  unfold vws
  rw [List.map_dropLast]
theorem vws_tail (ws : List (List Nat)) : (vws ws).eraseIdx 0 = vws ws.tail := by
  cases ws <;> rfl
end Wa
namespace Wa
open PySem PySem.Spec PyProof.Rows L2
/-! comprehensions by what each turn gives -/
theorem Gr.alst {H H' : Hp} (g : Gr H H') {a : Addr} {xs : List V} (h : H a = some (.lst xs)) : H' a = some (.lst xs) := g.lst h
/-- what an iterator hands out while what stood stands -/
structure Hands (J : It) (H1 : Hp) (n : Nat) (R : Nat → Hp → V → Prop) : Prop where
  go : ∀ i H', i < n → Gr H1 H' → J.go i H'
  yld : ∀ i H' x H'', i < n → Gr H1 H' → J.yld i H' x H'' → Gr H' H'' ∧ R i H'' x
  stop : ∀ H', Gr H1 H' → J.stop n H'
theorem hands_list {K : PySem.W.Frag} {H1 : Hp} {a : Addr} {xs : List V} (h : SqL K H1 a xs) : Hands (Itl K a) H1 xs.length (fun i _ x => xs[i]? = some x) where
  go := fun i H' hi g => itl_go (g.seq h) hi
  yld := fun i H' x H'' hi g y => by
    obtain ⟨rfl, e⟩ := itl_yld (g.seq h) y
    exact ⟨Gr.refl _, e⟩
  stop := fun H' g => itl_stop (g.seq h) rfl
theorem hands_range {H1 : Hp} (lo : Int) (n : Nat) : Hands (Itr lo n) H1 n (fun i _ x => x = .int (lo + i)) where
  go := fun i H' hi g => hi
  yld := fun i H' x H'' hi g y => by
    obtain ⟨rfl, e⟩ := y
    exact ⟨Gr.refl _, e⟩
  stop := fun H' g => Nat.le_refl _
theorem hands_str {H1 : Hp} (ds : List Nat) : Hands (Its (wd ds)) H1 ds.length (fun i _ x => ∃ d, ds[i]? = some d ∧ x = .str (wd [d])) where
  go := fun i H' hi g => by
    show i < (wd ds).cps.size
    have : (wd ds).cps.size = ds.length := wd_len ds
    omega
  yld := fun i H' x H'' hi g y => by
    obtain ⟨rfl, c1, h1, rfl⟩ := y
    obtain ⟨d, e, rfl⟩ := wd_at h1
    exact ⟨Gr.refl _, d, e, rfl⟩
  stop := fun H' g => by
    show (wd ds).cps.size ≤ ds.length
    have : (wd ds).cps.size = ds.length := wd_len ds
    omega
theorem filt_range (p : Nat → Bool) (f : Nat → V) (i : Nat) : ((List.range (i + 1)).filter p).map f = ((List.range i).filter p).map f ++ (if p i = true then [f i] else []) := by
  rw [List.range_succ, List.filter_append, List.map_append]
  congr 1
  by_cases e : p i = true
  · rw [if_pos e, List.filter_cons_of_pos e]
    rfl
  · rw [if_neg e, List.filter_cons_of_neg e]
    rfl
theorem filt_len (p : Nat → Bool) (f : Nat → V) (i : Nat) : (((List.range i).filter p).map f).length ≤ i := by
  rw [List.length_map]
  refine Nat.le_trans (List.length_filter_le _ _) ?_
  rw [List.length_range]
  exact Nat.le_refl _
/-- a comprehension: at each turn a test p i and a value f i -/
theorem lcG {J : It} {H1 : Hp} {n : Nat} {R : Nat → Hp → V → Prop} {g : TG} {tt : TT} {te : TE} {vs : List Nat} {σ : L2.St} {D : Addr} {Qd : Hp → Prop} (hJ : Hands J H1 n R) (p : Nat → Bool) (f : Nat → V) (nD : H1 D = none) (hz : n ≤ 16000000)
    (hs : ∀ i x H' (Y : VK) (N : Hp → Prop), i < n → Gr H1 H' → R i H' x → (p i = true → ∀ H'', Gr H' H'' → Y (f i) H'') → (p i = false → ∀ H'', Gr H' H'' → N H'') →
      g x (wipe σ vs) H' fun σ2 H2 => wipe σ2 vs = wipe σ vs ∧ tt σ2 H2 fun b H3 => if b = true then te σ2 H3 Y else N H3)
    (hd : ∀ H', Gr H1 H' → H' D = some (.lst (((List.range n).filter p).map f)) → Qd H') :
    ∃ W : Nat → Nat → Hp → Prop, (∃ m, W 0 m (upd H1 D (.lst []))) ∧ ∀ i m H, W i m H →
      (J.stop i H ∧ Qd H) ∨ (J.go i H ∧ ∃ Nx : Hp → Prop, (∀ H', Nx H' → ∃ m', m' < m ∧ W (i + 1) m' H') ∧ ∀ x H', J.yld i H x H' → g x (wipe σ vs) H' fun σ2 H2 => wipe σ2 vs = wipe σ vs ∧ tt σ2 H2 fun b H3 =>
        if b = true then te σ2 H3 fun y H4 => ∃ acc, H4 D = some (.lst acc) ∧ acc.length < sizeLine ∧ Nx (upd H4 D (.lst (acc ++ [y]))) else Nx H3) := by
  refine walk_n n (fun i H' => Gr H1 H' ∧ H' D = some (.lst (((List.range i).filter p).map f))) ⟨(Gr.refl H1).new nD, upd_same⟩ (fun i H' hi ⟨i1, i2⟩ => ⟨hJ.go i H' hi i1, fun x H'' y => ?_⟩) (fun H' ⟨i1, i2⟩ => ⟨hJ.stop H' i1, hd H' i1 i2⟩)
  obtain ⟨g1, r1⟩ := hJ.yld i H' x H'' hi i1 y
  have gi := i1.trans g1
  have e := filt_range p f i
  refine hs i x H'' _ _ hi gi r1 (fun hp H3 g3 => ?_) (fun hp H3 g3 => ?_)
  · rw [if_pos hp] at e
    have hl := filt_len p f i
    exact ⟨_, g3.lst (g1.lst i2), sz' (by omega), (gi.trans g3).over nD, by rw [upd_same, e]⟩
  · rw [if_neg (by rw [hp]; exact Bool.false_ne_true), List.append_nil] at e
    exact ⟨gi.trans g3, by rw [e]; exact g3.lst (g1.lst i2)⟩
theorem range_filter_map {α : Type} (l : List α) (p : α → Bool) (f : α → V) (d : α) : ((List.range l.length).filter fun i => p (l.getD i d)).map (fun i => f (l.getD i d)) = (l.filter p).map f := by
  induction l with
  | nil => rfl
  | cons x l ih =>
    rw [List.length_cons, List.range_succ_eq_map, List.filter_cons, List.filter_map]
    have e1 : (fun i => p ((x :: l).getD i d)) ∘ Nat.succ = fun i => p (l.getD i d) := rfl
    rw [e1, List.filter_cons]
    by_cases e : p x = true
    · rw [if_pos (show p ((x :: l).getD 0 d) = true from e), if_pos e, List.map_cons, List.map_cons, List.map_map]
      show f x :: _ = f x :: _
      rw [← ih]
      rfl
    · rw [if_neg (show ¬ p ((x :: l).getD 0 d) = true from e), if_neg e, List.map_map, ← ih]
      rfl
abbrev HandsL {α : Type} (J : It) (H1 : Hp) (l : List α) (φ : α → V) : Prop := Hands J H1 l.length (fun i _ x => ∃ d, l[i]? = some d ∧ x = φ d)
theorem handsL_list {α : Type} {K : PySem.W.Frag} {H1 : Hp} {a : Addr} {l : List α} {φ : α → V} (h : SqL K H1 a (l.map φ)) : HandsL (Itl K a) H1 l φ where
  go := fun i H' hi g => itl_go (g.seq h) (by rw [List.length_map]; exact hi)
  yld := fun i H' x H'' hi g y => by
    obtain ⟨rfl, e⟩ := itl_yld (g.seq h) y
    rw [List.getElem?_map, List.getElem?_eq_getElem hi] at e
    exact ⟨Gr.refl _, l[i], List.getElem?_eq_getElem hi, (Option.some.inj e).symm⟩
  stop := fun H' g => itl_stop (g.seq h) (List.length_map ..)
theorem handsL_str {H1 : Hp} (ds : List Nat) : HandsL (Its (wd ds)) H1 ds (fun d => .str (wd [d])) := hands_str ds
theorem handsL_range {H1 : Hp} (lo : Int) (n : Nat) : HandsL (Itr lo n) H1 (List.range n) (fun i : Nat => .int (lo + i)) where
  go := fun i H' hi g => by
    rw [List.length_range] at hi
    exact hi
  yld := fun i H' x H'' hi g y => by
    rw [List.length_range] at hi
    obtain ⟨rfl, e⟩ := y
    exact ⟨Gr.refl _, i, List.getElem?_range hi, e⟩
  stop := fun H' g => by
    rw [List.length_range]
    exact Nat.le_refl n
/-- .. where what is handed out for d is told by Φ -/
abbrev HandsR {α : Type} (J : It) (H1 : Hp) (l : List α) (Φ : α → Hp → V → Prop) : Prop := Hands J H1 l.length (fun i H x => ∃ d, l[i]? = some d ∧ Φ d H x)
theorem lcRel {α : Type} {J : It} {H1 : Hp} {l : List α} {Φ : α → Hp → V → Prop} {g : TG} {tt : TT} {te : TE} {vs : List Nat} {σ : L2.St} {D : Addr} {Qd : Hp → Prop} (hJ : HandsR J H1 l Φ) (p : α → Bool) (f : α → V) (nD : H1 D = none) (hz : l.length ≤ 16000000)
    (hs : ∀ d x H' (Y : VK) (N : Hp → Prop), d ∈ l → Gr H1 H' → Φ d H' x → (p d = true → ∀ H'', Gr H' H'' → Y (f d) H'') → (p d = false → ∀ H'', Gr H' H'' → N H'') →
      g x (wipe σ vs) H' fun σ2 H2 => wipe σ2 vs = wipe σ vs ∧ tt σ2 H2 fun b H3 => if b = true then te σ2 H3 Y else N H3)
    (hd : ∀ H', Gr H1 H' → H' D = some (.lst ((l.filter p).map f)) → Qd H') :
    ∃ W : Nat → Nat → Hp → Prop, (∃ m, W 0 m (upd H1 D (.lst []))) ∧ ∀ i m H, W i m H →
      (J.stop i H ∧ Qd H) ∨ (J.go i H ∧ ∃ Nx : Hp → Prop, (∀ H', Nx H' → ∃ m', m' < m ∧ W (i + 1) m' H') ∧ ∀ x H', J.yld i H x H' → g x (wipe σ vs) H' fun σ2 H2 => wipe σ2 vs = wipe σ vs ∧ tt σ2 H2 fun b H3 =>
        if b = true then te σ2 H3 fun y H4 => ∃ acc, H4 D = some (.lst acc) ∧ acc.length < sizeLine ∧ Nx (upd H4 D (.lst (acc ++ [y]))) else Nx H3) := by
  cases l with
  | nil => exact lcG hJ (fun _ => false) (fun _ => .non) nD (Nat.zero_le _) (fun i x H' Y N hi => absurd hi (Nat.not_lt_zero i)) fun H' g1 e => hd H' g1 e
  | cons d r =>
    have key := range_filter_map (d :: r) p f d
    generalize hL : (d :: r) = l at *
    refine lcG hJ (fun i => p (l.getD i d)) (fun i => f (l.getD i d)) nD hz (fun i x H' Y N hi g1 ⟨u, eu, ex⟩ hy hn => ?_) fun H' g1 e => hd H' g1 (by rw [key] at e; exact e)
    have ed : l.getD i d = u := by rw [List.getD_eq_getElem?_getD, eu]; rfl
    rw [ed] at hy hn
    exact hs u x H' Y N (List.mem_of_getElem? eu) g1 ex hy hn
/-- a comprehension over a list l, shown as φ x: each x by a test p x and a value f x -/
theorem lcH {α : Type} {J : It} {H1 : Hp} {l : List α} {φ : α → V} {g : TG} {tt : TT} {te : TE} {vs : List Nat} {σ : L2.St} {D : Addr} {Qd : Hp → Prop} (hJ : HandsL J H1 l φ) (p : α → Bool) (f : α → V) (nD : H1 D = none) (hz : l.length ≤ 16000000)
    (hs : ∀ x H' (Y : VK) (N : Hp → Prop), x ∈ l → Gr H1 H' → (p x = true → ∀ H'', Gr H' H'' → Y (f x) H'') → (p x = false → ∀ H'', Gr H' H'' → N H'') →
      g (φ x) (wipe σ vs) H' fun σ2 H2 => wipe σ2 vs = wipe σ vs ∧ tt σ2 H2 fun b H3 => if b = true then te σ2 H3 Y else N H3)
    (hd : ∀ H', Gr H1 H' → H' D = some (.lst ((l.filter p).map f)) → Qd H') :
    ∃ W : Nat → Nat → Hp → Prop, (∃ m, W 0 m (upd H1 D (.lst []))) ∧ ∀ i m H, W i m H →
      (J.stop i H ∧ Qd H) ∨ (J.go i H ∧ ∃ Nx : Hp → Prop, (∀ H', Nx H' → ∃ m', m' < m ∧ W (i + 1) m' H') ∧ ∀ x H', J.yld i H x H' → g x (wipe σ vs) H' fun σ2 H2 => wipe σ2 vs = wipe σ vs ∧ tt σ2 H2 fun b H3 =>
        if b = true then te σ2 H3 fun y H4 => ∃ acc, H4 D = some (.lst acc) ∧ acc.length < sizeLine ∧ Nx (upd H4 D (.lst (acc ++ [y]))) else Nx H3) := lcRel (Φ := fun d _ x => x = φ d) hJ p f nD hz (fun d x H' Y N hm g1 e hy hn => by
    subst e
    exact hs d H' Y N hm g1 hy hn) hd
theorem hands_zip {α β : Type} {K : PySem.W.Frag} {H1 : Hp} {a b : Addr} {l : List α} {m : List β} {φ : α → V} {ψ : β → V} (ha : SqL K H1 a (l.map φ)) (hb : SqL K H1 b (m.map ψ)) :
    HandsR (Itz K a b) H1 (l.zip m) (fun d H x => ∃ T, x = .ref T ∧ H T = some (.tup [φ d.1, ψ d.2])) where
  go := fun i H' hi g => by
    rw [List.length_zip] at hi
    exact ⟨_, _, _, _, g.seq ha, g.seq hb, by rw [List.getElem?_map, List.getElem?_eq_getElem (show i < l.length by omega)]; rfl, by rw [List.getElem?_map, List.getElem?_eq_getElem (show i < m.length by omega)]; rfl⟩
  yld := fun i H' x H'' hi g y => by
    have hi2 := hi
    rw [List.length_zip] at hi2
    obtain ⟨T, u, v, rfl, nT, rfl, h1, h2⟩ := y
    have e1 := h1 _ (g.seq ha)
    have e2 := h2 _ (g.seq hb)
    rw [List.getElem?_map, List.getElem?_eq_getElem (show i < l.length by omega)] at e1
    rw [List.getElem?_map, List.getElem?_eq_getElem (show i < m.length by omega)] at e2
    cases e1
    cases e2
    refine ⟨(Gr.refl _).new nT, (l[i]'(by omega), m[i]'(by omega)), ?_, T, rfl, upd_same⟩
    rw [List.getElem?_eq_getElem hi, List.getElem_zip]
  stop := fun H' g => by
    refine ⟨_, _, g.seq ha, g.seq hb, ?_⟩
    rw [List.length_map, List.length_map, List.length_zip]
    omega
theorem hands_enum {α : Type} {K : PySem.W.Frag} {H1 : Hp} {a : Addr} {l : List α} {φ : α → V} (ha : SqL K H1 a (l.map φ)) :
    HandsR (Ite K a) H1 l.zipIdx (fun d H x => ∃ T, x = .ref T ∧ H T = some (.tup [.int (d.2 : Nat), φ d.1])) where
  go := fun i H' hi g => by
    rw [List.length_zipIdx] at hi
    exact ⟨_, _, g.seq ha, by rw [List.getElem?_map, List.getElem?_eq_getElem hi]; rfl⟩
  yld := fun i H' x H'' hi g y => by
    have hi2 := hi
    rw [List.length_zipIdx] at hi2
    obtain ⟨T, u, rfl, nT, rfl, h1⟩ := y
    have e1 := h1 _ (g.seq ha)
    rw [List.getElem?_map, List.getElem?_eq_getElem hi2] at e1
    cases e1
    refine ⟨(Gr.refl _).new nT, (l[i], i), ?_, T, rfl, upd_same⟩
    rw [List.getElem?_zipIdx, List.getElem?_eq_getElem hi2]
    simp
  stop := fun H' g => by
    refine ⟨_, g.seq ha, ?_⟩
    rw [List.length_map, List.length_zipIdx]
    exact Nat.le_refl _
theorem lcL {α : Type} {K : PySem.W.Frag} {H1 : Hp} {a : Addr} {l : List α} {φ : α → V} {g : TG} {tt : TT} {te : TE} {vs : List Nat} {σ : L2.St} {D : Addr} {Qd : Hp → Prop} (ha : SqL K H1 a (l.map φ)) (p : α → Bool) (f : α → V) (nD : H1 D = none) (hz : l.length ≤ 16000000)
    (hs : ∀ x H' (Y : VK) (N : Hp → Prop), x ∈ l → Gr H1 H' → (p x = true → ∀ H'', Gr H' H'' → Y (f x) H'') → (p x = false → ∀ H'', Gr H' H'' → N H'') →
      g (φ x) (wipe σ vs) H' fun σ2 H2 => wipe σ2 vs = wipe σ vs ∧ tt σ2 H2 fun b H3 => if b = true then te σ2 H3 Y else N H3)
    (hd : ∀ H', Gr H1 H' → H' D = some (.lst ((l.filter p).map f)) → Qd H') :
    ∃ W : Nat → Nat → Hp → Prop, (∃ m, W 0 m (upd H1 D (.lst []))) ∧ ∀ i m H, W i m H →
      ((Itl K a).stop i H ∧ Qd H) ∨ ((Itl K a).go i H ∧ ∃ Nx : Hp → Prop, (∀ H', Nx H' → ∃ m', m' < m ∧ W (i + 1) m' H') ∧ ∀ x H', (Itl K a).yld i H x H' → g x (wipe σ vs) H' fun σ2 H2 => wipe σ2 vs = wipe σ vs ∧ tt σ2 H2 fun b H3 =>
        if b = true then te σ2 H3 fun y H4 => ∃ acc, H4 D = some (.lst acc) ∧ acc.length < sizeLine ∧ Nx (upd H4 D (.lst (acc ++ [y]))) else Nx H3) := lcH (handsL_list ha) p f nD hz hs hd
/-- words: each w of ws by a test and a word -/
theorem lcW {K : PySem.W.Frag} {H1 : Hp} {a : Addr} {ws : List (List Nat)} {g : TG} {tt : TT} {te : TE} {vs : List Nat} {σ : L2.St} {D : Addr} {Qd : Hp → Prop} (ha : SqL K H1 a (vws ws)) (p : List Nat → Bool) (f : List Nat → List Nat) (nD : H1 D = none) (hz : ws.length ≤ 16000000)
    (hs : ∀ w H' (Y : VK) (N : Hp → Prop), w ∈ ws → Gr H1 H' → (p w = true → ∀ H'', Gr H' H'' → Y (.str (wd (f w))) H'') → (p w = false → ∀ H'', Gr H' H'' → N H'') →
      g (.str (wd w)) (wipe σ vs) H' fun σ2 H2 => wipe σ2 vs = wipe σ vs ∧ tt σ2 H2 fun b H3 => if b = true then te σ2 H3 Y else N H3)
    (hd : ∀ H', Gr H1 H' → H' D = some (.lst (vws ((ws.filter p).map f))) → Qd H') :
    ∃ W : Nat → Nat → Hp → Prop, (∃ m, W 0 m (upd H1 D (.lst []))) ∧ ∀ i m H, W i m H →
      ((Itl K a).stop i H ∧ Qd H) ∨ ((Itl K a).go i H ∧ ∃ Nx : Hp → Prop, (∀ H', Nx H' → ∃ m', m' < m ∧ W (i + 1) m' H') ∧ ∀ x H', (Itl K a).yld i H x H' → g x (wipe σ vs) H' fun σ2 H2 => wipe σ2 vs = wipe σ vs ∧ tt σ2 H2 fun b H3 =>
        if b = true then te σ2 H3 fun y H4 => ∃ acc, H4 D = some (.lst acc) ∧ acc.length < sizeLine ∧ Nx (upd H4 D (.lst (acc ++ [y]))) else Nx H3) :=
  lcL (φ := fun w => V.str (wd w)) ha p (fun w => .str (wd (f w))) nD hz hs fun H' g1 e => hd H' g1 (by unfold vws; rw [List.map_map]; exact e)
/-- a comprehension of two lists -/
theorem lc2L {α β : Type} {K : PySem.W.Frag} {H1 : Hp} {a b : Addr} {l : List α} {φ : α → V} {m : List β} {ψ : β → V} {wi1 : TI} {te : TE} {vs vs1 : List Nat} {σ : L2.St} {D : Addr} {Qd : Hp → Prop} {v v1 : Nat} (ha : SqL K H1 a (l.map φ)) (hb : SqL K H1 b (m.map ψ)) (f : α → β → V) (nD : H1 D = none) (hz : l.length * m.length ≤ 16000000)
    (hi : ∀ x H' (Z : It → Hp → Prop), x ∈ l → Gr H1 H' → Z (Itl K b) H' → wi1 ((wipe σ vs).set v (some (φ x))) H' Z)
    (hw : ∀ x, wipe ((wipe σ vs).set v (some (φ x))) vs = wipe σ vs) (hw1 : ∀ x y, wipe ((wipe ((wipe σ vs).set v (some (φ x))) vs1).set v1 (some (ψ y))) vs1 = wipe ((wipe σ vs).set v (some (φ x))) vs1)
    (hs : ∀ x y H' (Y : VK), x ∈ l → y ∈ m → Gr H1 H' → (∀ H'', Gr H' H'' → Y (f x y) H'') → te ((wipe ((wipe σ vs).set v (some (φ x))) vs1).set v1 (some (ψ y))) H' Y)
    (hd : ∀ H', Gr H1 H' → H' D = some (.lst (l.flatMap fun x => m.map (f x))) → Qd H') :
    ∃ W : Nat → Nat → Hp → Prop, (∃ m, W 0 m (upd H1 D (.lst []))) ∧ ∀ i m H, W i m H →
      ((Itl K a).stop i H ∧ Qd H) ∨ ((Itl K a).go i H ∧ ∃ Nx : Hp → Prop, (∀ H', Nx H' → ∃ m', m' < m ∧ W (i + 1) m' H') ∧ ∀ x H', (Itl K a).yld i H x H' → gName v x (wipe σ vs) H' fun σ2 H2 => wipe σ2 vs = wipe σ vs ∧ tYes σ2 H2 fun b H3 =>
        if b = true then wi1 σ2 H3 fun J1 H4 => ∃ W1 : Nat → Nat → Hp → Prop, (∃ m, W1 0 m H4) ∧ ∀ j k H, W1 j k H →
          (J1.stop j H ∧ Nx H) ∨ (J1.go j H ∧ ∃ Nx1 : Hp → Prop, (∀ H', Nx1 H' → ∃ k', k' < k ∧ W1 (j + 1) k' H') ∧ ∀ x H', J1.yld j H x H' → gName v1 x (wipe σ2 vs1) H' fun σ3 H5 => wipe σ3 vs1 = wipe σ2 vs1 ∧ tYes σ3 H5 fun b H6 =>
            if b = true then te σ3 H6 fun y H7 => ∃ acc, H7 D = some (.lst acc) ∧ acc.length < sizeLine ∧ Nx1 (upd H7 D (.lst (acc ++ [y]))) else Nx1 H6)
        else Nx H3) := by
  have ll : (l.map φ).length = l.length := List.length_map ..
  have lm : (m.map ψ).length = m.length := List.length_map ..
  have lf : ∀ (l' : List α), (l'.flatMap fun x => m.map (f x)).length = l'.length * m.length := fun l' => flat_len fun x _ => List.length_map ..
  refine walk_n l.length (fun i H' => Gr H1 H' ∧ H' D = some (.lst ((l.take i).flatMap fun x => m.map (f x)))) ⟨(Gr.refl H1).new nD, upd_same⟩ (fun i H' hi1 ⟨i1, i2⟩ => ⟨itl_go (i1.seq ha) (by rw [ll]; exact hi1), fun x H'' y => ?_⟩) (fun H' ⟨i1, i2⟩ => ⟨itl_stop (i1.seq ha) ll, hd H' i1 (by rw [List.take_length] at i2; exact i2)⟩)
  obtain ⟨rfl, ex⟩ := itl_yld (i1.seq ha) y
  have gi : l[i]? = some l[i] := List.getElem?_eq_getElem hi1
  have hm : l[i] ∈ l := List.getElem_mem hi1
  have e9 := flat_take (f := fun x => m.map (f x)) gi
  rw [List.getElem?_map, gi] at ex
  cases ex
  generalize l[i] = x at gi hm e9
  refine ⟨hw x, yes (iteT ?_)⟩
  refine hi x H'' _ hm i1 ?_
  have lb : ((l.take i).flatMap fun x => m.map (f x)).length + m.length ≤ 16000000 := by
    rw [lf, List.length_take, ← Nat.succ_mul]
    exact Nat.le_trans (Nat.mul_le_mul_right _ (by omega)) hz
  refine walk_n m.length (fun j H2 => Gr H1 H2 ∧ H2 D = some (.lst (((l.take i).flatMap fun x => m.map (f x)) ++ (m.take j).map (f x)))) ⟨i1, by rw [List.take_zero, List.map_nil, List.append_nil]; exact i2⟩ (fun j H2 hj ⟨j1, j2⟩ => ⟨itl_go (j1.seq hb) (by rw [lm]; exact hj), fun z H3 y => ?_⟩) (fun H2 ⟨j1, j2⟩ => ⟨itl_stop (j1.seq hb) lm, j1, ?_⟩)
  · obtain ⟨rfl, ez⟩ := itl_yld (j1.seq hb) y
    have gj : m[j]? = some m[j] := List.getElem?_eq_getElem hj
    have hmj : m[j] ∈ m := List.getElem_mem hj
    rw [List.getElem?_map, gj] at ez
    cases ez
    generalize m[j] = u at gj hmj
    refine ⟨hw1 x u, yes (iteT ?_)⟩
    refine hs x u H3 _ hm hmj j1 fun H4 g4 => ⟨_, g4.lst j2, ?_, (j1.trans g4).over nD, ?_⟩
    · rw [List.length_append, List.length_map, List.length_take]
      exact sz' (by omega)
    · rw [upd_same, List.take_add_one, gj, List.map_append, List.append_assoc]
      rfl
  · rw [List.take_length] at j2
    rw [e9]
    exact j2
theorem sum_cast (w : List Nat) : (w.map fun d : Nat => (d : Int)).sum = ((w.sum : Nat) : Int) := by
  induction w with
  | nil => rfl
  | cons x w ih => rw [List.map_cons, List.sum_cons, ih, List.sum_cons, Int.natCast_add]
theorem filter_yes {α : Type} (l : List α) : l.filter (fun _ => true) = l := List.filter_eq_self.mpr fun _ _ => rfl
end Wa
namespace Wa
open PySem PySem.Spec PyProof.Rows L2
/-! facts about heaps carried on -/
theorem at_same {H H9 : Hp} {l : Addr} {o : HO} (hU : upd H l o = H9) : H9 l = some o := by
  rw [← hU]
  exact upd_same
theorem at_ne {H H9 : Hp} {l a : Addr} {o : HO} {x : Option HO} (hU : upd H l o = H9) (n : a ≠ l) (h : H a = x) : H9 a = x := by
  rw [← hU, upd_ne n]
  exact h
theorem at_oth {H H9 : Hp} {l a : Addr} {x : HO} (hU : Others l H H9) (n : a ≠ l) (h : H a = some x) : H9 a = some x := hU a x n h
theorem at_pop {H H9 : Hp} {l a : Addr} {x : HO} (hU : ∀ b, b ≠ l → ∀ o, H b = some o → H9 b = some o) (n : a ≠ l) (h : H a = some x) : H9 a = some x := hU a n x h
theorem at_gr {H H9 : Hp} {a : Addr} {xs : List V} (g : Gr H H9) (h : H a = some (.lst xs)) : H9 a = some (.lst xs) := g.lst h
theorem at_grT {H H9 : Hp} {a : Addr} {xs : List V} (g : Gr H H9) (h : H a = some (.tup xs)) : H9 a = some (.tup xs) := g.tup h
theorem at_sm {H H9 : Hp} {a : Addr} {x : HO} (g : Same H H9) (h : H a = some x) : H9 a = some x := g a x h
theorem tb_gr {H H9 : Hp} {P : Addr} (g : Gr H H9) (h : GxR.TabG H P) : GxR.TabG H9 P := g.tab P h
theorem tb_sm {H H9 : Hp} {P : Addr} (g : Same H H9) (h : GxR.TabG H P) : GxR.TabG H9 P := (Gr.of g).tab P h
theorem tb_new {H H9 : Hp} {l P : Addr} {o : HO} (hU : upd H l o = H9) (n : H l = none) (h : GxR.TabG H P) : GxR.TabG H9 P := by
  rw [← hU]
  exact ((Gr.refl H).new n).tab P h
theorem tb_ne {H : Hp} {l P : Addr} {xs : List V} (h : GxR.TabG H P) (hl : H l = some (.lst xs)) : P ≠ l := by
  obtain ⟨ps, e, _⟩ := h
  intro z
  rw [z, hl] at e
  cases e
theorem tb_upd {H H9 : Hp} {l P : Addr} {o : HO} {xs : List V} (hU : upd H l o = H9) (hl : H l = some (.lst xs)) (h : GxR.TabG H P) : GxR.TabG H9 P := by
  have n := tb_ne h hl
  obtain ⟨ps, e, t⟩ := h
  exact ⟨ps, at_ne hU n e, t⟩
theorem tb_oth {H H9 : Hp} {l P : Addr} {xs : List V} (hU : Others l H H9) (hl : H l = some (.lst xs)) (h : GxR.TabG H P) : GxR.TabG H9 P := by
  have n := tb_ne h hl
  obtain ⟨ps, e, t⟩ := h
  exact ⟨ps, hU _ _ n e, t⟩
theorem tb_pop {H H9 : Hp} {l P : Addr} {xs : List V} (hU : ∀ b, b ≠ l → ∀ o, H b = some o → H9 b = some o) (hl : H l = some (.lst xs)) (h : GxR.TabG H P) : GxR.TabG H9 P := by
  have n := tb_ne h hl
  obtain ⟨ps, e, t⟩ := h
  exact ⟨ps, hU _ n _ e, t⟩
theorem ne_none {H : Hp} {a b : Addr} {xs : List V} (h' : H b = none) (h : H a = some (.lst xs)) : a ≠ b := ne_of_none h h'
theorem ne_none' {H : Hp} {a b : Addr} {xs : List V} (h' : H a = none) (h : H b = some (.lst xs)) : a ≠ b := (ne_of_none h h').symm
theorem ne_noneT {H : Hp} {a b : Addr} {xs : List V} (h' : H b = none) (h : H a = some (.tup xs)) : a ≠ b := ne_of_none h h'
theorem ne_noneT' {H : Hp} {a b : Addr} {xs : List V} (h' : H a = none) (h : H b = some (.tup xs)) : a ≠ b := (ne_of_none h h').symm
theorem ne_kind {H : Hp} {a b : Addr} {xs ys : List V} (h : H a = some (.tup xs)) (h' : H b = some (.lst ys)) : a ≠ b := fun z => by
  rw [z, h'] at h
  cases h
/-! comparing lists of words, of numbers -/
section
variable {K : PySem.W.Frag} {H : Hp} {a b : Addr} {A B : List (List Nat)} {Q : VK}
theorem eqW (ha : H a = some (.lst (vws A))) (hb : H b = some (.lst (vws B))) (fa : Figs A) (fb : Figs B) (h : Q (.bl (decide (A = B))) H) : rEqD K (.ref a) (.ref b) H Q :=
  ⟨dws A, dws B, .lst (sq ha) (dp_ws _), .lst (sq hb) (dp_ws _), sh_ws fa, sh_ws fb, by rw [eqv_ws]; exact h⟩
theorem neW (ha : H a = some (.lst (vws A))) (hb : H b = some (.lst (vws B))) (fa : Figs A) (fb : Figs B) (h : Q (.bl (!decide (A = B))) H) : rNeD K (.ref a) (.ref b) H Q :=
  ⟨dws A, dws B, .lst (sq ha) (dp_ws _), .lst (sq hb) (dp_ws _), sh_ws fa, sh_ws fb, by rw [eqv_ws]; exact h⟩
theorem eqW1 (ha : H a = some (.lst (vws A))) (hb : H b = some (.lst (vws A))) (fa : Figs A) (h : Q (.bl true) H) : rEqD K (.ref a) (.ref b) H Q := eqW ha hb fa fa (by rw [decide_eq_true rfl]; exact h)
theorem neW1 (ha : H a = some (.lst (vws A))) (hb : H b = some (.lst (vws A))) (fa : Figs A) (h : Q (.bl false) H) : rNeD K (.ref a) (.ref b) H Q := neW ha hb fa fa (by rw [decide_eq_true rfl]; exact h)
end
theorem figs_nil : Figs [] := fun w hw => absurd hw (by simp)
theorem figs_of_mem {q n : Nat} {ws : List (List Nat)} (hq : q ≤ 3) (h : ∀ w ∈ ws, Wd q n w) : Figs ws := figs_of hq h
/-! sorted lists of words -/
def leW (a b : List Nat) : Bool := decide (a ≤ b)
def srt (ws : List (List Nat)) : List (List Nat) := ws.mergeSort leW
theorem srt_perm (ws : List (List Nat)) : (srt ws).Perm ws := List.mergeSort_perm ..
theorem srt_mem {ws : List (List Nat)} {w : List Nat} : w ∈ srt ws ↔ w ∈ ws := (srt_perm ws).mem_iff
theorem srt_len (ws : List (List Nat)) : (srt ws).length = ws.length := (srt_perm ws).length_eq
theorem map_lt : ∀ {a b : List Nat}, a.map (48 + ·) < b.map (48 + ·) ↔ a < b
  | [], [] => by simp
  | [], y :: b => by simp
  | x :: a, [] => by simp
  | x :: a, y :: b => by
    have ih := map_lt (a := a) (b := b)
    rw [List.map_cons, List.map_cons, List.cons_lt_cons_iff, List.cons_lt_cons_iff, ih]
    constructor
    · rintro (h | ⟨h, h'⟩)
      · exact .inl (by omega)
      · exact .inr ⟨by omega, h'⟩
    · rintro (h | ⟨h, h'⟩)
      · exact .inl (by omega)
      · exact .inr ⟨by omega, h'⟩
theorem srt_ris (ws : List (List Nat)) : RisW (srt ws) ws := by
  refine ⟨srt_perm ws, ?_⟩
  have h : (srt ws).Pairwise fun a b => leW a b = true := List.pairwise_mergeSort (le := leW) (fun a b c h1 h2 => decide_eq_true (List.le_trans (of_decide_eq_true h1) (of_decide_eq_true h2)))
    (fun a b => by
      unfold leW
      rw [Bool.or_eq_true, decide_eq_true_eq, decide_eq_true_eq]
      exact List.le_total a b) ws
  show ((srt ws).map wd).Pairwise _
  rw [List.pairwise_map]
  refine h.imp fun {a b} h => ?_
  rw [wd_list, wd_list, map_lt]
  exact List.not_lt.mpr (of_decide_eq_true h)
theorem srt_of {R S : List (List Nat)} (h : RisW R S) : R = srt S := risW_eq h (srt_ris S) (List.Perm.refl _)
theorem srt_congr {S T : List (List Nat)} (h : S.Perm T) : srt S = srt T := risW_eq (srt_ris S) (srt_ris T) h
theorem srt_srt (S : List (List Nat)) : srt (srt S) = srt S := srt_congr (srt_perm S)
theorem Figs.srt {ws : List (List Nat)} (h : Figs ws) : Figs (srt ws) := fun w hw => h w (srt_mem.mp hw)
def rSortW (K : PySem.W.Frag) : List V → Hp → VK → Prop := fun vs H Q => ∃ (a : Addr) (ws : List (List Nat)), vs = [V.ref a] ∧ SqL K H a (vws ws) ∧ ∀ (H' : Hp) (p : Addr), Gr H H' → H p = none → H' p = some (.lst (vws (srt ws))) → Q (.ref p) H'
theorem cr_sortW {X : Cx} : CallR X (.builtin "sorted") (rSortW X.K) := by
  intro pins s σ H vs us Q I r h
  obtain ⟨a, ws, rfl, hs, q⟩ := h
  refine cr_sortedT pins s σ H _ us Q I r ⟨a, tws ws, rfl, by rw [tws_v]; exact hs, fun ys p hp hr np => ?_⟩
  obtain ⟨R, rfl, hR⟩ := risW_of hp hr
  rw [srt_of hR, tws_v]
  exact q _ p ((Gr.refl H).new np) np upd_same
/-- a new object, by what is known of the heap behind it -/
theorem newO {H : Hp} {o : HO} {Q : VK} (h : ∀ H' p, Gr H H' → H p = none → H' p = some o → Q (.ref p) H') : ∀ p, H p = none → Q (.ref p) (upd H p o) := fun p np => h _ p ((Gr.refl H).new np) np upd_same
end Wa
namespace Wa
open PySem PySem.Spec PyProof.Rows L2
/-- two ways that go on alike -/
theorem join {goal : Prop} {C P : Hp → Prop} (main : (∀ Hx, P Hx → C Hx) → goal) (rest : ∀ Hx, P Hx → C Hx) : goal := main rest
/-- the last word of a list goes -/
theorem popW {ws : List (List Nat)} (h : ws ≠ []) : ∃ w, (vws ws)[(vws ws).length - 1]? = some (V.str (wd w)) := by
  have hl : ws.length - 1 < ws.length := by
    have := List.length_pos_iff.mpr h
    omega
  refine ⟨ws[ws.length - 1], ?_⟩
  rw [vws_len, vws_get, List.getElem?_eq_getElem hl]
  rfl
end Wa
namespace Wa
open PySem PySem.Spec PyProof.Rows L2
/-! data of several layers compared -/
def Nice (n : Nat) (d : PyData) : Prop := d.canLay0 = true ∧ d.depth ≤ n
theorem nice_all {n : Nat} : ∀ {ds : List PyData}, (∀ d ∈ ds, Nice n d) → PyData.canLayAll0 ds = true ∧ PyData.depthAll ds ≤ n
  | [], _ => ⟨rfl, Nat.zero_le _⟩
  | d :: r, h => by
    obtain ⟨i1, i2⟩ := nice_all fun x hx => h x (List.mem_cons_of_mem _ hx)
    obtain ⟨j1, j2⟩ := h d List.mem_cons_self
    refine ⟨?_, ?_⟩
    · show (d.canLay0 && PyData.canLayAll0 r) = true
      rw [i1, j1]
      rfl
    · show max d.depth (PyData.depthAll r) ≤ n
      omega
theorem nice_list {n : Nat} {ds : List PyData} (h : ∀ d ∈ ds, Nice n d) : Nice (n + 1) (.list ds) := ⟨(nice_all h).1, by
  have := (nice_all h).2
  show PyData.depthAll ds + 1 ≤ n + 1
  omega⟩
theorem nice_tup {n : Nat} {ds : List PyData} (h : ∀ d ∈ ds, Nice n d) : Nice (n + 1) (.tuple ds) := ⟨(nice_all h).1, by
  have := (nice_all h).2
  show PyData.depthAll ds + 1 ≤ n + 1
  omega⟩
theorem Nice.mono {n m : Nat} {d : PyData} (h : Nice n d) (hm : n ≤ m) : Nice m d := ⟨h.1, Nat.le_trans h.2 hm⟩
theorem nice_int (n : Nat) (i : Int) : Nice n (.int i) := ⟨rfl, Nat.zero_le _⟩
theorem nice_str (n : Nat) {w : List Nat} (h : ∀ d ∈ w, d < 10) : Nice n (.str (wd w)) := ⟨wd_ok h, Nat.zero_le _⟩
theorem nice_ws {A : List (List Nat)} (h : Figs A) : Nice 1 (dws A) := nice_list fun d hd => by
  obtain ⟨w, hw, rfl⟩ := List.mem_map.mp hd
  exact nice_str 0 (h w hw)
theorem nice_ns (A : List Int) : Nice 1 (dns A) := nice_list fun d hd => by
  obtain ⟨w, hw, rfl⟩ := List.mem_map.mp hd
  exact nice_int 0 w
theorem Nice.shaped {n : Nat} {d : PyData} (h : Nice n d) (hn : n ≤ 64) : SeqAt.shaped d = true := by
  unfold SeqAt.shaped
  rw [Bool.and_eq_true]
  exact ⟨h.1, decide_eq_true (Nat.le_trans h.2 hn)⟩
section
variable {K : PySem.W.Frag} {H : Hp} {x y : V} {d : PyData} {Q : VK} {n : Nat}
theorem eqD1 (hx : Dp K H x d) (hy : Dp K H y d) (hn : Nice n d) (h64 : n ≤ 64) (h : Q (.bl true) H) : rEqD K x y H Q := ⟨d, d, hx, hy, hn.shaped h64, hn.shaped h64, by rw [SeqAt.eqv_refl d hn.1]; exact h⟩
theorem neD1 (hx : Dp K H x d) (hy : Dp K H y d) (hn : Nice n d) (h64 : n ≤ 64) (h : Q (.bl false) H) : rNeD K x y H Q := ⟨d, d, hx, hy, hn.shaped h64, hn.shaped h64, by rw [SeqAt.eqv_refl d hn.1]; exact h⟩
end
theorem dpW {K : PySem.W.Frag} {H : Hp} {a : Addr} {A : List (List Nat)} (h : H a = some (.lst (vws A))) : Dp K H (.ref a) (dws A) := .lst (sq h) (dp_ws _)
theorem dpN {K : PySem.W.Frag} {H : Hp} {a : Addr} {A : List Int} (h : H a = some (.lst (A.map V.int))) : Dp K H (.ref a) (dns A) := .lst (sq h) (dp_ns _)
theorem dpL2 {K : PySem.W.Frag} {H : Hp} {a : Addr} {x y : V} {d e : PyData} (h : H a = some (.lst [x, y])) (hx : Dp K H x d) (hy : Dp K H y e) : Dp K H (.ref a) (.list [d, e]) := .lst (sq h) (.cons hx (.cons hy .nil))
theorem dpT2 {K : PySem.W.Frag} {H : Hp} {a : Addr} {x y : V} {d e : PyData} (h : H a = some (.tup [x, y])) (hx : Dp K H x d) (hy : Dp K H y e) : Dp K H (.ref a) (.tuple [d, e]) := .tup (.inl (.inl h)) (.cons hx (.cons hy .nil))
theorem nice_l2 {n : Nat} {d e : PyData} (h1 : Nice n d) (h2 : Nice n e) : Nice (n + 1) (.list [d, e]) := nice_list fun x hx => by
  rcases List.mem_cons.mp hx with z | z
  · rw [z]; exact h1
  · rw [List.mem_singleton.mp z]; exact h2
theorem nice_t2 {n : Nat} {d e : PyData} (h1 : Nice n d) (h2 : Nice n e) : Nice (n + 1) (.tuple [d, e]) := nice_tup fun x hx => by
  rcases List.mem_cons.mp hx with z | z
  · rw [z]; exact h1
  · rw [List.mem_singleton.mp z]; exact h2
end Wa
namespace Wa
open PySem PySem.Spec PyProof.Rows L2
/-! len, list, by a named question -/
def rLen (K : PySem.W.Frag) : List V → Hp → VK → Prop := fun xs H Q => ∃ p ys, xs = [.ref p] ∧ (SqL K H p ys ∨ SqT K H p ys) ∧ Q (.int ys.length) H
theorem call_lenK {X : Cx} : CallR X (.builtin "len") (rLen X.K) := call_len_seq
def rListOf (K : PySem.W.Frag) : List V → Hp → VK → Prop := fun xs H Q => ∃ p ys, xs = [.ref p] ∧ (SqL K H p ys ∨ SqT K H p ys) ∧ ∀ l, H l = none → Q (.ref l) (upd H l (.lst ys))
theorem call_listK {X : Cx} : CallR X (.type "list") (rListOf X.K) := call_list_of
end Wa
namespace Wa
open PySem PySem.Spec PyProof.Rows L2
/-! sizes by drawn numbers -/
/-- how long words may be -/
def cap (q : Nat) : Nat := if q = 2 then 8 else 5
theorem cap_pos (q : Nat) : 0 < cap q := by
  unfold cap
  split <;> decide
theorem cap_at {q : Nat} (h : q = 2 ∨ q = 3) : atI [V.int 8, V.int 5] ((q : Int) - 2) = some (.int (cap q : Nat)) := by
  rcases h with h | h <;> rw [h] <;> rfl
theorem two_three (x : Int) : ∃ q : Nat, 2 + x % 2 = (q : Int) ∧ (q = 2 ∨ q = 3) := ⟨(2 + x % 2).toNat, by omega, by omega⟩
theorem len_qn {q : Nat} (h : q = 2 ∨ q = 3) (y : Int) : ∃ n : Nat, 1 + y % ((cap q : Nat) : Int) = (n : Int) ∧ QN q n := by
  have h0 := cap_pos q
  have e1 := Int.emod_nonneg y (show ((cap q : Nat) : Int) ≠ 0 by omega)
  have e2 := Int.emod_lt_of_pos y (show (0 : Int) < ((cap q : Nat) : Int) by omega)
  refine ⟨(1 + y % ((cap q : Nat) : Int)).toNat, by omega, ?_⟩
  rcases h with h | h
  · subst h
    have : cap 2 = 8 := rfl
    exact .inl ⟨rfl, by omega, by omega⟩
  · subst h
    have : cap 3 = 5 := rfl
    exact .inr ⟨rfl, by omega, by omega⟩
theorem two_of {a b : Nat} (k : Bool) : ∃ m : Nat, (m = a ∨ m = b) ∧ atI [V.int (a : Int), V.int (b : Int)] (if k = true then 1 else 0) = some (.int (m : Int)) := by
  cases k
  · exact ⟨a, .inl rfl, rfl⟩
  · exact ⟨b, .inr rfl, rfl⟩
end Wa
namespace Wa
open PySem PySem.Spec PyProof.Rows L2
/-! operators, the value renamed -/
section
variable {x y z : Int} {H : Hp} {Q : VK}
theorem rdAdd (e : x + y = z) (h : Q (.int z) H) : rI0 (fun i j => V.int (i + j)) (.int x) (.int y) H Q := ⟨x, y, rfl, rfl, by rw [← e] at h; exact h⟩
theorem rdSub (e : x - y = z) (h : Q (.int z) H) : rI0 (fun i j => V.int (i - j)) (.int x) (.int y) H Q := ⟨x, y, rfl, rfl, by rw [← e] at h; exact h⟩
theorem rdMod (h0 : 0 < y) (e : x % y = z) (h : Q (.int z) H) : rI (fun _ j => 0 < j) (fun i j => V.int (i % j)) (.int x) (.int y) H Q := ⟨x, y, rfl, rfl, h0, by rw [← e] at h; exact h⟩
theorem rdDiv (h0 : CDiv x y) (e : x / y = z) (h : Q (.int z) H) : rI CDiv (fun i j => V.int (i / j)) (.int x) (.int y) H Q := ⟨x, y, rfl, rfl, h0, by rw [← e] at h; exact h⟩
end
end Wa
namespace Wa
open PySem PySem.Spec PyProof.Rows L2
theorem join2 {α : Type} {goal : Prop} {C P : α → Hp → Prop} (main : (∀ x Hx, P x Hx → C x Hx) → goal) (rest : ∀ x Hx, P x Hx → C x Hx) : goal := main rest
end Wa
namespace Wa
open PySem PySem.Spec PyProof.Rows L2
/-- what stood stands but for what is at a; tables may have grown -/
structure OG (a : Addr) (H H' : Hp) : Prop where
  keep : ∀ b o, b ≠ a → H b = some o → (∀ ps, o ≠ .tbl ps) → H' b = some o
  tab : ∀ b, b ≠ a → GxR.TabG H b → GxR.TabG H' b
  there : ∀ b o, H b = some o → ∃ o', H' b = some o'
theorem OG.gr {a : Addr} {H H' : Hp} (g : Gr H H') : OG a H H' := ⟨fun b o _ e n => g.keep b o e n, fun b _ h => g.tab b h, g.there⟩
theorem OG.trans {a : Addr} {H H1 H2 : Hp} (x : OG a H H1) (y : OG a H1 H2) : OG a H H2 := ⟨fun b o n e t => y.keep b o n (x.keep b o n e t) t, fun b n h => y.tab b n (x.tab b n h), fun b o e => by
  obtain ⟨o1, e1⟩ := x.there b o e
  exact y.there b o1 e1⟩
theorem OG.pop {a : Addr} {H H' : Hp} (h : ∀ b, b ≠ a → ∀ o, H b = some o → H' b = some o) (ha : ∃ o, H' a = some o) : OG a H H' := ⟨fun b o n e _ => h b n o e, fun b n t => by
  obtain ⟨ps, e, q⟩ := t
  exact ⟨ps, h b n _ e, q⟩, fun b o e => by
  by_cases hb : b = a
  · rw [hb]; exact ha
  · exact ⟨o, h b hb o e⟩⟩
theorem OG.others {a : Addr} {H H' : Hp} (h : Others a H H') (ha : ∃ o, H' a = some o) : OG a H H' := OG.pop (fun b n o e => h b o n e) ha
theorem OG.over {a p : Addr} {H H1 : Hp} {o : HO} (g : OG a H H1) (h : H p = none) : OG a H (upd H1 p o) where
  keep := fun b u n e t => by
    rw [upd_ne (ne_of_none e h)]
    exact g.keep b u n e t
  tab := fun b n hb => by
    obtain ⟨ps, e, q⟩ := g.tab b n hb
    obtain ⟨ps0, e0, _⟩ := hb
    exact ⟨ps, by rw [upd_ne (ne_of_none e0 h)]; exact e, q⟩
  there := fun b u e => by
    rw [upd_ne (ne_of_none e h)]
    exact g.there b u e
theorem OG.free {a l : Addr} {H H' : Hp} (g : OG a H H') (h : H' l = none) : H l = none := by
  cases q : H l with
  | none => rfl
  | some o =>
    obtain ⟨o', e⟩ := g.there l o q
    rw [e] at h
    cases h
theorem at_og {H H9 : Hp} {l a : Addr} {xs : List V} (g : OG l H H9) (n : a ≠ l) (h : H a = some (.lst xs)) : H9 a = some (.lst xs) := g.keep a _ n h fun _ z => by cases z
theorem at_ogT {H H9 : Hp} {l a : Addr} {xs : List V} (g : OG l H H9) (n : a ≠ l) (h : H a = some (.tup xs)) : H9 a = some (.tup xs) := g.keep a _ n h fun _ z => by cases z
theorem tb_og {H H9 : Hp} {l P : Addr} {xs : List V} (g : OG l H H9) (hl : H l = some (.lst xs)) (h : GxR.TabG H P) : GxR.TabG H9 P := g.tab P (tb_ne h hl) h
end Wa
namespace Wa
open PySem PySem.Spec PyProof.Rows L2
theorem flat_vws (S : List (List Nat)) : (vws S).all flatV = true := by
  rw [List.all_eq_true]
  intro x hx
  obtain ⟨w, _, rfl⟩ := List.mem_map.mp hx
  rfl
theorem in_wsv (w : List Nat) (S : List (List Nat)) : inV (.str (wd w)) (vws S) = decide (w ∈ S) := by
  have key : inV (.str (wd w)) (vws S) = true ↔ w ∈ S := by
    unfold inV vws
    rw [List.any_map, List.any_eq_true]
    constructor
    · rintro ⟨u, hu, e⟩
      have e : (wd u == wd w) = true := e
      rw [← wd_inj (beq_iff_eq.mp e)]
      exact hu
    · intro h
      exact ⟨w, h, by show (wd w == wd w) = true; exact beq_self_eq_true _⟩
  by_cases h : w ∈ S
  · rw [decide_eq_true h]; exact key.mpr h
  · rw [decide_eq_false h, Bool.eq_false_iff]; exact fun z => h (key.mp z)
theorem inW {K : PySem.W.Frag} {H : Hp} {a : Addr} {S : List (List Nat)} {w : List Nat} {Q : VK} (ha : H a = some (.lst (vws S))) (h : Q (.bl (decide (w ∈ S))) H) : rIn K false (.str (wd w)) (.ref a) H Q :=
  ⟨a, _, rfl, .inl (sq ha), rfl, flat_vws S, by rw [in_wsv]; exact h⟩
theorem notInW {K : PySem.W.Frag} {H : Hp} {a : Addr} {S : List (List Nat)} {w : List Nat} {Q : VK} (ha : H a = some (.lst (vws S))) (h : Q (.bl (!decide (w ∈ S))) H) : rIn K true (.str (wd w)) (.ref a) H Q :=
  ⟨a, _, rfl, .inl (sq ha), rfl, flat_vws S, by rw [in_wsv]; exact h⟩
end Wa
namespace Wa
open PySem PySem.Spec PyProof.Rows L2
def topS (i : Nat) : Stmt := PySem.Challenge.pw_wordsapart_k20_ways_and_waves.main.body.getD i (.Pass ⟨0, 0, 0, 0⟩)
abbrev sWays : Stmt := topS 1
abbrev sPow : Stmt := topS 2
abbrev sWPart : Stmt := topS 3
abbrev sWave : Stmt := topS 4
abbrev sMix : Stmt := topS 6
abbrev sDraws2 : Stmt := topS 7
abbrev sPop : Stmt := topS 8
abbrev sLWords : Stmt := topS 9
abbrev sSize2 : Stmt := topS 10
abbrev sChosen : Stmt := topS 11
abbrev sLaw : Stmt := topS 12
end Wa
namespace Wa
open PySem PySem.Spec PyProof.Rows L2
/-! ways to choose; waves -/
def chs : Nat → Nat → Nat
  | _, 0 => 1
  | 0, _ + 1 => 0
  | n + 1, k + 1 => chs n k + chs n (k + 1)
theorem chs_zero (n : Nat) : chs n 0 = 1 := by cases n <;> rfl
theorem chs_big : ∀ {n k : Nat}, n < k → chs n k = 0
  | 0, 0, h => absurd h (by decide)
  | 0, k + 1, _ => rfl
  | n + 1, 0, h => absurd h (by omega)
  | n + 1, k + 1, h => by
    show chs n k + chs n (k + 1) = 0
    rw [chs_big (by omega), chs_big (by omega)]
theorem chs_self : ∀ n, chs n n = 1
  | 0 => rfl
  | n + 1 => by
    show chs n n + chs n (n + 1) = 1
    rw [chs_self n, chs_big (by omega)]
/-- told * (a + i + 1) = (i + 1) * next -/
theorem chs_step : ∀ (m k : Nat), chs m k * (m - k) = chs m (k + 1) * (k + 1)
  | 0, k => by
    show _ * (0 - k) = 0 * _
    rw [Nat.zero_sub, Nat.mul_zero, Nat.zero_mul]
  | m + 1, 0 => by
    have ih := chs_step m 0
    show chs (m + 1) 0 * (m + 1) = (chs m 0 + chs m 1) * 1
    rw [chs_zero, chs_zero] at *
    have : chs m (0 + 1) = chs m 1 := rfl
    omega
  | m + 1, k + 1 => by
    have h1 := chs_step m k
    have h2 := chs_step m (k + 1)
    show (chs m k + chs m (k + 1)) * (m + 1 - (k + 1)) = (chs m (k + 1) + chs m (k + 2)) * (k + 2)
    by_cases hk : k + 1 ≤ m
    · obtain ⟨d, rfl⟩ : ∃ d, m = k + 1 + d := ⟨m - (k + 1), by omega⟩
      rw [show k + 1 + d - k = d + 1 by omega] at h1
      rw [show k + 1 + d - (k + 1) = d by omega] at h2
      rw [show k + 1 + d + 1 - (k + 1) = d + 1 by omega]
      have h2' : chs (k + 1 + d) (k + 2) * (k + 2) = chs (k + 1 + d) (k + 1) * d := h2.symm
      rw [Nat.add_mul, h1, Nat.add_mul, h2', Nat.mul_add, Nat.mul_add, Nat.mul_add]
      omega
    · by_cases e : m = k
      · subst e
        rw [Nat.sub_self, Nat.mul_zero, chs_big (show m < m + 1 by omega), chs_big (show m < m + 2 by omega), Nat.zero_add, Nat.zero_mul]
      · rw [chs_big (show m < k by omega), chs_big (show m < k + 1 by omega), chs_big (show m < k + 2 by omega)]
        omega
theorem chs_up (a i : Nat) : chs (a + (i + 1)) (i + 1) * (i + 1) = chs (a + i) i * (a + i + 1) := by
  have h := chs_step (a + i) i
  show (chs (a + i) i + chs (a + i) (i + 1)) * (i + 1) = _
  rw [Nat.add_mul, ← h, show a + i - i = a by omega, ← Nat.mul_add, show i + 1 + a = a + i + 1 by omega]
theorem chs_symm : ∀ (a b : Nat), chs (a + b) a = chs (a + b) b
  | 0, b => by rw [Nat.zero_add, chs_zero, chs_self]
  | a + 1, 0 => by rw [Nat.add_zero, chs_zero, chs_self]
  | a + 1, b + 1 => by
    have h1 := chs_symm a (b + 1)
    have h2 := chs_symm (a + 1) b
    rw [show a + 1 + (b + 1) = (a + 1 + b) + 1 by omega]
    show chs (a + 1 + b) a + chs (a + 1 + b) (a + 1) = chs (a + 1 + b) b + chs (a + 1 + b) (b + 1)
    rw [show a + (b + 1) = a + 1 + b by omega] at h1
    omega
theorem chs_le : ∀ (n k : Nat), chs n k ≤ 2 ^ n
  | 0, 0 => by decide
  | 0, _ + 1 => Nat.zero_le _
  | n + 1, 0 => by rw [chs_zero]; exact Nat.pow_pos (by decide)
  | n + 1, k + 1 => by
    have h1 := chs_le n k
    have h2 := chs_le n (k + 1)
    show chs n k + chs n (k + 1) ≤ 2 ^ (n + 1)
    rw [Nat.pow_succ]
    omega
/-- nought out of range -/
def wys (m s : Int) : Int := if 0 ≤ s ∧ s ≤ m then (chs m.toNat s.toNat : Int) else 0
theorem wys_nat (m s : Nat) : wys (m : Int) (s : Int) = (chs m s : Int) := by
  unfold wys
  by_cases h : s ≤ m
  · rw [if_pos ⟨by omega, by omega⟩, Int.toNat_natCast, Int.toNat_natCast]
  · rw [if_neg (by omega), chs_big (by omega)]
    rfl
def wpt (q n k i j : Nat) : Int := (if j % 2 = 0 then 1 else -1) * ((((q - 1) ^ (k - j) * chs i j * chs (n - i) (k - j) : Nat)) : Int)
def wav (q n k i : Nat) : Int := ((List.range (k + 1)).map (wpt q n k i)).sum
theorem wpt_bound {q n k i j : Nat} (hq : q ≤ 3) (hk : k ≤ 20) (hn : n ≤ 20) (hi : i ≤ n) : (wpt q n k i j).natAbs ≤ 2 ^ 40 := by
  have h1 : (q - 1) ^ (k - j) ≤ 2 ^ 20 := Nat.le_trans (Nat.pow_le_pow_left (show q - 1 ≤ 2 by omega) _) (Nat.pow_le_pow_right (by decide) (by omega))
  have h2 : chs i j * chs (n - i) (k - j) ≤ 2 ^ 20 := by
    refine Nat.le_trans (Nat.mul_le_mul (chs_le i j) (chs_le (n - i) (k - j))) ?_
    rw [← Nat.pow_add]
    exact Nat.pow_le_pow_right (by decide) (by omega)
  have h3 : (q - 1) ^ (k - j) * chs i j * chs (n - i) (k - j) ≤ 2 ^ 40 := by
    rw [Nat.mul_assoc]
    exact Nat.le_trans (Nat.mul_le_mul h1 h2) (by decide)
  unfold wpt
  rw [Int.natAbs_mul, Int.natAbs_natCast]
  split
  · show 1 * _ ≤ _
    omega
  · show 1 * _ ≤ _
    omega
theorem sum_bound (B : Nat) : ∀ (l : List Int), (∀ x ∈ l, x.natAbs ≤ B) → l.sum.natAbs ≤ l.length * B
  | [], _ => Nat.zero_le _
  | x :: l, h => by
    have ih := sum_bound B l fun y hy => h y (List.mem_cons_of_mem _ hy)
    have hx := h x List.mem_cons_self
    rw [List.sum_cons, List.length_cons, Nat.succ_mul]
    have := Int.natAbs_add_le x l.sum
    omega
theorem wav_bound {q n k i : Nat} (hq : q ≤ 3) (hk : k ≤ 20) (hn : n ≤ 20) (hi : i ≤ n) : (wav q n k i).natAbs ≤ 2 ^ 45 := by
  unfold wav
  refine Nat.le_trans (sum_bound (2 ^ 40) _ fun x hx => ?_) ?_
  · obtain ⟨j, _, rfl⟩ := List.mem_map.mp hx
    exact wpt_bound hq hk hn hi
  · rw [List.length_map, List.length_range]
    exact Nat.le_trans (Nat.mul_le_mul_right _ (show k + 1 ≤ 21 by omega)) (by decide)
/-- the swells by the counts -/
def swl (q n : Nat) (cs : List Int) : List Int := (List.range (n + 1)).map fun k => ((cs.zipIdx.map fun d => d.1 * wav q n k d.2)).sum
end Wa
namespace Wa
open PySem PySem.Spec PyProof.Rows L2
/-- x *= y -/
theorem ip_mul {X : Cx} : PIp X .Mult (rI CMul fun i j => .int (i * j)) := by
  intro pins s σ H x y v u Q I rx ry ⟨i, j, ex, ey, hc, q⟩
  subst ex
  subst ey
  obtain ⟨t, ev⟩ := rx
  obtain ⟨t2, eu⟩ := ry
  rw [ev, eu]
  exact imul_int ⟨.int _, H, I.tok _, ⟨_, rfl⟩, q⟩ hc.ok
end Wa
namespace Wa
open PySem PySem.Spec PyProof.Rows L2 LamX
/-! calls around which nothing is being shown: str of lists -/
/-- a def's promise where no list is being shown around the call -/
structure FnG (P : Program) (w : World) (K : PySem.W.Frag) (mg : Str → Option Value) (base : Heap) (k : Nat) (f : Addr) (fd : FuncData) (ps : List Str) (sp : Sp) : Prop where
  len : ∀ vs H Q E, sp vs H Q E → vs.length = ps.length
  go : ∀ (B : Around), B.guards = some [] → Room k B → ∀ (out : List Env) (z : Shared) (H : Hp), Env0 P w K mg base B out z H → ∀ (ag : Args) (us : List Value) (vs : List V) (Q : VK) (E : XK),
    BindsTo z fd ag (ps.zip us) → Vals vs us → sp vs H Q E → codeAny (model P w) B (.call (.ref f) ag) (CR CX0 out P w H z Q E) z
theorem FnG.of {P : Program} {w : World} {K : PySem.W.Frag} {mg : Str → Option Value} {base : Heap} {k : Nat} {f : Addr} {fd : FuncData} {ps : List Str} {sp : Sp} (F : FnOk P w K mg base CX0 k f fd ps sp) : FnG P w K mg base k f fd ps sp :=
  ⟨F.len, fun B _ hr out z H e ag us vs Q E hb hv hs => F.run B out z H ag us vs Q E hr e hb hv hs⟩
/-- from the def's body -/
theorem FnG.mk' {P : Program} {w : World} {K : PySem.W.Frag} {mg : Str → Option Value} {base : Heap} {x qual : Str} {st : Stmt} {f : Addr} {fd : FuncData} {N ps : List Str} {k : Nat} {sp : Sp} (F : Fun K x qual st f fd) (S : FnScope N ps (defScope st)) (len : ∀ vs H Q E, sp vs H Q E → vs.length = ps.length)
    (bd : ∀ (cdv : Value) (A : Around) (outer : List Env) (s : Shared) (H : Hp) (vs : List V) (Q : VK) (E : XK), A.guards = some [] → Room k (A.deeper (envOfC qual (defScope st) s.heap.objs.size f cdv)) → sp vs H Q E →
      ∃ t, PSs (cxOf CX0 P w K mg base N qual (defScope st) f cdv A outer s H E).nox (defBody st) t ∧ t { nx := fun _ H' => Q .non H', rt := Q } (start N vs) H) : FnG P w K mg base (k + 1) f fd ps sp := by
  obtain ⟨oc, od, kV, doc, pm, an, cdv, ct, osl, efd, look, code⟩ := F.ex
  subst efd
  constructor
  · exact len
  intro B gB room out z H env ag us vs Q E bound rel spec
  have kept : ∀ b o, base.get? b = some o → z.heap.get? b = some o := fun b o e => (env.bs b o e).1
  have there : K.In z.heap := env.mod.kin.keeps kept
  refine codeAny_call_function room.depth (there _ _ look) rfl S.co S.gen rfl (PySem.W.codeRec_of there code) (bound _ _ _ _ ?_)
  refine wpAny_newFunctionEnv_cells S.kind (fun y hy => ?_) fun ev hev z1 inside => ?_
  · rcases S.par y.1 (List.of_mem_zip (a := y.1) (b := y.2) hy).1 with q | q
    · exact Or.inl q
    · exact Or.inr ⟨q, PySem.W.cellsFrom_some _ _ _ (Or.inl q)⟩
  subst hev
  refine ⟨(env.mod.nolimit.keeps kept).keeps inside.toInCall.keep, codeAny_func ?_⟩
  obtain ⟨t, ht, hq⟩ := bd cdv B out z H vs Q E gB (room.deeper _) spec
  refine wpAny_mono (ht.nox.run [] z1 (start N vs) H _ (inv_start S room.hd env (len _ _ _ _ spec) rel inside) hq) (fun fl z2 res => ?_) fun e z2 res => res
  cases fl with
  | brk => exact res.elim fun _ r => r.elim fun _ r => r.2.elim
  | cont => exact res.elim fun _ r => r.elim fun _ r => r.2.elim
  | next =>
    obtain ⟨σ2, H2, J, q⟩ := res
    exact ⟨V.non, H2, J.os, J.bare, J.base, J.hok, rfl, q⟩
  | ret u =>
    obtain ⟨v, σ2, H2, J, rv, q⟩ := res
    exact ⟨v, H2, J.os, J.bare, J.base, J.hok, rv, q⟩
/-- f(e, ..) where nothing is being shown -/
theorem pe_callG {X : Cx} {k : Nat} {f : Addr} {fd : FuncData} {ps : List Str} {sp : Sp} {x : Str} {p pos : Pos} {e : Expr} {es : List Expr} {t : TA} {E : XK} (F : FnG X.prog X.w X.K X.mg X.base k f fd ps sp) (gu : X.A.guards = some []) (hr : Room k X.A) (hg : Gl X x) (hm : X.mg x = some (.ref f))
    (hk : PySem.W.keepIn X.K (.ref f) = true) (hb : Binds X.K fd ps []) (hx : Passes CX0 X E) (ha : PA X (e :: es) t) (hdb : (x == ("__debug__" : Str)) = false := by decide)
    (he : starEach (e :: es) X.env = (false, eval e X.env) :: starEach es X.env := by rfl) (hpl : (backTo pos (starEach es X.env)).any (·.1) = false := by rfl) : PE X (.Call (.Name x p) (e :: es) [] pos) (tCall sp [] E t) := by
  constructor
  intro pins s σ H Q I want
  refine wpAny_Call_Name_kw (ld_glob I hg hm ?_ hdb)
  refine PySem.W.callWith_K (h₀ := X.base) I.ok.mod.kin hk (thn (ha.run pos pins s σ H _ I want) ?_) he hpl
  rintro us z ⟨vs, H1, I1, rel, q⟩
  refine ⟨I1.kIn, ?_⟩
  have hl : (us ++ []).length = ps.length := by
    rw [List.append_nil, ← rel.length, ← F.len _ _ _ _ q, List.append_nil]
  have bnd := hb z us I1.kIn hl
  rw [List.append_nil] at bnd
  rw [List.append_nil] at q
  refine wpAny_call (codeAny_mono (F.go X.A gu hr X.stack z H1 I1.env0 ⟨us, []⟩ us vs Q E bnd rel q) ?_)
  intro r z2 done
  cases r with
  | error err => exact hx pins σ H1 z err z2 I1 done
  | ok fl =>
    cases fl with
    | ret u => exact I1.after done
    | next => exact done.elim
    | brk => exact done.elim
    | cont => exact done.elim
/-- str of data -/
def rStrD (K : PySem.W.Frag) : List V → Hp → VK → Prop := fun xs H Q => ∃ (a : Addr) (d : PyData), xs = [.ref a] ∧ Dp K H (.ref a) d ∧ d.showable = true ∧ d.hasDict = false ∧ d.depth ≤ 40 ∧ d.shown.length ≤ sizeLine ∧ Q (.str d.shown) H
theorem call_strD {X : Cx} (gu : X.A.guards = some []) (hu : X.A.units + 64 < cLine) : CallR X (.type "str") (rStrD X.K) := by
  intro pins s σ H xs us Q I r want
  obtain ⟨a, d, ex, hd, h1, h2, h3, h4, q⟩ := want
  subst ex
  rw [Vals.ref1 r]
  obtain ⟨as, rd⟩ := Dp.reads I d (.ref a) (.ref a) hd rfl
  refine str_of_reads rd h1 (fun z => by rw [h2] at z; cases z) gu (by omega) (fun b o e => e) (fun h' u tk kp => ?_) h4
  exact ⟨.str d.shown, H, I.call' (ch := []) rfl (Un.kept kp) (I.hok.kept kp) I.bare fun b hb => absurd hb (by simp), ⟨u, rfl⟩, q⟩
end Wa
namespace Wa
open PySem PySem.Spec PyProof.Rows L2 LamX
/-! the end of a row whose law shows lists -/
section
variable {P : Program} {w : World} {K : PySem.W.Frag} {mg mb : Str → Option Value} {k : Nat} {fa a : Addr} {cs : List (Addr × Addr)} {fd : FuncData} {x : Str} {sp : Sp} {z : Shared} {vs : List Value} {ns : List Int}
/-- what is tracked at first: the tables, and the script where the written part has it not -/
noncomputable def trk (K : PySem.W.Frag) (cs : List (Addr × Addr)) (a : Addr) (o : Obj) (ns : List Int) : Hp := fun b =>
  if b ∈ cs.map (·.2) then some (.tbl #[]) else if b = a ∧ K.lookup a = none then some (.frz o (.lst (ns.map V.int))) else none
abbrev scr (vs : List Value) : Obj := { cls := .type "list", data := .seq vs.toArray }
theorem trk_tab {o : Obj} {p : Addr × Addr} (hp : p ∈ cs) : trk K cs a o ns p.2 = some (.tbl #[]) := if_pos (List.mem_map.mpr ⟨p, hp, rfl⟩)
theorem trk_some {o : Obj} {b : Addr} {u : HO} (e : trk K cs a o ns b = some u) : (b ∈ cs.map (·.2) ∧ u = .tbl #[]) ∨ (b ∉ cs.map (·.2) ∧ b = a ∧ K.lookup a = none ∧ u = .frz o (.lst (ns.map V.int))) := by
  unfold trk at e
  by_cases h : b ∈ cs.map (·.2)
  · rw [if_pos h] at e
    exact Or.inl ⟨h, (Option.some.inj e).symm⟩
  · rw [if_neg h] at e
    by_cases h2 : b = a ∧ K.lookup a = none
    · rw [if_pos h2] at e
      exact Or.inr ⟨h, h2.1, h2.2, (Option.some.inj e).symm⟩
    · rw [if_neg h2] at e
      cases e
theorem law_callG (inK : K.In z.heap) (gl : z.heap.Ns mainGlobals mg) (bl : z.heap.Ns builtinsNs mb) (bb : ∀ x : Str, x ≠ "__name__" → mb x = bootBuiltins x) (lim : z.heap.NoLimit) (gens : z.gens = #[])
    (tabs : ∀ p ∈ cs, z.heap.get? p.2 = some { cls := .none, data := .fields #[] }) (notK : ∀ p ∈ cs, K.lookup p.2 = none) (heads : ∀ p ∈ cs, PySem.W.CodeHd z.heap p.1 p.2)
    (bmod : ∃ (bm : Addr) (ob : Obj), mg "__builtins__" = some (.ref bm) ∧ bm ≠ builtinsNs ∧ z.heap.get? bm = some ob ∧ ob.cls = .type "module" ∧ ob.dict = some builtinsNs ∧ ob.data = .plain)
    (list : z.heap.get? a = some (scr vs)) (intsV : IntsAre vs ns) (short : ns.length ≤ sizeLine) (room : Room k callerA)
    (F : ∀ base : Heap, K.In base → base.Ns mainGlobals mg → (∀ p ∈ cs, TabB base mg p.1 p.2) → FnG P w K mg base k fa fd [x] sp) (bind : ∀ (s : Shared) (u : Value), BindsTo s fd ⟨[u], []⟩ [(x, u)])
    (want : ∀ H : Hp, (∀ p ∈ cs, H p.2 = some (.tbl #[])) → SqL K H a (ns.map V.int) → sp [.ref a] H (fun v _ => v = .bl true) fun _ _ _ => False) :
    codeAny (model P w) callerA (.call (.ref fa) ⟨[.ref a], []⟩) (fun r s' => r = .ok (.ret (.bool true)) ∧ OldK z.heap s'.heap ∧ s'.os = z.os ∧ AllBare s'.gens) z := by
  have tabAt : ∀ b, b ∈ cs.map (·.2) → z.heap.get? b = some { cls := .none, data := .fields #[] } := by
    intro b hb
    obtain ⟨p, hp, rfl⟩ := List.mem_map.mp hb
    exact tabs p hp
  have aNot : a ∉ cs.map (·.2) := by
    intro hb
    have e := (tabAt a hb).symm.trans list
    cases e
  generalize hH : trk K cs a (scr vs) ns = H
  have trkd : ∀ {b u}, H b = some u → (b ∈ cs.map (·.2) ∧ u = .tbl #[]) ∨ (b ∉ cs.map (·.2) ∧ b = a ∧ K.lookup a = none ∧ u = .frz (scr vs) (.lst (ns.map V.int))) := by
    intro b u e
    rw [← hH] at e
    exact trk_some e
  have onTab : ∀ p ∈ cs, H p.2 = some (.tbl #[]) := by
    intro p hp
    rw [← hH]
    exact trk_tab hp
  have hok : HOk P w H z.heap := by
    intro b u e
    rcases trkd e with ⟨hb, rfl⟩ | ⟨_, rfl, _, rfl⟩
    · exact tabAt b hb
    · exact ⟨list, by rw [List.length_map]; exact short, vs, _, vals_ints intsV, list⟩
  have seen : SqL K H a (ns.map V.int) := by
    cases q : K.lookup a with
    | none =>
      refine Or.inl (Or.inr ⟨scr vs, ?_⟩)
      rw [← hH]
      show (if a ∈ cs.map (·.2) then _ else if a = a ∧ K.lookup a = none then _ else _) = _
      rw [if_neg aNot, if_pos ⟨rfl, q⟩]
    | some o =>
      have e := (inK a o q).symm.trans list
      cases e
      exact Or.inr ⟨_, vs.toArray, _, q, rfl, rfl, rfl, by rw [List.size_toArray, intsV.length]; exact short, by simpa using vals_ints intsV⟩
  -- what is not tracked stands in the base
  have free : ∀ {b : Addr} {o : Obj}, z.heap.get? b = some o → o ≠ scr vs → o ≠ { cls := .none, data := .fields #[] } → H b = none := by
    intro b o e n1 n2
    cases q : H b with
    | none => rfl
    | some u =>
      rcases trkd q with ⟨hb, _⟩ | ⟨_, hb, _⟩
      · exact absurd (Option.some.inj (e.symm.trans (tabAt b hb))) n2
      · rw [hb] at e
        exact absurd (Option.some.inj (e.symm.trans list)) n1
  have inB : ∀ {b : Addr} {o : Obj}, z.heap.get? b = some o → H b = none → (hidT z.heap H).get? b = some o := fun e n => hidT_get e n
  have nsB : ∀ {b : Addr} {m : Str → Option Value}, z.heap.Ns b m → (hidT z.heap H).Ns b m := by
    rintro b m ⟨o, es, ep, e, d, r⟩
    exact ⟨o, es, ep, inB e (free e (fun c => by rw [c] at d; cases d) fun c => by rw [c] at d; cases d), d, r⟩
  have kB : K.In (hidT z.heap H) := by
    intro b o e
    refine inB (inK b o e) ?_
    cases q : H b with
    | none => rfl
    | some u =>
      rcases trkd q with ⟨hb, _⟩ | ⟨_, hb, n, _⟩
      · obtain ⟨p, hp, rfl⟩ := List.mem_map.mp hb
        rw [notK p hp] at e
        cases e
      · rw [hb, n] at e
        cases e
  obtain ⟨mc, c1, c2⟩ := lim
  have modB : L2.Mod K mg (hidT z.heap H) := ⟨kB, nsB gl, ⟨mb, nsB bl, bb⟩, ⟨mc, nsB c1, c2⟩⟩
  have tabB : ∀ p ∈ cs, TabB (hidT z.heap H) mg p.1 p.2 := by
    intro p hp
    have at2 := tabs p hp
    refine ⟨?_, ?_, ?_⟩
    · obtain ⟨o, us, file, tf, flags, tg, inF, text, tt, e1, r1, r2, r3, rest⟩ := heads p hp
      refine ⟨o, us, file, tf, flags, tg, inF, text, tt, inB e1 (free e1 (fun c => by rw [c] at r2; cases r2) fun c => ?_), r1, r2, r3, rest⟩
      rw [c] at r2
      cases r2
      simp at r3
    · obtain ⟨bm, ob, m1, m2, m3, m4, m5, m6⟩ := bmod
      refine ⟨bm, ob, m1, m2, fun c => ?_, fun c => ?_, inB m3 (free m3 (fun c => by rw [c] at m6; cases m6) fun c => by rw [c] at m6; cases m6), m4, m5, m6⟩
      · obtain ⟨o, es, ep, e, d, _⟩ := gl
        rw [← c, m3] at e
        cases e
        rw [d] at m6
        cases m6
      · rw [c, at2] at m3
        cases m3
        cases m6
    · intro c
      obtain ⟨o, es, ep, e, d, _⟩ := gl
      rw [c, at2] at e
      cases e
      cases d
  have env : Env0 P w K mg (hidT z.heap H) callerA [] z H := {
    frames := rfl
    mod := modB
    bs := fun b o e => of_hidT e
    bsz := Nat.le_of_eq (hidT_size _ _)
    funs := trivial
    frf := fun b hb => absurd hb (List.not_mem_nil)
    hok := hok
    bare := .of_eq gens }
  refine codeAny_mono ((F _ kB (nsB gl) tabB).go callerA rfl room [] z H env ⟨[.ref a], []⟩ [.ref a] [.ref a] _ _ (bind z (.ref a)) (.cons rfl .nil) (want H onTab seen)) ?_
  intro r s' res
  cases r with
  | error e => exact False.elim res
  | ok fl =>
    cases fl with
    | next => exact res.elim
    | brk => exact res.elim
    | cont => exact res.elim
    | ret u =>
      obtain ⟨v, H', os, bare, un, hok', rel, rfl⟩ := res
      have hu : u = .bool true := rel
      subst hu
      have keep : ∀ b o, b ∉ cs.map (·.2) → z.heap.get? b = some o → s'.heap.get? b = some o := by
        intro b o hb e
        cases q : H b with
        | none => exact un.keep b o e q (fun c => absurd c List.not_mem_nil) List.not_mem_nil
        | some t =>
          rcases trkd q with ⟨c, _⟩ | ⟨_, hba, _, rfl⟩
          · exact absurd c hb
          · have q2 := un.frzs b _ _ q
            obtain ⟨f1, _⟩ := hok b _ q
            obtain ⟨f2, _⟩ := hok' b _ q2
            rw [← e, f1]
            exact f2
      have grew : ∀ p ∈ cs, ∃ more : Array Value, s'.heap.get? p.2 = some { cls := .none, data := .fields more } := by
        intro p hp
        obtain ⟨more, c⟩ := un.tbls p.2 #[] (onTab p hp)
        exact ⟨_, hok' p.2 _ c⟩
      refine ⟨rfl, ⟨?_, ?_⟩, os, bare⟩
      · intro b o e
        by_cases hb : b ∈ cs.map (·.2)
        · obtain ⟨p, hp, rfl⟩ := List.mem_map.mp hb
          obtain ⟨more, hm⟩ := grew p hp
          have e2 := (tabs p hp).symm.trans e
          cases e2
          exact Or.inr (Or.inl ⟨((heads p hp).tab (tabs p hp)).isCodeTable, rfl, #[], more, rfl, by rw [Array.empty_append]; exact hm⟩)
        · exact Or.inl (keep b o hb e)
      · intro b o e
        by_cases hb : b ∈ cs.map (·.2)
        · obtain ⟨p, hp, rfl⟩ := List.mem_map.mp hb
          obtain ⟨more, hm⟩ := grew p hp
          exact ⟨_, hm⟩
        · exact ⟨o, keep b o hb e⟩
end
/-- what a row's end wants of a law that shows lists -/
def LawG (l : PySem.W.OpenLaw) (w : World) (K : PySem.W.Frag) (k n : Nat) (x : Str) (mg : Str → Option Value) (fa : Addr) (h : Heap) : Prop :=
  ∃ (fd : FuncData) (cs : List (Addr × Addr)) (sp : Sp), (∀ p ∈ cs, h.get? p.2 = some { cls := .none, data := .fields #[] }) ∧ (∀ p ∈ cs, K.lookup p.2 = none) ∧ (∀ p ∈ cs, PySem.W.CodeHd h p.1 p.2) ∧ (∀ (s : Shared) (u : Value), BindsTo s fd ⟨[u], []⟩ [(x, u)]) ∧
    (∀ (H : Hp) (a : Addr) (ns : List Int), ns.length ≤ n → (∀ p ∈ cs, H p.2 = some (.tbl #[])) → SqL K H a (ns.map V.int) → sp [.ref a] H (fun v _ => v = .bl true) fun _ _ _ => False) ∧
    ∀ base : Heap, K.In base → base.Ns mainGlobals mg → (∀ p ∈ cs, TabB base mg p.1 p.2) → FnG l.prog w K mg base k fa fd [x] sp
theorem walk_tabsG {l : PySem.W.OpenLaw} {n k : Nat} {q : Program} {loose : List Str} {XP : (Str → Option Value) → Heap → Prop} {YP : World → Heap → Prop} {d : DefRec} {K : Params → PySem.W.Frag} {x : Str} (hn : l.most = some n) (hn2 : n ≤ sizeLine) (hdf : d.params.defaults = []) (hr : Room k callerA)
    (hY : ∀ (w : World) (h : Heap), YP w h → (K w.params).In h)
    (F : ∀ (w : World) (mg : Str → Option Value) (fa : Addr) (h : Heap), (K w.params).In h → h.Ns mainGlobals mg → mg d.name = some (.ref fa) → TabsOf q mg h → LawG l w (K w.params) k n x mg fa h) : PySem.W.WalkO q loose XP YP l.row.toRowW d [] (fun f vs => PySem.call f vs) := by
  refine Att.attach_callB hn hdf fun w s₀ s₁ mg mb fa o pm cd doc a vs ns G Y ho hd hcd hmg hobj hints hlen hbits hg => ?_
  have inK := hY w _ Y
  obtain ⟨fd, cs, sp, t1, t2, t3, hb, hsp, hF⟩ := F w mg fa _ inK G.T.g hmg G.T.tab
  exact law_callG inK G.T.g G.T.b G.T.builtins G.T.nolimit hg t1 t2 t3 G.T.bmain hobj hints (Nat.le_trans hlen hn2) hr hF hb fun H hH hS => hsp H a ns hlen hH hS
end Wa
namespace Wa
open PySem PySem.Spec PyProof.Rows L2
/-! how long what is shown may be -/
theorem int_len {a : Int} {k : Nat} (hk : 0 < k) (h : a.natAbs < 10 ^ k) : (Str.ofString (toString a)).length ≤ k + 1 := by
  have hp : ((10 ^ k : Nat) : Int) = (10 : Int) ^ k := by rw [Int.natCast_pow]; rfl
  by_cases h0 : 0 ≤ a
  · have := toString_length_le h0 hk (by rw [← hp]; omega)
    omega
  · have h1 := len_text_negI (n := a) (by omega)
    have h2 := toString_length_le (v := 0 - a) (by omega) hk (by rw [← hp]; omega)
    omega
theorem list_len (ts : List Str) : (listText ts).length ≤ 2 + piled ts := by
  have h1 : ("[" : Str).length = 1 := by decide +kernel
  have h2 : ("]" : Str).length = 1 := by decide +kernel
  have app : ∀ x y : Str, (x ++ y).length = x.length + y.length := fun x y => by
    show (x.cps ++ y.cps).size = _
    rw [Array.size_append]
    rfl
  unfold listText
  rw [app, h2]
  cases ts with
  | nil =>
    show ("[" : Str).length + 1 ≤ _
    omega
  | cons t r =>
    have e : textFrom 0 "[" (t :: r) = textFrom 1 ("[" ++ t) r := rfl
    rw [e, textFrom_length_pos r 1 _ (by decide), app, h1, piled_cons]
    omega
theorem tup_len (ts : List Str) : (tupleText ts).length ≤ 4 + piled ts := by
  have app : ∀ x y : Str, (x ++ y).length = x.length + y.length := fun x y => by
    show (x.cps ++ y.cps).size = _
    rw [Array.size_append]
    rfl
  have h1 : ("(" : Str).length = 1 := by decide +kernel
  have h2 : (",)" : Str).length = 2 := by decide +kernel
  have h3 : (")" : Str).length = 1 := by decide +kernel
  have hj : (Str.join ", " ts).length ≤ piled ts := by
    cases ts with
    | nil => exact (by decide +kernel : (Str.join ", " []).length ≤ piled [])
    | cons t r =>
      have := join_length_add (t :: r) (by simp)
      omega
  unfold tupleText
  rw [app, app, h1]
  split
  · have : (Str.ofString ",)").length = 2 := h2
    omega
  · have : (Str.ofString ")").length = 1 := h3
    omega
theorem piled_le {B : Nat} : ∀ (ts : List Str), (∀ t ∈ ts, t.length ≤ B) → piled ts ≤ ts.length * (B + 2)
  | [], _ => Nat.zero_le _
  | t :: r, h => by
    have ih := piled_le r fun x hx => h x (List.mem_cons_of_mem _ hx)
    have := h t List.mem_cons_self
    rw [piled_cons, List.length_cons, Nat.succ_mul]
    omega
/-- it can be shown, by at most B signs -/
structure Shw (B : Nat) (d : PyData) : Prop where
  ok : d.showable = true
  nd : d.hasDict = false
  len : d.shown.length ≤ B
theorem Shw.mono {B C : Nat} {d : PyData} (h : Shw B d) (hc : B ≤ C) : Shw C d := ⟨h.ok, h.nd, Nat.le_trans h.len hc⟩
theorem shw_int {a : Int} {k : Nat} (hk : 0 < k) (hk2 : k ≤ 400) (h : a.natAbs < 10 ^ k) : Shw (k + 1) (.int a) := by
  refine ⟨?_, rfl, int_len hk h⟩
  show decide (a.natAbs.log2 < 1920) = true
  refine decide_eq_true ?_
  by_cases h0 : a.natAbs = 0
  · rw [h0]; decide
  · rw [Nat.log2_lt h0]
    refine Nat.lt_of_lt_of_le h (Nat.le_trans (Nat.pow_le_pow_left (show 10 ≤ 2 ^ 3 * 2 by decide) k) ?_)
    rw [show 2 ^ 3 * 2 = 2 ^ 4 by decide, ← Nat.pow_mul]
    exact Nat.pow_le_pow_right (by decide) (by omega)
theorem shown_all {B : Nat} : ∀ {ds : List PyData}, (∀ d ∈ ds, Shw B d) → PyData.showableAll ds = true ∧ PyData.hasDictAll ds = false ∧ (∀ t ∈ PyData.shownAll ds, t.length ≤ B) ∧ (PyData.shownAll ds).length = ds.length
  | [], _ => ⟨rfl, rfl, fun t h => absurd h (by simp [PyData.shownAll]), rfl⟩
  | d :: r, h => by
    obtain ⟨i1, i2, i3, i4⟩ := shown_all fun x hx => h x (List.mem_cons_of_mem _ hx)
    have hd := h d List.mem_cons_self
    refine ⟨?_, ?_, fun t ht => ?_, ?_⟩
    · show (d.showable && PyData.showableAll r) = true
      rw [hd.ok, i1]; rfl
    · show (d.hasDict || PyData.hasDictAll r) = false
      rw [hd.nd, i2]; rfl
    · rcases List.mem_cons.mp (show t ∈ d.shown :: PyData.shownAll r from ht) with e | e
      · rw [e]; exact hd.len
      · exact i3 t e
    · show (PyData.shownAll r).length + 1 = r.length + 1
      rw [i4]
theorem shw_list {B : Nat} {ds : List PyData} (h : ∀ d ∈ ds, Shw B d) : Shw (2 + ds.length * (B + 2)) (.list ds) := by
  obtain ⟨i1, i2, i3, i4⟩ := shown_all h
  refine ⟨i1, i2, Nat.le_trans (list_len _) ?_⟩
  have := piled_le _ i3
  rw [i4] at this
  omega
theorem shw_tup {B : Nat} {ds : List PyData} (h : ∀ d ∈ ds, Shw B d) : Shw (4 + ds.length * (B + 2)) (.tuple ds) := by
  obtain ⟨i1, i2, i3, i4⟩ := shown_all h
  refine ⟨i1, i2, Nat.le_trans (tup_len _) ?_⟩
  have := piled_le _ i3
  rw [i4] at this
  omega
theorem shw_ns {k : Nat} {ns : List Int} (hk : 0 < k) (hk2 : k ≤ 400) (h : ∀ a ∈ ns, a.natAbs < 10 ^ k) : Shw (2 + ns.length * (k + 3)) (dns ns) := by
  have := shw_list (B := k + 1) (ds := ns.map PyData.int) fun d hd => by
    obtain ⟨a, ha, rfl⟩ := List.mem_map.mp hd
    exact shw_int hk hk2 (h a ha)
  rw [List.length_map] at this
  exact this
/-- the reading of str of a list of numbers -/
theorem strN {K : PySem.W.Frag} {H : Hp} {a : Addr} {ns : List Int} {Q : VK} {B : Nat} (ha : H a = some (.lst (ns.map V.int))) (hs : Shw B (dns ns)) (hB : B ≤ 16000000) (h : Q (.str (dns ns).shown) H) : rStrD K [.ref a] H Q :=
  ⟨a, dns ns, rfl, dpN ha, hs.ok, hs.nd, Nat.le_trans (nice_ns ns).2 (by decide), sz (Nat.le_trans hs.len hB), h⟩
end Wa
namespace Wa
open PySem PySem.Spec PyProof.Rows L2
theorem tCi {v : V} {σ : L2.St} {H : Hp} {Q : VK} (h : Q v H) : tC v σ H Q := h
end Wa
namespace Wa
open PySem PySem.Spec PyProof.Rows L2
/-! ways, power, waves -/
abbrev nWays : List Str := ["many", "some", "fewer", "told", "step"]
theorem scWays : FnScope nWays ["many", "some"] (defScope sWays) := ⟨rfl, rfl, rfl, by decide +kernel, rfl, by decide +kernel, by decide +kernel⟩
def spWays : Sp := fun vs H Q _ => ∃ (m s : Int), vs = [.int m, .int s] ∧ m ≤ 60 ∧ Q (.int (wys m s)) H
section
variable {P : Program} {w : World} {K : PySem.W.Frag} {mg : Str → Option Value} {base : Heap}
theorem ok_Ways {fWays : Addr} {fdWays : FuncData} {k : Nat} (dWays : Df K mg "ways" sWays ["many", "some"] fWays fdWays)
     (mmin : mg "min" = none) (mr : mg "range" = none) :
    FnOk P w K mg base CX0 (k + 1) fWays fdWays ["many", "some"] (spWays) := by
  refine dWays.F.ok scWays (fun vs H Q E h => ?_) (fun cdv A outer s H vs Q E hr h => ?_)
  · obtain ⟨m, s, rfl, _⟩ := h
    rfl
  · obtain ⟨m, s', rfl, hm, ret⟩ := h
    refine ⟨_, pss_cons (ps_if (PW.pt (pw_or (pt_cmpR op_lt (pv 1) (pe_int) (nomark _)) (pw_or1 (pt_cmpR op_gt (pv 1) (pv 0) (nomark _))))) (pss_one (ps_ret (pe_int))) pss_nil)
      (pss_cons (ps_set (i := 2) scWays.nd rfl (.inl rfl) (pe_callB (call_min2 rfl) (by rfl) mmin (by decide +kernel) (pa_cons (pv 1) (pa_cons (pe_op op_sub (pv 0) (pv 1)) pa_nil))))
      (pss_cons (ps_set (i := 3) scWays.nd rfl (.inl rfl) (pe_int))
      (pss_cons (ps_for PassesOwn.never rfl (pi_range2 rfl mr (pa_cons (pe_int) (pa_cons (pe_op op_add (pv 2) (pe_int)) pa_nil))) (pg_name (i := 4) scWays.nd rfl (.inl rfl))
        (pss_one (ps_set (i := 3) scWays.nd rfl (.inl rfl) (pe_op op_fdiv (pe_op op_mul (pv 3) (pe_op op_add (pe_op op_sub (pv 0) (pv 2)) (pv 4))) (pv 4)))))
      (pss_one (ps_ret (pv 3)))))), ?_⟩
    refine ⟨_, rfl, _, _, rfl, rfl, _, rfl, ?_⟩
    by_cases c1 : s' < 0
    · refine iteTB (decide_eq_true c1) (iteT ?_)
      unfold wys at ret
      rw [if_neg (by omega)] at ret
      exact ret
    refine iteFB (decide_eq_false c1) ?_
    refine ⟨_, rfl, _, rfl, _, _, rfl, rfl, _, rfl, ?_⟩
    by_cases c2 : m < s'
    · refine iteTB (decide_eq_true c2) ?_
      unfold wys at ret
      rw [if_neg (by omega)] at ret
      exact ret
    refine iteFB (decide_eq_false c2) ?_
    obtain ⟨sn, rfl⟩ := Int.eq_ofNat_of_zero_le (show 0 ≤ s' by omega)
    obtain ⟨mn, rfl⟩ := Int.eq_ofNat_of_zero_le (show 0 ≤ m by omega)
    rw [wys_nat] at ret
    refine ⟨_, rfl, _, rfl, _, rfl, (mn : Int), (sn : Int), rfl, rfl, (sn : Int), (mn : Int) - (sn : Int), rfl, ?_⟩
    obtain ⟨f, ef, hf, hc⟩ : ∃ f : Nat, (if (mn : Int) - (sn : Int) < (sn : Int) then (mn : Int) - (sn : Int) else (sn : Int)) = (f : Int) ∧ f ≤ mn ∧ chs mn f = chs mn sn := by
      by_cases c : (mn : Int) - (sn : Int) < (sn : Int)
      · rw [if_pos c]
        refine ⟨mn - sn, by omega, by omega, ?_⟩
        have := chs_symm (mn - sn) sn
        rw [show mn - sn + sn = mn by omega] at this
        exact this
      · rw [if_neg c]
        exact ⟨sn, rfl, by omega, rfl⟩
    rw [ef]
    obtain ⟨a, rfl⟩ : ∃ a, mn = a + f := ⟨mn - f, by omega⟩
    refine ⟨_, rfl, (f : Int), 1, rfl, rfl, 1, (f : Int) + 1, rfl, ⟨by decide, by decide, by omega, by omega⟩, ?_⟩
    refine walk_f f (fun i σ H' => ∃ (y4 : Option V), σ = [some (.int ((a + f : Nat) : Int)), some (.int sn), some (.int f), some (.int (chs (a + i) i : Nat)), y4] ∧ H' = H)
      ⟨none, by rw [chs_zero]; rfl, rfl⟩ (fun i σ H' hi hp => ?_) (fun σ H' hp => ?_)
    · obtain ⟨y4, rfl, rfl⟩ := hp
      refine ⟨by show i < ((f : Int) + 1 - 1).toNat; omega, fun x H'' y => ?_⟩
      obtain ⟨rfl, rfl⟩ := y
      have hb := chs_le (a + i) i
      have hb2 : 2 ^ (a + i) ≤ 2 ^ 60 := Nat.pow_le_pow_right (by decide) (by omega)
      have e0 : (((a + f : Nat) : Int) - (f : Int)) + (1 + (i : Int)) = ((a + i + 1 : Nat) : Int) := by omega
      have e1 : (1 : Int) + (i : Int) = ((i + 1 : Nat) : Int) := by omega
      have up := chs_up a i
      have e2 : ((chs (a + i) i : Nat) : Int) * ((a + i + 1 : Nat) : Int) / ((i + 1 : Nat) : Int) = ((chs (a + (i + 1)) (i + 1) : Nat) : Int) := by
        rw [← Int.natCast_mul, ← up, ← Int.natCast_ediv, Nat.mul_div_cancel _ (by omega)]
      refine ⟨_, rfl, _, rfl, _, rfl, ((a + f : Nat) : Int), (f : Int), rfl, rfl, _, rfl, ((a + f : Nat) : Int) - (f : Int), 1 + (i : Int), rfl, rfl, ?_⟩
      show rI CMul _ (V.int ((chs (a + i) i : Nat) : Int)) (V.int ((((a + f : Nat) : Int) - (f : Int)) + (1 + (i : Int)))) _ _
      rw [e0]
      refine ⟨_, _, rfl, rfl, .inl ⟨by omega, by omega⟩, _, rfl, _, 1 + (i : Int), rfl, rfl, ⟨by omega, by omega⟩, some (.int (1 + (i : Int))), ?_, rfl⟩
      show [_, _, _, some (V.int (((chs (a + i) i : Nat) : Int) * ((a + i + 1 : Nat) : Int) / (1 + (i : Int)))), _] = _
      rw [e1, e2]
    · obtain ⟨y4, rfl, rfl⟩ := hp
      rw [← hc] at ret
      exact ⟨by show ((f : Int) + 1 - 1).toNat ≤ f; omega, _, rfl, ret⟩
end
abbrev nPow : List Str := ["number", "times", "told", "step"]
theorem scPow : FnScope nPow ["number", "times"] (defScope sPow) := ⟨rfl, rfl, rfl, by decide +kernel, rfl, by decide +kernel, by decide +kernel⟩
def spPow : Sp := fun vs H Q _ => ∃ (b t : Nat), vs = [.int b, .int t] ∧ b ≤ 3 ∧ t ≤ 30 ∧ Q (.int ((b ^ t : Nat) : Int)) H
section
variable {P : Program} {w : World} {K : PySem.W.Frag} {mg : Str → Option Value} {base : Heap}
theorem ok_Pow {fPow : Addr} {fdPow : FuncData} {k : Nat} (dPow : Df K mg "power" sPow ["number", "times"] fPow fdPow)
     (mr : mg "range" = none) :
    FnOk P w K mg base CX0 (k + 1) fPow fdPow ["number", "times"] (spPow) := by
  refine dPow.F.ok scPow (fun vs H Q E h => ?_) (fun cdv A outer s H vs Q E hr h => ?_)
  · obtain ⟨b, t, rfl, _⟩ := h
    rfl
  · obtain ⟨b, t, rfl, hb, ht, ret⟩ := h
    refine ⟨_, pss_cons (ps_set (i := 2) scPow.nd rfl (.inl rfl) (pe_int))
      (pss_cons (ps_for PassesOwn.never rfl (pi_range1 rfl mr (pa_cons (pv 1) pa_nil)) (pg_name (i := 3) scPow.nd rfl (.inl rfl))
        (pss_one (ps_aug (i := 2) scPow.nd rfl (.inl rfl) (pv 0) ip_mul)))
      (pss_one (ps_ret (pv 2)))), ?_⟩
    refine ⟨_, rfl, (t : Int), rfl, by omega, by omega, ?_⟩
    refine walk_f t (fun i σ H' => ∃ (y3 : Option V), σ = [some (.int b), some (.int t), some (.int ((b ^ i : Nat) : Int)), y3] ∧ H' = H) ⟨none, rfl, rfl⟩ (fun i σ H' hi hp => ?_) (fun σ H' hp => ?_)
    · obtain ⟨y3, rfl, rfl⟩ := hp
      refine ⟨by show i < (t : Int).toNat; omega, fun x H'' y => ?_⟩
      obtain ⟨rfl, rfl⟩ := y
      have h1 : b ^ i ≤ 2 ^ 60 := Nat.le_trans (Nat.pow_le_pow_left (show b ≤ 4 by omega) i) (Nat.le_trans (Nat.pow_le_pow_right (by decide) (show i ≤ 30 by omega)) (by decide))
      refine ⟨_, rfl, _, rfl, _, _, rfl, rfl, .inl ⟨by omega, by omega⟩, some (.int (0 + (i : Int))), ?_, rfl⟩
      rw [Nat.pow_succ, Int.natCast_mul]
      rfl
    · obtain ⟨y3, rfl, rfl⟩ := hp
      exact ⟨by show (t : Int).toNat ≤ t; omega, _, rfl, ret⟩
end
abbrev nWPart : List Str := ["q", "n", "k", "i", "j", "part"]
theorem scWPart : FnScope nWPart ["q", "n", "k", "i", "j"] (defScope sWPart) := ⟨rfl, rfl, rfl, by decide +kernel, rfl, by decide +kernel, by decide +kernel⟩
def spWPart : Sp := fun vs H Q _ => ∃ (q n k i j : Nat), vs = [.int q, .int n, .int k, .int i, .int j] ∧ 1 ≤ q ∧ q ≤ 3 ∧ n ≤ 20 ∧ k ≤ n ∧ i ≤ n ∧ j ≤ k ∧ Q (.int (wpt q n k i j)) H
section
variable {P : Program} {w : World} {K : PySem.W.Frag} {mg : Str → Option Value} {base : Heap}
theorem ok_WPart {fWPart  fWays  fPow : Addr} {fdWPart fdWays fdPow : FuncData} {k : Nat} (dWPart : Df K mg "wave_part" sWPart ["q", "n", "k", "i", "j"] fWPart fdWPart)
    (dWays : Df K mg "ways" sWays ["many", "some"] fWays fdWays) (gWays : FnOk P w K mg base CX0 k fWays fdWays ["many", "some"] (spWays))
    (dPow : Df K mg "power" sPow ["number", "times"] fPow fdPow) (gPow : FnOk P w K mg base CX0 k fPow fdPow ["number", "times"] (spPow))
      :
    FnOk P w K mg base CX0 (k + 1) fWPart fdWPart ["q", "n", "k", "i", "j"] (spWPart) := by
  refine dWPart.F.ok scWPart (fun vs H Q E h => ?_) (fun cdv A outer s H vs Q E hr h => ?_)
  · obtain ⟨q, n, k, i, j, rfl, _⟩ := h
    rfl
  · obtain ⟨q, n, kk, i, j, rfl, hq1, hq3, hn, hk, hi, hj, ret⟩ := h
    refine ⟨_, pss_cons (ps_set (i := 5) scWPart.nd rfl (.inl rfl) (pe_op op_mul (pe_op op_mul (pe_call gPow hr (by rfl) dPow.g dPow.F.kp dPow.b .nil pass0 (pa_cons (pe_op op_sub (pv 0) (pe_int)) (pa_cons (pe_op op_sub (pv 2) (pv 4)) pa_nil))) (pe_call gWays hr (by rfl) dWays.g dWays.F.kp dWays.b .nil pass0 (pa_cons (pv 3) (pa_cons (pv 4) pa_nil)))) (pe_call gWays hr (by rfl) dWays.g dWays.F.kp dWays.b .nil pass0 (pa_cons (pe_op op_sub (pv 1) (pv 3)) (pa_cons (pe_op op_sub (pv 2) (pv 4)) pa_nil)))))
      (pss_one (ps_ret (pe_ifExp (pt_cmpR op_eq (pe_op op_mod (pv 4) (pe_int)) (pe_int) (nomark _)) (pv 5) (pe_un un_neg (pv 5))))), ?_⟩
    refine ⟨_, rfl, (q : Int), 1, rfl, rfl, _, rfl, _, rfl, (kk : Int), (j : Int), rfl, rfl, q - 1, kk - j, ?_, by omega, by omega, ?_⟩
    · show [V.int ((q : Int) - 1), V.int ((kk : Int) - (j : Int))] = [V.int ((q - 1 : Nat) : Int), V.int ((kk - j : Nat) : Int)]
      rw [show ((q : Int) - 1) = ((q - 1 : Nat) : Int) by omega, show ((kk : Int) - (j : Int)) = ((kk - j : Nat) : Int) by omega]
    have h1 : (q - 1) ^ (kk - j) ≤ 2 ^ 20 := Nat.le_trans (Nat.pow_le_pow_left (show q - 1 ≤ 2 by omega) _) (Nat.pow_le_pow_right (by decide) (by omega))
    have h2 : chs i j ≤ 2 ^ 20 := Nat.le_trans (chs_le i j) (Nat.pow_le_pow_right (by decide) (by omega))
    have h3 : chs (n - i) (kk - j) ≤ 2 ^ 20 := Nat.le_trans (chs_le _ _) (Nat.pow_le_pow_right (by decide) (by omega))
    refine ⟨_, rfl, _, rfl, (i : Int), (j : Int), rfl, by omega, ?_⟩
    rw [wys_nat]
    refine ⟨_, _, rfl, rfl, .inl ⟨by omega, by omega⟩, ?_⟩
    have e1 : (((q - 1) ^ (kk - j) : Nat) : Int) * ((chs i j : Nat) : Int) = (((q - 1) ^ (kk - j) * chs i j : Nat) : Int) := by rw [Int.natCast_mul]
    have h4 : (q - 1) ^ (kk - j) * chs i j ≤ 2 ^ 40 := Nat.le_trans (Nat.mul_le_mul h1 h2) (by decide)
    refine ⟨_, rfl, _, rfl, (n : Int), (i : Int), rfl, rfl, _, rfl, _, rfl, (kk : Int), (j : Int), rfl, rfl, (n : Int) - (i : Int), (kk : Int) - (j : Int), rfl, by omega, ?_⟩
    rw [show ((n : Int) - (i : Int)) = ((n - i : Nat) : Int) by omega, show ((kk : Int) - (j : Int)) = ((kk - j : Nat) : Int) by omega, wys_nat]
    refine ⟨_, _, rfl, rfl, .inr ⟨by omega, by omega⟩, ?_⟩
    have e2 : (((q - 1) ^ (kk - j) : Nat) : Int) * ((chs i j : Nat) : Int) * ((chs (n - i) (kk - j) : Nat) : Int) = (((q - 1) ^ (kk - j) * chs i j * chs (n - i) (kk - j) : Nat) : Int) := by
      rw [Int.natCast_mul, Int.natCast_mul]
    refine ⟨_, rfl, (j : Int), 2, rfl, rfl, (show (0 : Int) < 2 by decide), rfl, _, rfl, ?_⟩
    unfold wpt at ret
    by_cases c : j % 2 = 0
    · rw [if_pos c, Int.one_mul, ← e2] at ret
      exact iteTB (decide_eq_true (by show V.int ((j : Int) % 2) = V.int 0; rw [show ((j : Int) % 2) = 0 by omega])) ⟨_, rfl, ret⟩
    · rw [if_neg c, ← Int.neg_eq_neg_one_mul, ← e2] at ret
      refine iteFB (decide_eq_false fun z => c ?_) ⟨_, rfl, _, rfl, ret⟩
      injection z with z
      omega
end
abbrev nWave : List Str := ["q", "n", "k", "i", "j"]
theorem scWave : FnScope nWave ["q", "n", "k", "i"] (defScope sWave) := ⟨rfl, rfl, rfl, by decide +kernel, rfl, by decide +kernel, by decide +kernel⟩
def spWave : Sp := fun vs H Q _ => ∃ (q n k i : Nat), vs = [.int q, .int n, .int k, .int i] ∧ 1 ≤ q ∧ q ≤ 3 ∧ n ≤ 20 ∧ k ≤ n ∧ i ≤ n ∧ ∀ H', Gr H H' → Q (.int (wav q n k i)) H'
section
variable {P : Program} {w : World} {K : PySem.W.Frag} {mg : Str → Option Value} {base : Heap}
theorem ok_Wave {fWave  fWPart : Addr} {fdWave fdWPart : FuncData} {k : Nat} (dWave : Df K mg "wave" sWave ["q", "n", "k", "i"] fWave fdWave)
    (dWPart : Df K mg "wave_part" sWPart ["q", "n", "k", "i", "j"] fWPart fdWPart) (gWPart : FnOk P w K mg base CX0 k fWPart fdWPart ["q", "n", "k", "i", "j"] (spWPart))
     (ms : mg "sum" = none) (mr : mg "range" = none) :
    FnOk P w K mg base CX0 (k + 1) fWave fdWave ["q", "n", "k", "i"] (spWave) := by
  refine dWave.F.ok scWave (fun vs H Q E h => ?_) (fun cdv A outer s H vs Q E hr h => ?_)
  · obtain ⟨q, n, k, i, rfl, _⟩ := h
    rfl
  · obtain ⟨q, n, kk, i, rfl, hq1, hq3, hn, hk, hi, ret⟩ := h
    refine ⟨_, pss_one (ps_ret (pe_callB (id := "sum") (r := rSum K) (cr_sum rfl) (by rfl) ms (by decide +kernel) (pa_cons (pe_lc (own := [("j", 4)]) (g := gName 4) (tt := tYes) (te := tCall (spWPart) [] _ (tCons (tVar 0) (tCons (tVar 1) (tCons (tVar 2) (tCons (tVar 3) (tCons (tVar 4) (tNil))))))) rfl scWave.nd (pi_range1 rfl mr (pa_cons (pe_op op_add (pv 2) (pe_int)) pa_nil)) (blkOk_by (own := [("j", 4)]) (N := nWave) (sc := defScope sWave) (by decide +kernel)) (fun _ _ _ _ _ => pg_name (i := 4) scWave.nd rfl (.inl rfl)) (fun _ _ _ _ _ => pts_nil) (fun _ _ _ _ _ => pe_call gWPart hr (by rfl) dWPart.g dWPart.F.kp dWPart.b .nil pass0 (pa_cons (pv 0) (pa_cons (pv 1) (pa_cons (pv 2) (pa_cons (pv 3) (pa_cons (pv 4) pa_nil))))))) pa_nil))), ?_⟩
    refine ⟨_, rfl, (kk : Int), 1, rfl, rfl, (kk : Int) + 1, rfl, by omega, by omega, fun D nD => ?_⟩
    rw [show ((kk : Int) + 1).toNat = kk + 1 by omega]
    refine lcH (handsL_range 0 (kk + 1)) (fun _ => true) (fun j => .int (wpt q n kk i j)) nD (by rw [List.length_range]; omega) (fun j H' Y N hm g hy _ => ?_) (fun H1 g1 e1 => ?_)
    · have hj := List.mem_range.mp hm
      rw [Int.zero_add]
      exact ⟨rfl, yes (iteT ⟨_, rfl, _, rfl, _, rfl, _, rfl, _, rfl, q, n, kk, i, j, rfl, hq1, hq3, hn, hk, hi, by omega, hy rfl H' (Gr.refl _)⟩)⟩
    · rw [filter_yes] at e1
      have e2 : H1 D = some (.lst (((List.range (kk + 1)).map (wpt q n kk i)).map V.int)) := by
        rw [e1, List.map_map]
        rfl
      exact ⟨D, _, rfl, sq e2, ret H1 g1⟩
end
end Wa
namespace Wa
open PySem PySem.Spec PyProof.Rows L2
/-! the script's draws: popping -/
/-- what pop hands back, and what is left -/
def popV (ds : List Int) : Int := ds.getLast?.getD 0
theorem popV_snoc (r : List Int) (d : Int) : popV (r ++ [d]) = d := by
  unfold popV
  rw [List.getLast?_append]
  rfl
/-- draws: numbers from nought on, below a bound -/
def Drawn (ds : List Int) : Prop := ∀ d ∈ ds, 0 ≤ d ∧ d < 2147483648
theorem Drawn.pop {ds : List Int} (h : Drawn ds) : 0 ≤ popV ds ∧ popV ds < 2147483648 := by
  unfold popV
  cases e : ds.getLast? with
  | none => exact ⟨Int.le_refl _, by decide⟩
  | some d => exact h d (List.mem_of_getLast? e)
theorem Drawn.rest {ds : List Int} (h : Drawn ds) : Drawn ds.dropLast := fun d hd => h d ((List.dropLast_sublist ds).subset hd)
theorem scPop : FnScope ["_law_draws_here"] ["_law_draws_here"] (defScope sPop) := ⟨rfl, rfl, rfl, by decide +kernel, rfl, by decide +kernel, by decide +kernel⟩
def spPop : Sp := fun vs H Q _ => ∃ (a : Addr) (ds : List Int), vs = [.ref a] ∧ H a = some (.lst (ds.map V.int)) ∧ ∀ H', H' a = some (.lst (ds.dropLast.map V.int)) → (∀ b, b ≠ a → ∀ o, H b = some o → H' b = some o) → Q (.int (popV ds)) H'
section
variable {P : Program} {w : World} {K : PySem.W.Frag} {mg : Str → Option Value} {base : Heap}
theorem ok_pop {f : Addr} {fd : FuncData} {k : Nat} (F : Fun K "_law_pop" "_law_pop" sPop f fd) : FnOk P w K mg base CX0 (k + 1) f fd ["_law_draws_here"] spPop := by
  refine F.ok scPop (fun vs H Q E h => ?_) (fun cdv A outer s H vs Q E hr h => ?_)
  · obtain ⟨a, ds, rfl, _⟩ := h
    rfl
  · obtain ⟨a, ds, rfl, ha, q⟩ := h
    refine ⟨_, pss_cons (ps_if (pt_cmpR (op_eqD hr.units) (pv 0) (pe_lst pa_nil) (nomark _)) (pss_one (ps_ret pe_int)) pss_nil)
      (pss_one (ps_ret (pe_bm0 PySem.F.plainAttrs_list PySem.F.slot_list_pop PySem.F.type_list_pop mt_pop (pv 0)))), ?_⟩
    refine ⟨.ref a, rfl, Nat.zero_le _, fun p np => ?_⟩
    have ha' : (upd H p (.lst [])) a = some (.lst (ds.map V.int)) := same_upd np _ _ ha
    refine ⟨dns ds, dns [], .lst (sq ha') (dp_ns ds), .lst (sq upd_same) .nil, sh_ns _, sh_ns _, _, rfl, ?_⟩
    rw [eqv_ns]
    refine ite2 (fun e => ?_) (fun e => ?_)
    · have e0 : ds = [] := of_decide_eq_true e
      subst e0
      exact q _ ha' fun b nb o ho => same_upd np _ _ ho
    · have e0 : ds ≠ [] := fun z => e (decide_eq_true z)
      refine ⟨.ref a, rfl, .inl ⟨rfl, _, sq ha'⟩, a, ds.map V.int, .int (popV ds), rfl, rfl, ha', ?_, ?_⟩
      · rw [List.length_map, List.getElem?_map]
        rw [← List.getLast?_eq_getElem?]
        unfold popV
        cases z : ds.getLast? with
        | none => exact absurd (List.getLast?_eq_none_iff.mp z) e0
        | some d => rfl
      · refine q _ ?_ fun b nb o ho => ?_
        · rw [upd_same, List.map_dropLast]
        · rw [upd_ne nb]
          exact same_upd np _ _ ho
end
end Wa
namespace Wa
open PySem PySem.Spec PyProof.Rows L2
/-! the draws of a script, twice mixed -/
abbrev nMix : List Str := ["_law_cell", "_law_turn", "_law_number"]
theorem scMix : FnScope nMix ["_law_cell", "_law_turn"] (defScope sMix) := ⟨rfl, rfl, rfl, by decide +kernel, rfl, by decide +kernel, by decide +kernel⟩
def spMix : Sp := fun vs H Q _ => ∃ (c : Int) (t : Nat), vs = [.int c, .int t] ∧ t ≤ 100000 ∧ ∀ m : Int, 0 ≤ m → m < 2147483629 → Q (.int m) H
section
variable {P : Program} {w : World} {K : PySem.W.Frag} {mg : Str → Option Value} {base : Heap}
theorem ok_Mix {fMix : Addr} {fdMix : FuncData} {k : Nat} (dMix : Df K mg "_law_mix" sMix ["_law_cell", "_law_turn"] fMix fdMix)
      :
    FnOk P w K mg base CX0 (k + 1) fMix fdMix ["_law_cell", "_law_turn"] (spMix) := by
  refine dMix.F.ok scMix (fun vs H Q E h => ?_) (fun cdv A outer s H vs Q E hr h => ?_)
  · obtain ⟨c, t, rfl, _⟩ := h
    rfl
  · obtain ⟨c, t, rfl, ht, ret⟩ := h
    refine ⟨_, pss_cons (ps_set (i := 2) scMix.nd rfl (.inl rfl) (pe_op op_mod (pe_op op_mul (pe_op op_add (pe_op op_add (pe_op op_mod (pv 0) (pe_int)) (pe_op op_mul (pe_op op_mul (pv 1) (pv 1)) (pe_int))) (pe_int)) (pe_int)) (pe_int)))
      (pss_one (ps_ret (pe_op op_mod (pe_op op_add (pe_op op_mul (pv 2) (pv 2)) (pe_op op_mul (pe_int) (pv 1))) (pe_int)))), ?_⟩
    have m0 := Int.emod_nonneg c (show (2147483647 : Int) ≠ 0 by decide)
    have m1 := Int.emod_lt_of_pos c (show (0 : Int) < 2147483647 by decide)
    have t2 : t * t ≤ 100000 * 100000 := Nat.mul_le_mul ht ht
    have tb : 0 ≤ (t : Int) * (t : Int) ∧ (t : Int) * (t : Int) ≤ 10000000000 := by
      rw [← Int.natCast_mul]
      omega
    refine ⟨_, rfl, c, 2147483647, rfl, rfl, (show (0 : Int) < 2147483647 by decide), _, rfl, _, rfl, (t : Int), (t : Int), rfl, rfl, .inl ⟨by omega, by omega⟩, (t : Int) * (t : Int), 7919, rfl, rfl, .inl ⟨by omega, by omega⟩, c % 2147483647, (t : Int) * (t : Int) * 7919, rfl, rfl, c % 2147483647 + (t : Int) * (t : Int) * 7919, 104729, rfl, rfl, c % 2147483647 + (t : Int) * (t : Int) * 7919 + 104729, 48271, rfl, rfl, .inl ⟨by omega, by omega⟩, _, 2147483647, rfl, rfl, (show (0 : Int) < 2147483647 by decide), ?_⟩
    generalize (t : Int) * (t : Int) = tt at tb
    have k0 := Int.emod_nonneg ((c % 2147483647 + tt * 7919 + 104729) * 48271) (show (2147483647 : Int) ≠ 0 by decide)
    have k1 := Int.emod_lt_of_pos ((c % 2147483647 + tt * 7919 + 104729) * 48271) (show (0 : Int) < 2147483647 by decide)
    generalize hx : (c % 2147483647 + tt * 7919 + 104729) * 48271 % 2147483647 = x at k0 k1
    refine ⟨_, ?_, _, ?_, x, x, rfl, rfl, .inl ⟨by omega, by omega⟩, _, rfl, 69621, (t : Int), rfl, rfl, .inl ⟨by decide, by decide⟩, _, _, rfl, rfl, _, 2147483629, rfl, rfl, (show (0 : Int) < 2147483629 by decide), ret _ (Int.emod_nonneg _ (by decide)) (Int.emod_lt_of_pos _ (by decide))⟩
    · rw [← hx]; rfl
    · rw [← hx]; rfl
end
abbrev nDraws2 : List Str := ["_law_script", "_law_turn", "_law_many", "_law_cells", "_law_lefts", "_law_found", "_law_k", "_law_at", "_law_number", "_law_cell"]
theorem scDraws2 : FnScope nDraws2 ["_law_script", "_law_turn", "_law_many"] (defScope sDraws2) := ⟨rfl, rfl, rfl, by decide +kernel, rfl, by decide +kernel, by decide +kernel⟩
def spDraws2 (K : PySem.W.Frag) : Sp := fun vs H Q _ => ∃ (a : Addr) (ns : List Int) (t m : Nat), vs = [.ref a, .int t, .int m] ∧ SqL K H a (ns.map V.int) ∧ t ≤ 1000 ∧ m ≤ 1000 ∧
  ∀ H' p ds, Gr H H' → H p = none → Drawn ds → H' p = some (.lst (ds.map V.int)) → Q (.ref p) H'
theorem cut63' (ns : List Int) : cutV (ns.map V.int) none (some 63) = (ns.take 63).map V.int := by
  unfold cutV
  rw [HT.sIx_none, show HT.sIx (ns.map V.int).length (ns.map V.int).length (some 63) = min 63 (ns.map V.int).length from HT.sIx_nat _ _ 63, List.drop_zero, Nat.sub_zero, List.length_map, ← List.map_take]
  congr 1
  by_cases h : ns.length ≤ 63
  · rw [List.take_of_length_le (by omega), List.take_of_length_le h]
  · rw [show min 63 ns.length = 63 by omega]
theorem drawn_snoc {ds : List Int} {d : Int} (h : Drawn ds) (h0 : 0 ≤ d) (h1 : d < 2147483648) : Drawn (ds ++ [d]) := fun x hx => by
  rcases List.mem_append.mp hx with z | z
  · exact h x z
  · rw [List.mem_singleton.mp z]
    exact ⟨h0, h1⟩
theorem cut_drop (xs : List Int) (t : Nat) : ∃ k, cutV (xs.map V.int) (some (t : Int)) none = (xs.drop k).map V.int := by
  unfold cutV
  refine ⟨HT.sIx (xs.map V.int).length 0 (some (t : Int)), ?_⟩
  rw [HT.sIx_none, ← List.map_drop, List.take_of_length_le (by rw [List.length_map, List.length_map, List.length_drop]; exact Nat.le_refl _)]
section
variable {P : Program} {w : World} {K : PySem.W.Frag} {mg : Str → Option Value} {base : Heap}
theorem ok_Draws2 {fDraws2  fMix : Addr} {fdDraws2 fdMix : FuncData} {k : Nat} (dDraws2 : Df K mg "_law_draws" sDraws2 ["_law_script", "_law_turn", "_law_many"] fDraws2 fdDraws2)
    (dMix : Df K mg "_law_mix" sMix ["_law_cell", "_law_turn"] fMix fdMix) (gMix : FnOk P w K mg base CX0 k fMix fdMix ["_law_cell", "_law_turn"] (spMix))
     (mr : mg "range" = none) (ml : mg "len" = none) :
    FnOk P w K mg base CX0 (k + 1) fDraws2 fdDraws2 ["_law_script", "_law_turn", "_law_many"] (spDraws2 K) := by
  refine dDraws2.F.ok scDraws2 (fun vs H Q E h => ?_) (fun cdv A outer s H vs Q E hr h => ?_)
  · obtain ⟨a, ns, t, m, rfl, _⟩ := h
    rfl
  · obtain ⟨a, ns, t, m, rfl, ha, ht, hm, ret⟩ := h
    refine ⟨_, pss_cons (ps_set (i := 3) scDraws2.nd rfl (.inl rfl) (pe_op op_cat (pe_slice sl_list (pv 0) po_none (po_some (pe_int))) (pe_lst (pa_cons (pv 1) pa_nil))))
      (pss_cons (ps_setLc (i := 4) (own := [("_law_cell", 9)]) (g := gName 9) (tt := tYes) (te := tOp _ (tVar 9) (tC (.int 100000))) rfl scDraws2.nd rfl rfl (sw_true rfl rfl rfl (by decide +kernel)) (pi_list (pv 3)) (blkOk_by (own := [("_law_cell", 9)]) (N := nDraws2) (sc := defScope sDraws2) (by decide +kernel)) (fun _ _ _ _ _ => pg_name (i := 9) scDraws2.nd rfl (.inl rfl)) (fun _ _ _ _ _ => pts_nil) (fun _ _ _ _ _ => pe_op op_fdivW (pv 9) (pe_int)))
      (pss_cons (ps_set (i := 5) scDraws2.nd rfl (.inl rfl) (pe_lst pa_nil))
      (pss_cons (ps_for PassesOwn.never rfl (pi_range1 rfl mr (pa_cons (pe_op op_add (pv 1) (pv 2)) pa_nil)) (pg_name (i := 6) scDraws2.nd rfl (.inl rfl))
        (pss_cons (ps_set (i := 7) scDraws2.nd rfl (.inl rfl) (pe_op op_mod (pv 6) (pe_callB call_lenK (by rfl) ml (PySem.boot_len) (pa_cons (pv 3) pa_nil))))
        (pss_cons (ps_set (i := 8) scDraws2.nd rfl (.inl rfl) (pe_call gMix hr (by rfl) dMix.g dMix.F.kp dMix.b .nil pass0 (pa_cons (pe_ix ix_list (pv 3) (pv 7) (fun _ _ => rfl)) (pa_cons (pv 6) pa_nil))))
        (pss_cons (ps_set (i := 8) scDraws2.nd rfl (.inl rfl) (pe_op op_mod (pe_op op_add (pe_op op_mulW (pv 8) (pv 8)) (pe_op op_mulW (pe_int) (pv 6))) (pe_int)))
        (pss_cons (ps_if (PW.pt (pw_and (pt_cmpR op_ge (pe_ix ix_list (pv 3) (pv 7) (fun _ _ => rfl)) (pe_op op_pow (pe_int) (pe_int)) (nomark _)) (pw_and1 (pt_cmpR op_gt (pe_ix ix_list (pv 4) (pv 7) (fun _ _ => rfl)) (pe_int) (nomark _))))) (pss_cons (ps_set (i := 8) scDraws2.nd rfl (.inl rfl) (pe_op op_mod (pe_ix ix_list (pv 4) (pv 7) (fun _ _ => rfl)) (pe_int)))
          (pss_one (ps_asg (pe_op op_fdivW (pe_ix ix_list (pv 4) (pv 7) (fun _ _ => rfl)) (pe_int)) (pg_sub (pv 4) (pv 7) set_list)))) pss_nil)
        (pss_one (ps_expr (pe_bm PySem.F.plainAttrs_list PySem.F.slot_list_append PySem.F.type_list_append mt_append (pv 5) (pa_cons (pv 8) pa_nil)))))))))
      (pss_one (ps_ret (pe_slice sl_list (pv 5) (po_some (pv 1)) po_none)))))), ?_⟩
    refine ⟨_, rfl, _, rfl, a, _, rfl, ha, fun p1 n1 => ?_⟩
    rw [cut63']
    generalize hU1 : upd _ _ _ = H1
    have g1 : Gr H H1 := by rw [← hU1]; exact (Gr.refl _).new n1
    refine ⟨_, rfl, (show 1 ≤ sizeLine by decide), fun p2 n2 => ?_⟩
    generalize hU2 : upd _ _ _ = H2
    have g2 : Gr H1 H2 := by rw [← hU2]; exact (Gr.refl _).new n2
    refine ⟨p1, p2, _, _, rfl, rfl, g2.lst (at_same hU1), at_same hU2, ?_, fun p3 n3 => ?_⟩
    · rw [List.length_map, List.length_take]
      exact sz (by show _ + 1 ≤ _; omega)
    generalize hU3 : upd _ _ _ = H3
    have g3 : Gr H2 H3 := by rw [← hU3]; exact (Gr.refl _).new n3
    obtain ⟨cs, ecs⟩ : ∃ cs : List Int, cs = ns.take 63 ++ [(t : Int)] := ⟨_, rfl⟩
    have e3 : H3 p3 = some (.lst (cs.map V.int)) := by
      rw [at_same hU3, ecs, List.map_append]
      rfl
    have lc : 1 ≤ cs.length ∧ cs.length ≤ 64 := by
      rw [ecs, List.length_append, List.length_take]
      show 1 ≤ _ + 1 ∧ _ + 1 ≤ 64
      omega
    refine ⟨_, rfl, p3, rfl, ⟨_, sq e3⟩, fun D nD => ?_⟩
    refine lcL (φ := V.int) (sq e3) (fun _ => true) (fun c => .int (c / 100000)) nD (by omega) (fun c H' Y N hc g hy _ => ⟨rfl, yes (iteT ⟨_, rfl, c, 100000, rfl, rfl, wide_div (b := 17) (by decide) (by decide) (by decide) (by decide), hy rfl H' (Gr.refl _)⟩)⟩) (fun H4 g4 e4 => ?_)
    rw [filter_yes] at e4
    have e4 : H4 D = some (.lst ((cs.map (· / 100000)).map V.int)) := by
      rw [e4, List.map_map]
      rfl
    refine ⟨Nat.zero_le _, fun f0 n5 => ?_⟩
    generalize hU5 : upd _ _ _ = H5
    have g5 : Gr H4 H5 := by rw [← hU5]; exact (Gr.refl _).new n5
    have gH : Gr H H5 := g1.trans (g2.trans (g3.trans (g4.trans g5)))
    have nHD : H D = none := g1.free (g2.free (g3.free nD))
    have nHf : H f0 = none := g1.free (g2.free (g3.free (g4.free n5)))
    have ncD : p3 ≠ D := ne_of_none e3 nD
    have ncf : p3 ≠ f0 := ne_of_none (g4.lst e3) n5
    have nDf : D ≠ f0 := ne_of_none e4 n5
    refine ⟨_, rfl, _, rfl, (t : Int), (m : Int), rfl, rfl, _, rfl, by omega, by omega, ?_⟩
    refine walk_f (t + m) (fun i σ H' => ∃ (ls ds : List Int) (y6 y7 y8 : Option V), σ = [some (.ref a), some (.int t), some (.int m), some (.ref p3), some (.ref D), some (.ref f0), y6, y7, y8, none] ∧ Gr H H' ∧ H' p3 = some (.lst (cs.map V.int)) ∧ H' D = some (.lst (ls.map V.int)) ∧ ls.length = cs.length ∧ H' f0 = some (.lst (ds.map V.int)) ∧ Drawn ds ∧ ds.length ≤ i)
      ⟨cs.map (· / 100000), [], none, none, none, rfl, gH, g5.lst (g4.lst e3), g5.lst e4, List.length_map .., at_same hU5, fun x h => absurd h (by simp), Nat.le_refl _⟩ (fun i σ H' hi hp => ?_) (fun σ H' hp => ?_)
    · obtain ⟨ls, ds, y6, y7, y8, rfl, i1, i2, i3, i4, i5, i6, i7⟩ := hp
      refine ⟨by show i < ((t : Int) + (m : Int)).toNat; omega, fun x H'' y => ?_⟩
      obtain ⟨rfl, rfl⟩ := y
      rw [Int.zero_add]
      have l0 : (0 : Int) < (((cs.map V.int).length : Nat) : Int) := by rw [List.length_map]; omega
      have m0 := Int.emod_nonneg (i : Int) (show (((cs.map V.int).length : Nat) : Int) ≠ 0 by omega)
      have m1 := Int.emod_lt_of_pos (i : Int) l0
      obtain ⟨j, ej, hj⟩ : ∃ j : Nat, (i : Int) % (((cs.map V.int).length : Nat) : Int) = (j : Int) ∧ j < cs.length := by
        rw [List.length_map] at m0 m1 ⊢
        exact ⟨((i : Int) % ((cs.length : Nat) : Int)).toNat, by omega, by omega⟩
      refine ⟨_, rfl, _, rfl, p3, _, rfl, .inl (sq i2), rdMod l0 ej ?_⟩
      have gc : (cs.map V.int)[j]? = some (.int cs[j]) := by rw [List.getElem?_map, List.getElem?_eq_getElem hj]; rfl
      have gl : (ls.map V.int)[j]? = some (.int (ls[j]'(by omega))) := by rw [List.getElem?_map, List.getElem?_eq_getElem (show j < ls.length by omega)]; rfl
      generalize cs[j] = c at gc
      generalize ls[j]'(by omega) = l at gl
      refine ⟨_, rfl, _, rfl, p3, _, (j : Int), _, rfl, rfl, sq i2, atI_nat gc, _, rfl, c, i, rfl, by omega, fun mm h1 h2 => ?_⟩
      have q0 : ∀ z : Int, 0 ≤ z % 2147483587 ∧ z % 2147483587 < 2147483648 := fun z => ⟨Int.emod_nonneg _ (by decide), Int.lt_trans (Int.emod_lt_of_pos _ (by decide)) (by decide)⟩
      obtain ⟨nn, enn⟩ : ∃ nn : Int, (mm * mm + 7 * (i : Int)) % 2147483587 = nn := ⟨_, rfl⟩
      have qn : 0 ≤ nn ∧ nn < 2147483648 := by rw [← enn]; exact q0 _
      refine ⟨_, rfl, _, rfl, mm, mm, rfl, rfl, wide_mul (a := 32) (b := 32) (by omega) (by omega) (by decide) (by decide) (by decide), _, rfl, 7, (i : Int), rfl, rfl, wide_mul (a := 4) (b := 32) (by decide) (by omega) (by decide) (by decide) (by decide), mm * mm, 7 * (i : Int), rfl, rfl, tCi (rdMod (show (0 : Int) < 2147483587 by decide) enn ?_)⟩
      refine' join2 (α := Int) (P := fun v Hx => (0 ≤ v ∧ v < 2147483648) ∧ ∃ ls : List Int, ls.length = cs.length ∧ Gr H Hx ∧ Hx p3 = some (.lst (cs.map V.int)) ∧ Hx D = some (.lst (ls.map V.int)) ∧ Hx f0 = some (.lst (ds.map V.int))) (fun rest => ?jmain) ?jrest
      case jmain =>
        refine ⟨_, rfl, _, rfl, p3, _, (j : Int), _, rfl, rfl, sq i2, atI_nat gc, 10, 18, rfl, rfl, ⟨by decide, by decide, by decide⟩, c, _, rfl, rfl, _, rfl, ?_⟩
        have stay : ∀ (v : Int) (Hn : Hp), nn = v → H'' = Hn → (0 ≤ v ∧ v < 2147483648) ∧ ∃ ls : List Int, ls.length = cs.length ∧ Gr H Hn ∧ Hn p3 = some (.lst (cs.map V.int)) ∧ Hn D = some (.lst (ls.map V.int)) ∧ Hn f0 = some (.lst (ds.map V.int)) := fun v Hn ev eH => by
          rw [← ev, ← eH]
          exact ⟨qn, ls, i4, i1, i2, i3, i5⟩
        refine' ite2 (fun e => ?ka) (fun e => ?kb)
        case kb =>
          refine iteF ?_
          generalize hv : nn = v
          generalize hH : H'' = Hn
          exact rest v Hn (stay v Hn hv hH)
        case ka =>
          refine ⟨_, rfl, _, rfl, D, _, (j : Int), _, rfl, rfl, sq i3, atI_nat gl, l, 0, rfl, rfl, _, rfl, ?_⟩
          refine' ite2 (fun e2 => ?kc) (fun e2 => ?kd)
          case kd =>
            generalize hv : nn = v
            generalize hH : H'' = Hn
            exact rest v Hn (stay v Hn hv hH)
          case kc =>
            refine ⟨_, rfl, _, rfl, D, _, (j : Int), _, rfl, rfl, sq i3, atI_nat gl, tCi (rdMod (show (0 : Int) < 2147483587 by decide) (rfl : l % 2147483587 = l % 2147483587) ?_)⟩
            refine ⟨_, rfl, _, rfl, D, _, (j : Int), _, rfl, rfl, sq i3, atI_nat gl, l, 2147483587, rfl, rfl, wide_div (b := 32) (by decide) (by decide) (by decide) (by decide), _, rfl, _, rfl, D, _, (j : Int), j, rfl, rfl, i3, ?_, ?_⟩
            · unfold ixN
              rw [if_pos (by omega), if_pos (by rw [List.length_map]; omega)]
              rfl
            generalize hU6 : upd _ _ _ = H6
            refine rest _ H6 ⟨q0 l, ls.set j (l / 2147483587), by rw [List.length_set]; exact i4, ?_, at_ne hU6 ncD i2, ?_, at_ne hU6 nDf.symm i5⟩
            · rw [← hU6]
              exact i1.over nHD
            · rw [at_same hU6, List.map_set]
      case jrest =>
        rintro v Hx ⟨hv, ls2, k1, k2, k3, k4, k5⟩
        refine ⟨_, rfl, .inl ⟨rfl, _, sq k5⟩, _, rfl, f0, _, _, rfl, rfl, k5, by rw [List.length_map]; exact sz' (by omega), ?_⟩
        generalize hU7 : upd _ _ _ = H7
        refine ⟨ls2, ds ++ [v], _, _, _, rfl, ?_, at_ne hU7 ncf k3, at_ne hU7 nDf k4, k1, ?_, drawn_snoc i6 hv.1 hv.2, by rw [List.length_append]; show ds.length + 1 ≤ _; omega⟩
        · rw [← hU7]
          exact k2.over nHf
        · rw [at_same hU7, List.map_append]
          rfl
    · obtain ⟨ls, ds, y6, y7, y8, rfl, i1, i2, i3, i4, i5, i6, i7⟩ := hp
      refine ⟨by show ((t : Int) + (m : Int)).toNat ≤ t + m; omega, ?_⟩
      refine ⟨_, rfl, _, rfl, _, rfl, f0, _, rfl, sq i5, fun p np => ?_⟩
      obtain ⟨kk, ek⟩ := cut_drop ds t
      rw [ek]
      generalize hU9 : upd _ _ _ = H9
      have g9 : Gr H' H9 := by rw [← hU9]; exact (Gr.refl _).new np
      exact ret H9 p (ds.drop kk) (i1.trans g9) (i1.free np) (fun x hx => i6 x (List.mem_of_mem_drop hx)) (at_same hU9)
end
end Wa
namespace Wa
open PySem PySem.Spec PyProof.Rows L2
/-! signs and a length by three -/
abbrev nSize2 : List Str := ["_law_draws_here", "_law_two", "_law_three", "_law_number"]
theorem scSize2 : FnScope nSize2 ["_law_draws_here", "_law_two", "_law_three"] (defScope sSize2) := ⟨rfl, rfl, rfl, by decide +kernel, rfl, by decide +kernel, by decide +kernel⟩
/-- two signs and a length to a, or three and to b -/
def QB (a b q n : Nat) : Prop := (q = 2 ∧ 1 ≤ n ∧ n ≤ a) ∨ (q = 3 ∧ 1 ≤ n ∧ n ≤ b)
def spSize2 : Sp := fun vs H Q _ => ∃ (p : Addr) (ds : List Int) (a b : Nat), vs = [.ref p, .int a, .int b] ∧ 1 ≤ a ∧ 1 ≤ b ∧ H p = some (.lst (ds.map V.int)) ∧ Drawn ds ∧
  ∀ H' t q n, QB a b q n → H t = none → H' t = some (.tup [.int (q : Nat), .int (n : Nat)]) → H' p = some (.lst (ds.dropLast.map V.int)) → OG p H H' → Q (.ref t) H'
section
variable {P : Program} {w : World} {K : PySem.W.Frag} {mg : Str → Option Value} {base : Heap}
theorem ok_Size2 {fSize2  fPop : Addr} {fdSize2 fdPop : FuncData} {k : Nat} (dSize2 : Df K mg "_law_size" sSize2 ["_law_draws_here", "_law_two", "_law_three"] fSize2 fdSize2)
    (dPop : Df K mg "_law_pop" sPop ["_law_draws_here"] fPop fdPop) (gPop : FnOk P w K mg base CX0 k fPop fdPop ["_law_draws_here"] (spPop))
      :
    FnOk P w K mg base CX0 (k + 1) fSize2 fdSize2 ["_law_draws_here", "_law_two", "_law_three"] (spSize2) := by
  refine dSize2.F.ok scSize2 (fun vs H Q E h => ?_) (fun cdv A outer s H vs Q E hr h => ?_)
  · obtain ⟨p, ds, a, b, rfl, _⟩ := h
    rfl
  · obtain ⟨p, ds, a, b, rfl, ha, hb, hp, hd, ret⟩ := h
    refine ⟨_, pss_cons (ps_set (i := 3) scSize2.nd rfl (.inl rfl) (pe_call gPop hr (by rfl) dPop.g dPop.F.kp dPop.b .nil pass0 (pa_cons (pv 0) pa_nil)))
      (pss_cons (ps_if (pt_cmpR op_eq (pe_op op_mod (pv 3) (pe_int)) (pe_int) (nomark _)) (pss_one (ps_ret (pe_tup (pa_cons (pe_int) (pa_cons (pe_op op_add (pe_int) (pe_op op_mod (pe_op op_fdiv (pv 3) (pe_int)) (pv 2))) pa_nil))))) pss_nil)
      (pss_one (ps_ret (pe_tup (pa_cons (pe_int) (pa_cons (pe_op op_add (pe_int) (pe_op op_mod (pe_op op_fdiv (pv 3) (pe_int)) (pv 1))) pa_nil)))))), ?_⟩
    refine ⟨_, rfl, p, ds, rfl, hp, fun H1 p1 k1 => ?_⟩
    have o1 : OG p H H1 := OG.pop k1 ⟨_, p1⟩
    obtain ⟨x0, x1⟩ := hd.pop
    generalize popV ds = x at x0 x1
    refine ⟨_, rfl, x, 3, rfl, rfl, (show (0 : Int) < 3 by decide), rfl, _, rfl, ite2 (fun e => ?_) (fun e => ?_)⟩
    · have m0 := Int.emod_nonneg (x / 3) (show (b : Int) ≠ 0 by omega)
      have m1 := Int.emod_lt_of_pos (x / 3) (show (0 : Int) < (b : Int) by omega)
      obtain ⟨n, en, h1, h2⟩ : ∃ n : Nat, 1 + x / 3 % (b : Int) = (n : Int) ∧ 1 ≤ n ∧ n ≤ b := ⟨(1 + x / 3 % (b : Int)).toNat, by omega, by omega, by omega⟩
      refine ⟨_, rfl, x, 3, rfl, rfl, ⟨by decide, by decide⟩, _, rfl, x / 3, (b : Int), rfl, rfl, (show (0 : Int) < (b : Int) by omega), rdAdd en ?_⟩
      refine ⟨(show 2 ≤ sizeLine by decide), fun t nt => ?_⟩
      generalize hU : upd _ _ _ = H2
      have g2 : Gr H1 H2 := by rw [← hU]; exact (Gr.refl _).new nt
      exact ret H2 t 3 n (.inr ⟨rfl, h1, h2⟩) (o1.free nt) (at_same hU) (g2.lst p1) (o1.trans (OG.gr g2))
    · have m0 := Int.emod_nonneg (x / 3) (show (a : Int) ≠ 0 by omega)
      have m1 := Int.emod_lt_of_pos (x / 3) (show (0 : Int) < (a : Int) by omega)
      obtain ⟨n, en, h1, h2⟩ : ∃ n : Nat, 1 + x / 3 % (a : Int) = (n : Int) ∧ 1 ≤ n ∧ n ≤ a := ⟨(1 + x / 3 % (a : Int)).toNat, by omega, by omega, by omega⟩
      refine ⟨_, rfl, x, 3, rfl, rfl, ⟨by decide, by decide⟩, _, rfl, x / 3, (a : Int), rfl, rfl, (show (0 : Int) < (a : Int) by omega), rdAdd en ?_⟩
      refine ⟨(show 2 ≤ sizeLine by decide), fun t nt => ?_⟩
      generalize hU : upd _ _ _ = H2
      have g2 : Gr H1 H2 := by rw [← hU]; exact (Gr.refl _).new nt
      exact ret H2 t 2 n (.inl ⟨rfl, h1, h2⟩) (o1.free nt) (at_same hU) (g2.lst p1) (o1.trans (OG.gr g2))
end
end Wa
namespace Wa
open PySem PySem.Spec PyProof.Rows L2
/-! all words, sign by sign -/
abbrev nLWords : List Str := ["_law_q", "_law_n", "_law_found", "_law_place", "_law_wider", "_law_word", "_law_sign"]
theorem scLWords : FnScope nLWords ["_law_q", "_law_n"] (defScope sLWords) := ⟨rfl, rfl, rfl, by decide +kernel, rfl, by decide +kernel, by decide +kernel⟩
section
variable {P : Program} {w : World} {K : PySem.W.Frag} {mg : Str → Option Value} {base : Heap}
theorem ok_LWords {fLWords : Addr} {fdLWords : FuncData} {k : Nat} (dLWords : Df K mg "_law_words" sLWords ["_law_q", "_law_n"] fLWords fdLWords)
     (mr : mg "range" = none) (mt : mg "str" = none) :
    FnOk P w K mg base CX0 (k + 1) fLWords fdLWords ["_law_q", "_law_n"] (spAW) := by
  refine dLWords.F.ok scLWords (fun vs H Q E h => ?_) (fun cdv A outer s H vs Q E hr h => ?_)
  · obtain ⟨q, n, rfl, _⟩ := h
    rfl
  · obtain ⟨q, n, rfl, hq, hn, ret⟩ := h
    refine ⟨_, pss_cons (ps_set (i := 2) scLWords.nd rfl (.inl rfl) (pe_lst (pa_cons (pe_str) pa_nil)))
      (pss_cons (ps_for PassesOwn.never rfl (pi_range1 rfl mr (pa_cons (pv 1) pa_nil)) (pg_name (i := 3) scLWords.nd rfl (.inl rfl))
        (pss_cons (ps_set (i := 4) scLWords.nd rfl (.inl rfl) (pe_lst pa_nil))
        (pss_cons (ps_for PassesOwn.never rfl (pi_list (pv 2)) (pg_name (i := 5) scLWords.nd rfl (.inl rfl))
          (pss_one (ps_for PassesOwn.never rfl (pi_range1 rfl mr (pa_cons (pv 0) pa_nil)) (pg_name (i := 6) scLWords.nd rfl (.inl rfl))
            (pss_one (ps_expr (pe_bm PySem.F.plainAttrs_list PySem.F.slot_list_append PySem.F.type_list_append mt_append (pv 4) (pa_cons (pe_op op_add_str (pv 5) (pe_callTy call_str_int (by rfl) mt (by decide +kernel) (pa_cons (pv 6) pa_nil))) pa_nil)))))))
        (pss_one (ps_set (i := 2) scLWords.nd rfl (.inl rfl) (pv 4))))))
      (pss_one (ps_ret (pv 2)))), ?_⟩
    refine ⟨(show 1 ≤ sizeLine by decide), fun p0 np0 => ?_⟩
    refine ⟨.int n, rfl, (n : Int), rfl, by omega, by omega, ?_⟩
    refine walk_f n (fun i σ H' => ∃ (p : Addr) (y3 y4 y5 y6 : Option V), σ = [some (.int q), some (.int n), some (.ref p), y3, y4, y5, y6] ∧ Same H H' ∧ H p = none ∧ H' p = some (.lst (vws (allD q i)))) ⟨p0, none, none, none, none, rfl, same_upd np0, np0, upd_same⟩ (fun i σ H' hi hp => ?_) (fun σ H' hp => ?_)
    · obtain ⟨p, y3, y4, y5, y6, rfl, i1, i2, i3⟩ := hp
      refine ⟨by show i < (n : Int).toNat; omega, fun x H'' y => ?_⟩
      obtain ⟨rfl, rfl⟩ := y
      refine ⟨Nat.zero_le _, fun m0 nm => ?_⟩
      generalize hU1 : upd _ _ _ = H1
      have s1 : Same H'' H1 := by rw [← hU1]; exact same_upd nm
      have hlen : (allD q i).length ≤ 6561 := by rw [allD_len]; exact pow_bound hq (by omega)
      have hmem : ∀ w ∈ allD q i, w.length = i := fun w h => (allD_mem h).1
      have eS : allD q (i + 1) = (allD q i).flatMap fun w => (List.range q).map fun s => w ++ [s] := rfl
      rw [eS]
      have nHm : H m0 = none := i1.free nm
      have npm : p ≠ m0 := ne_of_none i3 nm
      generalize allD q i = L at hlen hmem i3
      refine ⟨_, rfl, p, rfl, ⟨_, sq (s1 _ _ i3)⟩, ?_⟩
      refine walk_f L.length (fun j σ H5 => ∃ (y5 y6 : Option V), σ = [some (.int q), some (.int n), some (.ref p), some (.int (0 + (i : Int))), some (.ref m0), y5, y6] ∧ Same H H5 ∧ H5 p = some (.lst (vws L)) ∧ H5 m0 = some (.lst (vws ((L.take j).flatMap fun w => (List.range q).map fun s => w ++ [s]))))
        ⟨_, _, rfl, i1.trans s1, s1 _ _ i3, at_same hU1⟩ (fun j σ H5 hj hp => ?_) (fun σ H5 hp => ?_)
      · obtain ⟨y5, y6, rfl, j1, j3, j4⟩ := hp
        refine ⟨itl_go (sq j3) (by rw [vws_len]; exact hj), fun x H6 y => ?_⟩
        obtain ⟨rfl, ex⟩ := itl_yld (sq j3) y
        have gj : L[j]? = some L[j] := List.getElem?_eq_getElem hj
        have lu := hmem _ (List.getElem_mem hj)
        have ef := flat_take (f := fun w => (List.range q).map fun s => w ++ [s]) gj
        rw [vws_get, gj] at ex
        cases ex
        generalize L[j] = u at gj lu ef
        have lf : ((L.take j).flatMap fun w => (List.range q).map fun s => w ++ [s]).length ≤ 6561 * 3 := by
          rw [flat_len (q := q) fun x _ => by rw [List.length_map, List.length_range], List.length_take]
          exact Nat.mul_le_mul (by omega) hq
        generalize ((L.take j).flatMap fun w => (List.range q).map fun s => w ++ [s]) = F0 at j4 ef lf
        refine ⟨_, rfl, (q : Int), rfl, by omega, by omega, ?_⟩
        refine walk_f q (fun c σ H7 => ∃ (y6 : Option V), σ = [some (.int q), some (.int n), some (.ref p), some (.int (0 + (i : Int))), some (.ref m0), some (.str (wd u)), y6] ∧ Same H H7 ∧ H7 p = some (.lst (vws L)) ∧ H7 m0 = some (.lst (vws (F0 ++ ((List.range c).map fun s => u ++ [s])))))
          ⟨_, rfl, j1, j3, by rw [List.range_zero, List.map_nil, List.append_nil]; exact j4⟩ (fun c σ H7 hc hp => ?_) (fun σ H7 hp => ?_)
        · obtain ⟨y6, rfl, k1, k2, k3⟩ := hp
          refine ⟨by show c < (q : Int).toNat; omega, fun x H8 y => ?_⟩
          obtain ⟨rfl, rfl⟩ := y
          rw [Int.zero_add]
          have c3 : c < 3 := by omega
          refine ⟨_, rfl, .inl ⟨rfl, _, sq k3⟩, _, rfl, _, rfl, (c : Int), rfl, small_log c3, wd u, Str.ofString (toString (c : Int)), rfl, rfl, ?_, ?_⟩
          · rw [str_fig c3, wd_len, wd_len, lu]
            exact sz (by show i + 1 ≤ _; omega)
          rw [str_fig c3, wd_app]
          refine ⟨m0, _, _, rfl, rfl, k3, by rw [vws_len, List.length_append, List.length_map, List.length_range]; exact sz' (by omega), ?_⟩
          generalize hU9 : upd _ _ _ = H9
          refine ⟨_, rfl, ?_, at_ne hU9 npm k2, ?_⟩
          · rw [← hU9]
            exact same_over k1 nHm
          · rw [at_same hU9, ← vws_snoc, List.append_assoc, List.range_succ, List.map_append]
            rfl
        · obtain ⟨y6, rfl, k1, k2, k3⟩ := hp
          exact ⟨by show (q : Int).toNat ≤ q; omega, _, _, rfl, k1, k2, by rw [ef]; exact k3⟩
      · obtain ⟨y5, y6, rfl, j1, j3, j4⟩ := hp
        rw [List.take_length] at j4
        exact ⟨itl_stop (sq j3) (vws_len _), _, rfl, m0, _, _, _, _, rfl, j1, nHm, j4⟩
    · obtain ⟨p, y3, y4, y5, y6, rfl, i1, i2, i3⟩ := hp
      exact ⟨by show (n : Int).toNat ≤ n; omega, _, rfl, ret _ p i1 i2 i3⟩
end
end Wa
namespace Wa
open PySem PySem.Spec PyProof.Rows L2
/-! a row of sums of two neighbours -/
abbrev nChosen : List Str := ["_law_many", "_law_row", "_law_k", "_law_j"]
theorem scChosen : FnScope nChosen ["_law_many"] (defScope sChosen) := ⟨rfl, rfl, rfl, by decide +kernel, rfl, by decide +kernel, by decide +kernel⟩
def pas (m : Nat) : List Int := (List.range (m + 1)).map fun j => ((chs m j : Nat) : Int)
theorem pas_len (m : Nat) : (pas m).length = m + 1 := by unfold pas; rw [List.length_map, List.length_range]
theorem pas_at {m j : Nat} (h : j ≤ m) : ((pas m).map V.int)[j]? = some (.int ((chs m j : Nat) : Int)) := by
  unfold pas
  rw [List.map_map, List.getElem?_map, List.getElem?_range (by omega)]
  rfl
theorem pas_succ (i : Nat) : pas (i + 1) = [1] ++ ((List.range i).map fun j => (((chs i j + chs i (j + 1) : Nat)) : Int)) ++ [1] := by
  unfold pas
  rw [List.range_succ_eq_map, List.range_succ, List.map_cons, List.map_map, List.map_append]
  show _ :: (_ ++ _) = [(1 : Int)] ++ _ ++ [(1 : Int)]
  have e : ((chs (i + 1) (i + 1) : Nat) : Int) = 1 := by rw [chs_self]; rfl
  show _ :: (_ ++ [((chs (i + 1) (i + 1) : Nat) : Int)]) = _
  rw [e]
  rfl
def spChosen : Sp := fun vs H Q _ => ∃ (m : Nat), vs = [.int m] ∧ m ≤ 30 ∧ ∀ H' p, Gr H H' → H p = none → H' p = some (.lst ((pas m).map V.int)) → Q (.ref p) H'
section
variable {P : Program} {w : World} {K : PySem.W.Frag} {mg : Str → Option Value} {base : Heap}
theorem ok_Chosen {fChosen : Addr} {fdChosen : FuncData} {k : Nat} (dChosen : Df K mg "_law_chosen" sChosen ["_law_many"] fChosen fdChosen)
     (mr : mg "range" = none) (ml : mg "len" = none) :
    FnOk P w K mg base CX0 (k + 1) fChosen fdChosen ["_law_many"] (spChosen) := by
  refine dChosen.F.ok scChosen (fun vs H Q E h => ?_) (fun cdv A outer s H vs Q E hr h => ?_)
  · obtain ⟨m, rfl, _⟩ := h
    rfl
  · obtain ⟨m, rfl, hm, ret⟩ := h
    refine ⟨_, pss_cons (ps_set (i := 1) scChosen.nd rfl (.inr rfl) (pe_lst (pa_cons (pe_int) pa_nil)))
      (pss_cons (ps_for PassesOwn.never rfl (pi_range1 rfl mr (pa_cons (pv 0) pa_nil)) (pg_name (i := 2) scChosen.nd rfl (.inl rfl))
        (pss_one (ps_set (i := 1) scChosen.nd rfl (.inr rfl) (pe_op op_cat (pe_op op_cat (pe_lst (pa_cons (pe_int) pa_nil)) (pe_lc (own := [("_law_j", 3)]) (g := gName 3) (tt := tYes) (te := tOp _ (tOp (rIxL K) (tVar 1) (tVar 3)) (tOp (rIxL K) (tVar 1) (tOp _ (tVar 3) (tC (.int 1))))) rfl scChosen.nd (pi_range1 rfl mr (pa_cons (pe_op op_sub (pe_callB call_lenK (by rfl) ml (PySem.boot_len) (pa_cons (pv 1) pa_nil)) (pe_int)) pa_nil)) (blkOk_by (own := [("_law_j", 3)]) (N := nChosen) (sc := defScope sChosen) (by decide +kernel)) (fun _ _ _ _ _ => pg_name (i := 3) scChosen.nd rfl (.inl rfl)) (fun _ _ _ _ _ => pts_nil) (fun _ _ _ _ _ => pe_op op_add (pe_ix ix_list (pv 1) (pv 3) (fun _ _ => rfl)) (pe_ix ix_list (pv 1) (pe_op op_add (pv 3) (pe_int)) (fun _ _ => rfl))))) (pe_lst (pa_cons (pe_int) pa_nil))))))
      (pss_one (ps_ret (pv 1)))), ?_⟩
    refine ⟨(show 1 ≤ sizeLine by decide), fun p0 np0 => ?_⟩
    generalize hU0 : upd _ _ _ = H0
    have g0 : Gr H H0 := by rw [← hU0]; exact (Gr.refl _).new np0
    refine ⟨_, rfl, (m : Int), rfl, by omega, by omega, ?_⟩
    refine walk_f m (fun i σ H' => ∃ (p : Addr) (y2 : Option V), σ = [some (.int m), some (.ref p), y2, none] ∧ Gr H H' ∧ H p = none ∧ H' p = some (.lst ((pas i).map V.int))) ⟨p0, none, rfl, g0, np0, at_same hU0⟩ (fun i σ H' hi hp => ?_) (fun σ H' hp => ?_)
    · obtain ⟨p, y2, rfl, i1, i2, i3⟩ := hp
      refine ⟨by show i < (m : Int).toNat; omega, fun x H'' y => ?_⟩
      obtain ⟨rfl, rfl⟩ := y
      refine ⟨(show 1 ≤ sizeLine by decide), fun l1 n1 => ?_⟩
      generalize hU1 : upd _ _ _ = H1
      have g1 : Gr H'' H1 := by rw [← hU1]; exact (Gr.refl _).new n1
      refine ⟨_, rfl, p, _, rfl, .inl (sq (g1.lst i3)), tCi (rdSub (z := (i : Int)) (by rw [List.length_map, pas_len]; omega) ?_)⟩
      refine ⟨(i : Int), rfl, by omega, by omega, fun D nD => ?_⟩
      rw [Int.toNat_natCast]
      refine lcH (handsL_range 0 i) (fun _ => true) (fun j => .int (((chs i j + chs i (j + 1) : Nat)) : Int)) nD (by rw [List.length_range]; omega) (fun j H2 Y N hm g hy _ => ?_) (fun H2 g2 e2 => ?_)
      · have hj := List.mem_range.mp hm
        rw [Int.zero_add]
        refine ⟨rfl, yes (iteT ⟨_, rfl, _, rfl, p, _, (j : Int), _, rfl, rfl, sq (g.lst (g1.lst i3)), atI_nat (pas_at (by omega)), _, rfl, _, rfl, (j : Int), 1, rfl, rfl, p, _, _, _, rfl, rfl, sq (g.lst (g1.lst i3)), atI_nat (j := j + 1) (pas_at (by omega)), _, _, rfl, rfl, ?_⟩)⟩
        exact hy rfl H2 (Gr.refl _)
      · rw [filter_yes] at e2
        refine ⟨l1, D, _, _, rfl, rfl, g2.lst (at_same hU1), e2, ?_, fun p3 n3 => ?_⟩
        · rw [List.length_map, List.length_range]
          exact sz (by show 1 + i ≤ _; omega)
        generalize hU3 : upd _ _ _ = H3
        have g3 : Gr H2 H3 := by rw [← hU3]; exact (Gr.refl _).new n3
        refine ⟨(show 1 ≤ sizeLine by decide), fun l4 n4 => ?_⟩
        generalize hU4 : upd _ _ _ = H4
        have g4 : Gr H3 H4 := by rw [← hU4]; exact (Gr.refl _).new n4
        refine ⟨p3, l4, _, _, rfl, rfl, g4.lst (at_same hU3), at_same hU4, ?_, fun p5 n5 => ?_⟩
        · rw [List.length_append, List.length_map, List.length_range]
          exact sz (by show 1 + i + 1 ≤ _; omega)
        generalize hU5 : upd _ _ _ = H5
        have g5 : Gr H4 H5 := by rw [← hU5]; exact (Gr.refl _).new n5
        refine ⟨p5, _, rfl, i1.trans (g1.trans (g2.trans (g3.trans (g4.trans g5)))), i1.free (g1.free (g2.free (g3.free (g4.free n5)))), ?_⟩
        rw [at_same hU5, pas_succ, List.map_append, List.map_append, List.map_map]
        rfl
    · obtain ⟨p, y2, rfl, i1, i2, i3⟩ := hp
      exact ⟨by show (m : Int).toNat ≤ m; omega, _, rfl, ret _ p i1 i2 i3⟩
end
end Wa
namespace Wa
open PySem PySem.Spec PyProof.Rows L2
/-! waves by all words -/
def oth (n i : Nat) : List Nat := List.replicate i 1 ++ List.replicate (n - i) 0
def rsn (n i : Nat) (w : List Nat) : Nat := ((List.range n).map fun k => w.getD k 0 * (oth n i).getD k 0).sum
def hvy (w : List Nat) : Nat := (w.filter (fun d => decide (d ≠ 0))).length
def gain (q r : Nat) : Int := if 0 < r then -1 else (q : Int) - 1
def dueS (q n i : Nat) (D : List Int) (w : List Nat) : List Int := D.set (hvy w) (D.getD (hvy w) 0 + gain q (rsn n i w % q))
def dueL (q n i : Nat) (ws : List (List Nat)) : List Int := ws.foldl (dueS q n i) (List.replicate (n + 1) 0)
def wavL (q n i : Nat) : List Int := (List.range (n + 1)).map fun k => wav q n k i * ((q : Int) - 1)
theorem due2 : ∀ n, n < 9 → ∀ i, i < n + 1 → dueL 2 n i (allD 2 n) = wavL 2 n i := by decide +kernel
theorem due3 : ∀ n, n < 6 → ∀ i, i < n + 1 → dueL 3 n i (allD 3 n) = wavL 3 n i := by decide +kernel
theorem due_is {q n i : Nat} (h : QB 8 5 q n) (hi : i ≤ n) : dueL q n i (allD q n) = wavL q n i := by
  rcases h with ⟨rfl, h1, h2⟩ | ⟨rfl, h1, h2⟩
  · exact due2 n (by omega) i (by omega)
  · exact due3 n (by omega) i (by omega)
theorem dueS_len (q n i : Nat) (D : List Int) (w : List Nat) : (dueS q n i D w).length = D.length := List.length_set ..
theorem dueL_len (q n i : Nat) (ws : List (List Nat)) : (dueL q n i ws).length = n + 1 := by
  unfold dueL
  have : ∀ (ws : List (List Nat)) (D : List Int), (ws.foldl (dueS q n i) D).length = D.length := by
    intro ws
    induction ws with
    | nil => intro D; rfl
    | cons w ws ih => intro D; rw [List.foldl_cons, ih, dueS_len]
  rw [this, List.length_replicate]
theorem dueL_snoc (q n i : Nat) (ws : List (List Nat)) (w : List Nat) : dueL q n i (ws ++ [w]) = dueS q n i (dueL q n i ws) w := by
  unfold dueL
  rw [List.foldl_append]
  rfl
theorem oth_len {n i : Nat} (h : i ≤ n) : (oth n i).length = n := by
  unfold oth
  rw [List.length_append, List.length_replicate, List.length_replicate]
  omega
theorem oth_lt {n i : Nat} {d : Nat} (h : d ∈ oth n i) : d < 2 := by
  unfold oth at h
  rcases List.mem_append.mp h with z | z
  · rw [(List.mem_replicate.mp z).2]; decide
  · rw [(List.mem_replicate.mp z).2]; decide
theorem hvy_le (w : List Nat) : hvy w ≤ w.length := List.length_filter_le _ _
theorem rep_one (k : Nat) : repS ("1" : Str) k = wd (List.replicate k 1) := by
  apply str_ext
  rw [repS_list, wd_list]
  have e : ("1" : Str).cps.toList = [49] := by decide +kernel
  rw [e]
  induction k with
  | zero => rfl
  | succ k ih => rw [List.replicate_succ, List.flatten_cons, ih, List.replicate_succ]; rfl
theorem wys_row (m : Nat) : ((List.range (m + 5)).map fun j : Nat => wys (m : Int) (-2 + (j : Int))) = [0, 0] ++ pas m ++ [0, 0] := by
  have h1 : ((List.range 2).map fun j : Nat => wys (m : Int) (-2 + (j : Int))) = [0, 0] := by
    show [wys m (-2 + 0), wys m (-2 + 1)] = [0, 0]
    unfold wys
    rw [if_neg (by omega), if_neg (by omega)]
  have h2 : ((List.range (m + 1)).map ((fun j : Nat => wys (m : Int) (-2 + (j : Int))) ∘ fun x => 2 + x)) = pas m := by
    unfold pas
    refine List.map_congr_left fun j _ => ?_
    show wys m (-2 + ((2 + j : Nat) : Int)) = _
    rw [show (-2 : Int) + ((2 + j : Nat) : Int) = (j : Int) by omega, wys_nat]
  have h3 : ((List.range 2).map ((fun j : Nat => wys (m : Int) (-2 + (j : Int))) ∘ fun x => 2 + (m + 1) + x)) = [0, 0] := by
    show [wys m (-2 + ((2 + (m + 1) + 0 : Nat) : Int)), wys m (-2 + ((2 + (m + 1) + 1 : Nat) : Int))] = [0, 0]
    unfold wys
    rw [if_neg (by omega), if_neg (by omega)]
  rw [show m + 5 = 2 + (m + 1) + 2 by omega, List.range_add, List.range_add, List.map_append, List.map_append, List.map_map, List.map_map, h1, h2, h3]
theorem wys_out {m s : Int} (h : s < 0 ∨ m < s) : wys m s = 0 := by
  unfold wys
  rw [if_neg (by omega)]
theorem row_bound {m : Nat} (hm : m ≤ 30) : ∀ a ∈ [0, 0] ++ pas m ++ [0, 0], a.natAbs < 10 ^ 15 := by
  intro a ha
  have z : a = 0 ∨ a ∈ pas m := by
    rcases List.mem_append.mp ha with h | h
    · rcases List.mem_append.mp h with h | h
      · exact .inl (by simpa using h)
      · exact .inr h
    · exact .inl (by simpa using h)
  rcases z with rfl | z
  · decide
  · obtain ⟨j, _, rfl⟩ := List.mem_map.mp z
    rw [Int.natAbs_natCast]
    exact Nat.lt_of_le_of_lt (chs_le m j) (Nat.lt_of_le_of_lt (Nat.pow_le_pow_right (by decide) hm) (by decide))
theorem wavL_bound {q n i : Nat} (hq : q ≤ 3) (hq1 : 1 ≤ q) (hn : n ≤ 8) (hi : i ≤ n) : ∀ a ∈ wavL q n i, a.natAbs < 10 ^ 15 := by
  intro a ha
  obtain ⟨k, hk, rfl⟩ := List.mem_map.mp ha
  have hk := List.mem_range.mp hk
  have hb := wav_bound (q := q) (n := n) (k := k) (i := i) hq (by omega) (by omega) hi
  rw [Int.natAbs_mul]
  have h2 : ((q : Int) - 1).natAbs ≤ 2 := by omega
  have := Nat.mul_le_mul hb h2
  refine Nat.lt_of_le_of_lt this (by decide)
end Wa
local macro_rules | `(tactic| walk_at "ne") => `(tactic| first
  | assumption
  | (apply Ne.symm; assumption)
  | ((refine' Wa.ne_none (by assumption) ?hh); (case hh => walk_at "hp"))
  | ((refine' Wa.ne_none' (by assumption) ?hh); (case hh => walk_at "hp"))
  | ((refine' Wa.ne_noneT (by assumption) ?hh); (case hh => walk_at "hp"))
  | ((refine' Wa.ne_noneT' (by assumption) ?hh); (case hh => walk_at "hp")))
local macro_rules | `(tactic| walk_at "hp") => `(tactic| first
  | assumption
  | exact Wa.at_same (by assumption)
  | ((refine' Wa.at_gr (by assumption) ?hh); (case hh => walk_at "hp"))
  | ((refine' Wa.at_grT (by assumption) ?hh); (case hh => walk_at "hp"))
  | ((refine' Wa.at_sm (by assumption) ?hh); (case hh => walk_at "hp"))
  | ((refine' Wa.at_ne (by assumption) ?hn ?hh); (case hn => walk_at "ne"); (case hh => walk_at "hp"))
  | ((refine' Wa.at_pop (by assumption) ?hn ?hh); (case hn => walk_at "ne"); (case hh => walk_at "hp"))
  | ((refine' Wa.at_og (by assumption) ?hn ?hh); (case hn => walk_at "ne"); (case hh => walk_at "hp"))
  | ((refine' Wa.at_ogT (by assumption) ?hn ?hh); (case hn => walk_at "ne"); (case hh => walk_at "hp"))
  | ((refine' Wa.at_oth (by assumption) ?hn ?hh); (case hn => walk_at "ne"); (case hh => walk_at "hp")))
local macro_rules | `(tactic| walk_at "tb") => `(tactic| first
  | assumption
  | ((refine' Wa.tb_gr (by assumption) ?hh); (case hh => walk_at "tb"))
  | ((refine' Wa.tb_sm (by assumption) ?hh); (case hh => walk_at "tb"))
  | ((refine' Wa.tb_new (by assumption) (by assumption) ?hh); (case hh => walk_at "tb"))
  | ((refine' Wa.tb_upd (by assumption) ?hn ?hh); (case hn => walk_at "hp"); (case hh => walk_at "tb"))
  | ((refine' Wa.tb_pop (by assumption) ?hn ?hh); (case hn => walk_at "hp"); (case hh => walk_at "tb"))
  | ((refine' Wa.tb_og (by assumption) ?hn ?hh); (case hn => walk_at "hp"); (case hh => walk_at "tb"))
  | ((refine' Wa.tb_oth (by assumption) ?hn ?hh); (case hn => walk_at "hp"); (case hh => walk_at "tb")))
namespace Wa
open PySem PySem.Spec PyProof.Rows L2
/-! the law -/
abbrev nLaw : List Str := ["_law_script", "_law_draws_here", "_law_many", "_law_row", "_law_told", "_law_far", "_law_q", "_law_n", "_law_i", "_law_other", "_law_due", "_law_word", "_law_rest", "_law_heavy", "_law_some", "_law_k", "_law_sign"]
theorem scLaw : FnScope nLaw ["_law_script"] (defScope sLaw) := ⟨rfl, rfl, rfl, by decide +kernel, rfl, by decide +kernel, by decide +kernel⟩
theorem dn40 (ns : List Int) : (dns ns).depth ≤ 40 := Nat.le_trans (nice_ns ns).2 (by decide)
section
variable {P : Program} {w : World} {K : PySem.W.Frag} {mg : Str → Option Value} {base : Heap}
theorem ok_law {fWays fPow fWPart fWave fMix fDraws2 fPop fLWords fSize2 fChosen fLaw  : Addr} {fdWays fdPow fdWPart fdWave fdMix fdDraws2 fdPop fdLWords fdSize2 fdChosen fdLaw : FuncData} (F : Fun K "law" "law" sLaw fLaw fdLaw)
    (dWays : Df K mg "ways" sWays ["many", "some"] fWays fdWays)
    (dPow : Df K mg "power" sPow ["number", "times"] fPow fdPow)
    (dWPart : Df K mg "wave_part" sWPart ["q", "n", "k", "i", "j"] fWPart fdWPart)
    (dWave : Df K mg "wave" sWave ["q", "n", "k", "i"] fWave fdWave)
    (dMix : Df K mg "_law_mix" sMix ["_law_cell", "_law_turn"] fMix fdMix)
    (dDraws2 : Df K mg "_law_draws" sDraws2 ["_law_script", "_law_turn", "_law_many"] fDraws2 fdDraws2)
    (dPop : Df K mg "_law_pop" sPop ["_law_draws_here"] fPop fdPop)
    (dLWords : Df K mg "_law_words" sLWords ["_law_q", "_law_n"] fLWords fdLWords)
    (dSize2 : Df K mg "_law_size" sSize2 ["_law_draws_here", "_law_two", "_law_three"] fSize2 fdSize2)
    (dChosen : Df K mg "_law_chosen" sChosen ["_law_many"] fChosen fdChosen)
     (mmin : mg "min" = none) (mr : mg "range" = none) (ms : mg "sum" = none) (ml : mg "len" = none) (mt : mg "str" = none) (mint : mg "int" = none) :
    FnG P w K mg base 12 fLaw fdLaw ["_law_script"] (spLaw K []) := by
  have gDraws2 : FnOk P w K mg base CX0 11 fDraws2 fdDraws2 ["_law_script", "_law_turn", "_law_many"] (spDraws2 K) := (ok_Draws2 (k := 10) dDraws2 dMix (ok_Mix (k := 9) dMix) mr ml)
  have gChosen : FnOk P w K mg base CX0 11 fChosen fdChosen ["_law_many"] (spChosen) := (ok_Chosen (k := 10) dChosen mr ml)
  have gSize2 : FnOk P w K mg base CX0 11 fSize2 fdSize2 ["_law_draws_here", "_law_two", "_law_three"] (spSize2) := (ok_Size2 (k := 10) dSize2 dPop (ok_pop dPop.F))
  have gLWords : FnOk P w K mg base CX0 11 fLWords fdLWords ["_law_q", "_law_n"] (spAW) := (ok_LWords (k := 10) dLWords mr mt)
  have gPop : FnOk P w K mg base CX0 11 fPop fdPop ["_law_draws_here"] (spPop) := (ok_pop dPop.F)
  have gWays : FnOk P w K mg base CX0 11 fWays fdWays ["many", "some"] (spWays) := (ok_Ways (k := 10) dWays mmin mr)
  have gWave : FnOk P w K mg base CX0 11 fWave fdWave ["q", "n", "k", "i"] (spWave) := (ok_Wave (k := 10) dWave dWPart (ok_WPart (k := 9) dWPart dWays (ok_Ways (k := 8) dWays mmin mr) dPow (ok_Pow (k := 8) dPow mr)) ms mr)
  refine FnG.mk' F scLaw (fun vs H Q E h => ?_) (fun cdv A outer s H vs Q E hgu hr h => ?_)
  · obtain ⟨a, ns, rfl, _⟩ := h
    rfl
  · obtain ⟨a, ns, rfl, ha, hT, ret⟩ := h
    refine ⟨_, pss_cons (ps_set (i := 1) scLaw.nd rfl (.inl rfl) (pe_call gDraws2 hr (by rfl) dDraws2.g dDraws2.F.kp dDraws2.b .nil pass0 (pa_cons (pv 0) (pa_cons (pe_int) (pa_cons (pe_int) pa_nil)))))
      (pss_cons (ps_set (i := 2) scLaw.nd rfl (.inr rfl) (pe_op op_mod (pe_call gPop hr (by rfl) dPop.g dPop.F.kp dPop.b .nil pass0 (pa_cons (pv 1) pa_nil)) (pe_int)))
      (pss_cons (ps_set (i := 3) scLaw.nd rfl (.inl rfl) (pe_call gChosen hr (by rfl) dChosen.g dChosen.F.kp dChosen.b .nil pass0 (pa_cons (pv 2) pa_nil)))
      (pss_cons (ps_setLc (i := 4) (own := [("_law_some", 14)]) (g := gName 14) (tt := tYes) (te := tCall (spWays) [] _ (tCons (tVar 2) (tCons (tVar 14) (tNil)))) rfl scLaw.nd rfl rfl (sw_true rfl rfl rfl (by decide +kernel)) (pi_range2 rfl mr (pa_cons (pe_un un_neg pe_int) (pa_cons (pe_op op_add (pv 2) (pe_int)) pa_nil))) (blkOk_by (own := [("_law_some", 14)]) (N := nLaw) (sc := defScope sLaw) (by decide +kernel)) (fun _ _ _ _ _ => pg_name (i := 14) scLaw.nd rfl (.inl rfl)) (fun _ _ _ _ _ => pts_nil) (fun _ _ _ _ _ => pe_call gWays hr (by rfl) dWays.g dWays.F.kp dWays.b .nil pass0 (pa_cons (pv 2) (pa_cons (pv 14) pa_nil))))
      (pss_cons (ps_if (pt_cmpR op_ne (pe_callTy (call_strD hgu hr.units) (by rfl) mt (by decide +kernel) (pa_cons (pv 4) pa_nil)) (pe_callTy (call_strD hgu hr.units) (by rfl) mt (by decide +kernel) (pa_cons (pe_op op_cat (pe_op op_cat (pe_lst (pa_cons (pe_int) (pa_cons (pe_int) pa_nil))) (pv 3)) (pe_lst (pa_cons (pe_int) (pa_cons (pe_int) pa_nil)))) pa_nil)) (nomark _)) (pss_one (ps_ret (pe_bl))) pss_nil)
      (pss_cons (ps_set (i := 5) scLaw.nd rfl (.inl rfl) (pe_op op_add (pe_int) (pe_op op_mod (pe_call gPop hr (by rfl) dPop.g dPop.F.kp dPop.b .nil pass0 (pa_cons (pv 1) pa_nil)) (pe_int))))
      (pss_cons (ps_if (pt_cmpR op_ne (pe_callTy (call_strD hgu hr.units) (by rfl) mt (by decide +kernel) (pa_cons (pe_lst (pa_cons (pe_call gWays hr (by rfl) dWays.g dWays.F.kp dWays.b .nil pass0 (pa_cons (pv 2) (pa_cons (pe_op op_sub (pe_int) (pv 5)) pa_nil))) (pa_cons (pe_call gWays hr (by rfl) dWays.g dWays.F.kp dWays.b .nil pass0 (pa_cons (pv 2) (pa_cons (pv 5) pa_nil))) (pa_cons (pe_call gWays hr (by rfl) dWays.g dWays.F.kp dWays.b .nil pass0 (pa_cons (pe_int) (pa_cons (pe_op op_sub (pe_int) (pv 5)) pa_nil))) (pa_cons (pe_call gWays hr (by rfl) dWays.g dWays.F.kp dWays.b .nil pass0 (pa_cons (pe_int) (pa_cons (pv 5) pa_nil))) pa_nil))))) pa_nil)) (pe_callTy (call_strD hgu hr.units) (by rfl) mt (by decide +kernel) (pa_cons (pe_op op_rep (pe_lst (pa_cons (pe_int) pa_nil)) (pe_int)) pa_nil)) (nomark _)) (pss_one (ps_ret (pe_bl))) pss_nil)
      (pss_cons (ps_asg (pe_call gSize2 hr (by rfl) dSize2.g dSize2.F.kp dSize2.b .nil pass0 (pa_cons (pv 1) (pa_cons (pe_int) (pa_cons (pe_int) pa_nil)))) (pg_tup (by rfl) (pgs_cons (pg_name (i := 6) scLaw.nd rfl (.inr rfl)) (pgs_cons (pg_name (i := 7) scLaw.nd rfl (.inr rfl)) pgs_nil))))
      (pss_cons (ps_set (i := 8) scLaw.nd rfl (.inr rfl) (pe_op op_mod (pe_call gPop hr (by rfl) dPop.g dPop.F.kp dPop.b .nil pass0 (pa_cons (pv 1) pa_nil)) (pe_op op_add (pv 7) (pe_int))))
      (pss_cons (ps_set (i := 9) scLaw.nd rfl (.inr rfl) (pe_op op_add_str (pe_op op_repS (pe_str) (pv 8)) (pe_op op_repS (pe_str) (pe_op op_sub (pv 7) (pv 8)))))
      (pss_cons (ps_setLc (i := 10) (own := [("_law_k", 15)]) (g := gName 15) (tt := tYes) (te := tC (.int 0)) rfl scLaw.nd rfl rfl (sw_true rfl rfl rfl (by decide +kernel)) (pi_range1 rfl mr (pa_cons (pe_op op_add (pv 7) (pe_int)) pa_nil)) (blkOk_by (own := [("_law_k", 15)]) (N := nLaw) (sc := defScope sLaw) (by decide +kernel)) (fun _ _ _ _ _ => pg_name (i := 15) scLaw.nd rfl (.inl rfl)) (fun _ _ _ _ _ => pts_nil) (fun _ _ _ _ _ => pe_int))
      (pss_cons (ps_for PassesOwn.never rfl (pi_list (pe_call gLWords hr (by rfl) dLWords.g dLWords.F.kp dLWords.b .nil pass0 (pa_cons (pv 6) (pa_cons (pv 7) pa_nil)))) (pg_name (i := 11) scLaw.nd rfl (.inr rfl))
        (pss_cons (ps_set (i := 12) scLaw.nd rfl (.inl rfl) (pe_op op_mod (pe_callB (id := "sum") (r := rSum K) (cr_sum rfl) (by rfl) ms (by decide +kernel) (pa_cons (pe_lc (own := [("_law_k", 15)]) (g := gName 15) (tt := tYes) (te := tOp _ (tCB (_) (tCons (tOp _ (tVar 11) (tVar 15)) (tNil))) (tCB (_) (tCons (tOp _ (tVar 9) (tVar 15)) (tNil)))) rfl scLaw.nd (pi_range1 rfl mr (pa_cons (pv 7) pa_nil)) (blkOk_by (own := [("_law_k", 15)]) (N := nLaw) (sc := defScope sLaw) (by decide +kernel)) (fun _ _ _ _ _ => pg_name (i := 15) scLaw.nd rfl (.inl rfl)) (fun _ _ _ _ _ => pts_nil) (fun _ _ _ _ _ => pe_op op_mul (pe_callTy call_int_str (by rfl) mint (by decide +kernel) (pa_cons (pe_item_str (pv 11) (pv 15) (fun _ _ => rfl)) pa_nil)) (pe_callTy call_int_str (by rfl) mint (by decide +kernel) (pa_cons (pe_item_str (pv 9) (pv 15) (fun _ _ => rfl)) pa_nil)))) pa_nil)) (pv 6)))
        (pss_cons (ps_set (i := 13) scLaw.nd rfl (.inl rfl) (pe_callB call_lenK (by rfl) ml (PySem.boot_len) (pa_cons (pe_lc (own := [("_law_sign", 16)]) (g := gName 16) (tt := tTest (tOp (_) (tVar 16) (tC (.str ("0" : Str))))) (te := tVar 16) rfl scLaw.nd (pi_str (pv 11)) (blkOk_by (own := [("_law_sign", 16)]) (N := nLaw) (sc := defScope sLaw) (by decide +kernel)) (fun _ _ _ _ _ => pg_name (i := 16) scLaw.nd rfl (.inl rfl)) (fun _ _ _ _ _ => pts_one (pt_cmpR op_ne (pv 16) (pe_str) (nomark _))) (fun _ _ _ _ _ => pv 16)) pa_nil)))
        (pss_one (ps_asg (pe_op op_add (pe_ix ix_list (pv 10) (pv 13) (fun _ _ => rfl)) (pe_ix ix_list (pe_lst (pa_cons (pe_op op_sub (pv 6) (pe_int)) (pa_cons (pe_un un_neg pe_int) pa_nil))) (pe_callTy call_int1 (by rfl) mint (by decide +kernel) (pa_cons (pe_cmpR op_gt (pv 12) (pe_int) (nomark _)) pa_nil)) (fun _ _ => rfl))) (pg_sub (pv 10) (pv 13) set_list))))))
      (pss_one (ps_ret (pe_cmpR op_eq (pe_callTy (call_strD hgu hr.units) (by rfl) mt (by decide +kernel) (pa_cons (pe_lc (own := [("_law_k", 15)]) (g := gName 15) (tt := tYes) (te := tOp _ (tCall (spWave) [] _ (tCons (tVar 6) (tCons (tVar 7) (tCons (tVar 15) (tCons (tVar 8) (tNil)))))) (tOp _ (tVar 6) (tC (.int 1)))) rfl scLaw.nd (pi_range1 rfl mr (pa_cons (pe_op op_add (pv 7) (pe_int)) pa_nil)) (blkOk_by (own := [("_law_k", 15)]) (N := nLaw) (sc := defScope sLaw) (by decide +kernel)) (fun _ _ _ _ _ => pg_name (i := 15) scLaw.nd rfl (.inl rfl)) (fun _ _ _ _ _ => pts_nil) (fun _ _ _ _ _ => pe_op op_mul (pe_call gWave hr (by rfl) dWave.g dWave.F.kp dWave.b .nil pass0 (pa_cons (pv 6) (pa_cons (pv 7) (pa_cons (pv 15) (pa_cons (pv 8) pa_nil))))) (pe_op op_sub (pv 6) (pe_int)))) pa_nil)) (pe_callTy (call_strD hgu hr.units) (by rfl) mt (by decide +kernel) (pa_cons (pv 10) pa_nil)) (nomark _))))))))))))))), ?_⟩
    refine ⟨_, rfl, a, ns, 1, 20, rfl, ha, by decide, by decide, fun H1 d0 ds g1 n1 w1 e1 => ?_⟩
    refine ⟨_, rfl, d0, ds, rfl, e1, fun H2 a2 k2 => ?_⟩
    obtain ⟨m, em, hm⟩ : ∃ m : Nat, popV ds % 21 = (m : Int) ∧ m ≤ 20 := by
      have h0 := Int.emod_nonneg (popV ds) (show (21 : Int) ≠ 0 by decide)
      have h1 := Int.emod_lt_of_pos (popV ds) (show (0 : Int) < 21 by decide)
      exact ⟨(popV ds % 21).toNat, by omega, by omega⟩
    refine tCi (rdMod (by decide) em ?_)
    refine ⟨_, rfl, m, rfl, by omega, fun H3 r3 g3 n3 e3 => ?_⟩
    refine ⟨2, rfl, _, rfl, (m : Int), 3, rfl, rfl, -2, (m : Int) + 3, rfl, ⟨by decide, by decide, by omega, by omega⟩, fun D nD => ?_⟩
    rw [show ((m : Int) + 3 - -2).toNat = m + 5 by omega]
    refine lcH (handsL_range (-2) (m + 5)) (fun _ => true) (fun j => .int (wys (m : Int) (-2 + (j : Int)))) nD (by rw [List.length_range]; omega) (fun j Hj Y N hj g hy _ => ?_) (fun H4 g4 e4 => ?_)
    · exact ⟨rfl, yes (iteT ⟨_, rfl, _, rfl, (m : Int), _, rfl, by omega, hy rfl Hj (Gr.refl _)⟩)⟩
    rw [filter_yes] at e4
    have e4 : H4 D = some (.lst (([0, 0] ++ pas m ++ [0, 0]).map V.int)) := by
      rw [e4, ← wys_row, List.map_map]
      rfl
    have lrow : ([0, 0] ++ pas m ++ [0, 0] : List Int).length ≤ 30 := by
      rw [List.length_append, List.length_append, pas_len]
      show 2 + (m + 1) + 2 ≤ 30
      omega
    have srow := shw_ns (k := 15) (by decide) (by decide) (row_bound (m := m) (by omega))
    refine ⟨_, rfl, D, _, rfl, dpN e4, srow.ok, srow.nd, dn40 _, sz (Nat.le_trans srow.len (by omega)), ?_⟩
    refine ⟨(show 2 ≤ sizeLine by decide), fun l5 n5 => ?_⟩
    generalize hU5 : upd _ _ _ = H5
    refine ⟨_, rfl, l5, r3, _, _, rfl, rfl, at_same hU5, by walk_at "hp", ?_, fun p6 n6 => ?_⟩
    · rw [List.length_map, pas_len]
      exact sz (by show 2 + (m + 1) ≤ _; omega)
    generalize hU6 : upd _ _ _ = H6
    refine ⟨(show 2 ≤ sizeLine by decide), fun l7 n7 => ?_⟩
    generalize hU7 : upd _ _ _ = H7
    refine ⟨p6, l7, _, _, rfl, rfl, by walk_at "hp", at_same hU7, ?_, fun p8 n8 => ?_⟩
    · rw [List.length_append, List.length_map, pas_len]
      exact sz (by show 2 + (m + 1) + 2 ≤ _; omega)
    generalize hU8 : upd _ _ _ = H8
    have e8 : H8 p8 = some (.lst (([0, 0] ++ pas m ++ [0, 0]).map V.int)) := by
      rw [at_same hU8, List.map_append, List.map_append]
      rfl
    refine ⟨p8, _, rfl, dpN e8, srow.ok, srow.nd, dn40 _, sz (Nat.le_trans srow.len (by omega)), rfl, _, rfl, ?_⟩
    refine iteFB (by rw [decide_eq_true rfl]; rfl) ?_
    have q8 : H8 d0 = some (.lst (ds.dropLast.map V.int)) := by walk_at "hp"
    clear hU5 hU6 hU7 hU8 n5 n6 n7 n8 e8 e4 nD g4 e3 n3 g3 k2 e1 n1 g1
    refine ⟨_, rfl, d0, _, rfl, q8, fun H9 a9 k9 => ?_⟩
    have w2 := w1.rest
    obtain ⟨fr, ef, hf⟩ : ∃ f : Int, popV ds.dropLast % 5000 = f ∧ 0 ≤ f := ⟨_, rfl, Int.emod_nonneg _ (by decide)⟩
    refine tCi (rdMod (by decide) ef (rdAdd (z := 30 + fr) rfl ?_))
    refine ⟨_, rfl, _, rfl, rdSub (z := 0 - (30 + fr)) rfl ?_⟩
    refine ⟨(m : Int), _, rfl, by omega, ?_⟩
    rw [wys_out (by omega)]
    refine ⟨_, rfl, _, rfl, (m : Int), _, rfl, by omega, ?_⟩
    rw [wys_out (by omega)]
    refine ⟨_, rfl, rdSub (z := 0 - (30 + fr)) rfl ?_⟩
    refine ⟨0, _, rfl, by omega, ?_⟩
    rw [wys_out (by omega)]
    refine ⟨_, rfl, 0, _, rfl, by omega, ?_⟩
    rw [wys_out (by omega)]
    refine ⟨(show 4 ≤ sizeLine by decide), fun p10 n10 => ?_⟩
    generalize hU10 : upd _ _ _ = H10
    have e10 : H10 p10 = some (.lst (([0, 0, 0, 0] : List Int).map V.int)) := at_same hU10
    have s4 := shw_ns (k := 15) (ns := [0, 0, 0, 0]) (by decide) (by decide) (by decide)
    refine ⟨p10, _, rfl, dpN e10, s4.ok, s4.nd, dn40 _, sz (Nat.le_trans s4.len (by decide)), ?_⟩
    refine ⟨(show 1 ≤ sizeLine by decide), fun l11 n11 => ?_⟩
    generalize hU11 : upd _ _ _ = H11
    refine ⟨l11, 4, _, rfl, rfl, at_same hU11, by decide, by decide, (show 1 * 4 ≤ sizeLine by decide), fun p12 n12 => ?_⟩
    generalize hU12 : upd _ _ _ = H12
    have e12 : H12 p12 = some (.lst (([0, 0, 0, 0] : List Int).map V.int)) := at_same hU12
    refine ⟨p12, _, rfl, dpN e12, s4.ok, s4.nd, dn40 _, sz (Nat.le_trans s4.len (by decide)), rfl, _, rfl, ?_⟩
    refine iteFB (by rw [decide_eq_true rfl]; rfl) ?_
    have q12 : H12 d0 = some (.lst (ds.dropLast.dropLast.map V.int)) := by walk_at "hp"
    have w3 := w2.rest
    clear hU10 hU11 hU12 n10 n11 n12 e10 e12 a9 k9 q8 a2
    refine ⟨_, rfl, d0, _, 8, 5, rfl, by decide, by decide, q12, w3, fun H13 t q n hqn nt et ed oth13 => ?_⟩
    refine ⟨t, _, rfl, .inl (.inl et), rfl, _, _, rfl, _, _, rfl, rfl, ?_⟩
    have hq3 : q ≤ 3 := by rcases hqn with ⟨h1, h2, h3⟩ | ⟨h1, h2, h3⟩ <;> omega
    have hq1 : 1 ≤ q := by rcases hqn with ⟨h1, h2, h3⟩ | ⟨h1, h2, h3⟩ <;> omega
    have hn8 : n ≤ 8 := by rcases hqn with ⟨h1, h2, h3⟩ | ⟨h1, h2, h3⟩ <;> omega
    refine ⟨_, rfl, d0, _, rfl, ed, fun H14 a14 k14 => ?_⟩
    generalize popV _ = x
    obtain ⟨i, ei, hi⟩ : ∃ i : Nat, x % ((n : Int) + 1) = (i : Int) ∧ i ≤ n := by
      have h0 := Int.emod_nonneg x (show ((n : Int) + 1) ≠ 0 by omega)
      have h1 := Int.emod_lt_of_pos x (show (0 : Int) < (n : Int) + 1 by omega)
      exact ⟨(x % ((n : Int) + 1)).toNat, by omega, by omega⟩
    refine ⟨_, rfl, (n : Int), 1, rfl, rfl, rdMod (show (0 : Int) < (n : Int) + 1 by omega) ei ?_⟩
    refine ⟨_, rfl, ("1" : Str), i, rfl, rfl, by decide, by omega, _, rfl, _, rfl, rdSub (z := ((n - i : Nat) : Int)) (by omega) ⟨("0" : Str), n - i, rfl, rfl, by decide, by omega, _, _, rfl, rfl, ?_, ?_⟩⟩
    · rw [repS_len, repS_len]
      exact sz (by show i * 1 + (n - i) * 1 ≤ _; omega)
    have eo : repS ("1" : Str) i ++ repS ("0" : Str) (n - i) = wd (oth n i) := by
      rw [rep_one, rep_nought, wd_app]
      rfl
    rw [eo]
    refine ⟨_, rfl, (n : Int), 1, rfl, rfl, (n : Int) + 1, rfl, by omega, by omega, fun D2 nD2 => ?_⟩
    rw [show ((n : Int) + 1).toNat = n + 1 by omega]
    refine lcH (handsL_range 0 (n + 1)) (fun _ => true) (fun _ => .int 0) nD2 (by rw [List.length_range]; omega) (fun j Hj Y N hj g hy _ => ⟨rfl, yes (iteT (tCi (hy rfl Hj (Gr.refl _))))⟩) (fun H15 g15 e15 => ?_)
    rw [filter_yes] at e15
    have e15 : H15 D2 = some (.lst ((dueL q n i []).map V.int)) := by
      rw [e15, List.map_const', List.length_range]
      show _ = some (HO.lst ((List.replicate (n + 1) (0 : Int)).map V.int))
      rw [List.map_replicate]
    refine ⟨_, rfl, _, rfl, q, n, rfl, hq3, hn8, fun H16 p16 g16 n16 e16 => ?_⟩
    refine ⟨p16, rfl, ⟨_, sq e16⟩, ?_⟩
    have npD : p16 ≠ D2 := (ne_of_none e15 n16).symm
    have e16D : H16 D2 = some (.lst ((dueL q n i []).map V.int)) := g16 _ _ e15
    have dis := due_is hqn hi
    have hmem : ∀ w ∈ allD q n, Wd q n w := fun w h => allD_mem h
    generalize allD q n = L at dis hmem e16
    refine walk_f L.length (fun j σ H' => ∃ (y11 y12 y13 : Option V), σ = [some (.ref a), some (.ref d0), some (.int m), some (.ref r3), some (.ref D), some (.int (30 + fr)), some (.int q), some (.int n), some (.int i), some (.str (wd (oth n i))), some (.ref D2), y11, y12, y13, none, none, none] ∧ H' p16 = some (.lst (vws L)) ∧ H' D2 = some (.lst ((dueL q n i (L.take j)).map V.int)))
      ⟨none, none, none, rfl, e16, e16D⟩ (fun j σ H' hj hp => ?_) (fun σ H' hp => ?_)
    · obtain ⟨y11, y12, y13, rfl, i1, i2⟩ := hp
      refine ⟨itl_go (sq i1) (by rw [vws_len]; exact hj), fun x H'' y => ?_⟩
      obtain ⟨rfl, ex⟩ := itl_yld (sq i1) y
      have gj : L[j]? = some L[j] := List.getElem?_eq_getElem hj
      have wu := hmem _ (List.getElem_mem hj)
      have et1 : L.take (j + 1) = L.take j ++ [L[j]] := by rw [List.take_succ, gj]; rfl
      rw [et1, dueL_snoc]
      rw [vws_get, gj] at ex
      cases ex
      generalize L[j] = u at gj wu
      have ld := dueL_len q n i (L.take j)
      generalize dueL q n i (L.take j) = T at i2 ld
      have lu := wu.1
      have fu : ∀ k, k < n → ∃ d, u[k]? = some d ∧ u.getD k 0 = d ∧ d < 3 := fun k hk => by
        have hk' : k < u.length := by omega
        refine ⟨u[k], List.getElem?_eq_getElem hk', ?_, Nat.lt_of_lt_of_le (wu.2 _ (List.getElem_mem hk')) hq3⟩
        rw [List.getD_eq_getElem?_getD, List.getElem?_eq_getElem hk']
        rfl
      have fo : ∀ k, k < n → ∃ d, (oth n i)[k]? = some d ∧ (oth n i).getD k 0 = d ∧ d < 3 := fun k hk => by
        have hk' : k < (oth n i).length := by rw [oth_len hi]; exact hk
        refine ⟨(oth n i)[k], List.getElem?_eq_getElem hk', ?_, Nat.lt_trans (oth_lt (List.getElem_mem hk')) (by decide)⟩
        rw [List.getD_eq_getElem?_getD, List.getElem?_eq_getElem hk']
        rfl
      refine ⟨_, rfl, (n : Int), rfl, by omega, by omega, fun E1 nE1 => ?_⟩
      rw [Int.toNat_natCast]
      refine lcH (handsL_range 0 n) (fun _ => true) (fun k => .int ((u.getD k 0 * (oth n i).getD k 0 : Nat) : Int)) nE1 (by rw [List.length_range]; omega) (fun k Hk Y N hk g hy _ => ?_) (fun H17 g17 e17 => ?_)
      · have hk := List.mem_range.mp hk
        obtain ⟨d1, f1, v1, l1⟩ := fu k hk
        obtain ⟨d2, f2, v2, l2⟩ := fo k hk
        have hyy := hy rfl Hk (Gr.refl _)
        rw [v1, v2, Int.natCast_mul] at hyy
        rw [Int.zero_add]
        exact ⟨rfl, yes (iteT ⟨_, rfl, _, rfl, wd u, (k : Int), 48 + d1, rfl, rfl, by omega, by omega, by rw [wd_len]; omega, by rw [Int.toNat_natCast]; exact wd_ix f1, _, (d1 : Int), rfl, int_fig l1, (show 1 ≤ 640 by decide),
          _, rfl, _, rfl, wd (oth n i), (k : Int), 48 + d2, rfl, rfl, by omega, by omega, by rw [wd_len, oth_len hi]; omega, by rw [Int.toNat_natCast]; exact wd_ix f2, _, (d2 : Int), rfl, int_fig l2, (show 1 ≤ 640 by decide), (d1 : Int), (d2 : Int), rfl, rfl, .inl ⟨by omega, by omega⟩, hyy⟩)⟩
      rw [filter_yes] at e17
      have e17 : H17 E1 = some (.lst ((((List.range n).map fun k => u.getD k 0 * (oth n i).getD k 0).map fun d : Nat => (d : Int)).map V.int)) := by
        rw [e17, List.map_map, List.map_map]
        rfl
      refine ⟨E1, _, rfl, sq e17, ?_⟩
      rw [sum_cast]
      refine ⟨_, rfl, rdMod (z := ((rsn n i u % q : Nat) : Int)) (by omega) (Int.natCast_emod _ _).symm ?_⟩
      refine ⟨_, rfl, wd u, rfl, fun E2 nE2 => ?_⟩
      refine lcH (handsL_str u) (fun d => decide (d ≠ 0)) (fun d => .str (wd [d])) nE2 (by omega) (fun d Hk Y N hd g hy hn => ?_) (fun H18 g18 e18 => ?_)
      · refine ⟨rfl, _, rfl, rfl, _, rfl, ?_⟩
        by_cases c : d = 0
        · subst c
          refine iteFB (by decide +kernel) ?_
          exact hn (by decide) Hk (Gr.refl _)
        · refine iteTB ?_ ⟨_, rfl, hy (by simpa using c) Hk (Gr.refl _)⟩
          have : wd [d] ≠ ("0" : Str) := fun z => c (by
            have z0 : wd [d] = wd [0] := z.trans (by decide +kernel)
            have := wd_inj z0
            exact (List.cons.inj this).1)
          simp [this]
      refine ⟨E2, _, rfl, .inl (sq e18), ?_⟩
      have eh : ((((u.filter fun d => decide (d ≠ 0)).map fun d => V.str (wd [d])).length : Nat) : Int) = ((hvy u : Nat) : Int) := by
        rw [List.length_map]
        rfl
      rw [eh]
      have hh : hvy u < T.length := by
        have := hvy_le u
        omega
      have gT : (T.map V.int)[hvy u]? = some (.int (T.getD (hvy u) 0)) := by
        rw [List.getElem?_map, List.getElem?_eq_getElem hh, List.getD_eq_getElem?_getD, List.getElem?_eq_getElem hh]
        rfl
      have i2' : H18 D2 = some (.lst (T.map V.int)) := g18.lst (g17.lst i2)
      have i1' : H18 p16 = some (.lst (vws L)) := g18.lst (g17.lst i1)
      refine ⟨_, rfl, _, rfl, D2, _, _, _, rfl, rfl, sq i2', atI_nat gT, ?_⟩
      refine ⟨_, rfl, (q : Int), 1, rfl, rfl, 1, rfl, (show 2 ≤ sizeLine by decide), fun l19 n19 => ?_⟩
      generalize hU19 : upd _ _ _ = H19
      have g19 : Gr H18 H19 := by rw [← hU19]; exact (Gr.refl _).new n19
      have er : atI [V.int ((q : Int) - 1), V.int (-1)] (if decide ((0 : Int) < ((rsn n i u % q : Nat) : Int)) = true then 1 else 0) = some (.int (gain q (rsn n i u % q))) := by
        unfold gain
        by_cases c : 0 < rsn n i u % q
        · rw [if_pos c, if_pos (decide_eq_true (by omega))]
          rfl
        · rw [if_neg c, if_neg (by rw [decide_eq_false (by omega)]; decide)]
          rfl
      refine ⟨_, rfl, _, 0, rfl, rfl, .inr ⟨_, rfl, l19, _, _, _, rfl, rfl, sq (at_same hU19), er, ?_⟩⟩
      refine ⟨_, _, rfl, rfl, _, rfl, _, rfl, D2, _, _, hvy u, rfl, rfl, g19.lst i2', ?_, ?_⟩
      · unfold ixN
        rw [if_pos (by omega), if_pos (by rw [List.length_map]; omega)]
        rfl
      generalize hU20 : upd _ _ _ = H20
      refine ⟨_, _, _, rfl, at_ne hU20 npD (g19.lst i1'), ?_⟩
      rw [at_same hU20, ← List.map_set]
      rfl
    · obtain ⟨y11, y12, y13, rfl, i1, i2⟩ := hp
      refine ⟨itl_stop (sq i1) (vws_len _), ?_⟩
      rw [List.take_length, dis] at i2
      refine ⟨_, rfl, (n : Int), 1, rfl, rfl, (n : Int) + 1, rfl, by omega, by omega, fun E3 nE3 => ?_⟩
      rw [show ((n : Int) + 1).toNat = n + 1 by omega]
      refine lcH (handsL_range 0 (n + 1)) (fun _ => true) (fun k => .int (wav q n k i * ((q : Int) - 1))) nE3 (by rw [List.length_range]; omega) (fun k Hk Y N hk g hy _ => ?_) (fun H21 g21 e21 => ?_)
      · have hk := List.mem_range.mp hk
        rw [Int.zero_add]
        refine ⟨rfl, yes (iteT ⟨_, rfl, _, rfl, _, rfl, _, rfl, q, n, k, i, rfl, hq1, hq3, by omega, by omega, hi, fun Hg gg => ?_⟩)⟩
        exact ⟨_, rfl, (q : Int), 1, rfl, rfl, _, _, rfl, rfl, .inr ⟨by omega, by omega⟩, hy rfl Hg gg⟩
      rw [filter_yes] at e21
      have e21 : H21 E3 = some (.lst ((wavL q n i).map V.int)) := by
        rw [e21]
        unfold wavL
        rw [List.map_map]
        rfl
      have i2' : H21 D2 = some (.lst ((wavL q n i).map V.int)) := g21.lst i2
      have sw := shw_ns (k := 15) (by decide) (by decide) (wavL_bound hq3 hq1 hn8 hi)
      have lw : (wavL q n i).length = n + 1 := by unfold wavL; rw [List.length_map, List.length_range]
      refine ⟨E3, _, rfl, dpN e21, sw.ok, sw.nd, dn40 _, sz (Nat.le_trans sw.len (by omega)), ?_⟩
      refine ⟨_, rfl, D2, _, rfl, dpN i2', sw.ok, sw.nd, dn40 _, sz (Nat.le_trans sw.len (by omega)), rfl, ?_⟩
      show Q (V.bl (decide _)) _
      rw [decide_eq_true rfl]
      exact ret _
end
end Wa
namespace Wa
open PySem PySem.Spec PyProof.Rows L2
theorem all_mk {l : PySem.W.OpenLaw} {w : World} {K : PySem.W.Frag} {h : Heap} {mg : Str → Option Value} {fa f1 f2 f3 f4 f5 f6 f7 f8 f9 f10 f11 : Addr} (X : K.In h) (G : h.Ns mainGlobals mg) (hfa : mg "law" = some (.ref fa)) (T : TabsOf PySem.Challenge.pw_wordsapart_k20_ways_and_waves mg h)
    {od1 an1 od2 an2 od3 an3 od4 an4 od5 an5 od6 an6 od7 an7 od8 an8 od9 an9 od10 an10 od11 an11 : Option Addr} {sl1 sl2 sl3 sl4 sl5 sl6 sl7 sl8 sl9 sl10 sl11 : Array (Option Value)} {oc1 kV1 dc1 pm1 cd1 ct1 oc2 kV2 dc2 pm2 cd2 ct2 oc3 kV3 dc3 pm3 cd3 ct3 oc4 kV4 dc4 pm4 cd4 ct4 oc5 kV5 dc5 pm5 cd5 ct5 oc6 kV6 dc6 pm6 cd6 ct6 oc7 kV7 dc7 pm7 cd7 ct7 oc8 kV8 dc8 pm8 cd8 ct8 oc9 kV9 dc9 pm9 cd9 ct9 oc10 kV10 dc10 pm10 cd10 ct10 oc11 kV11 dc11 pm11 cd11 ct11 : Value}
    (a1 : PySem.W.nsIn K mainGlobals "ways" = some (some (.ref f1))) (l1 : K.lookup f1 = some ⟨oc1, od1, .func (PySem.W.fnOf "ways" "ways" (defArgs sWays) (defBody sWays) (defScope sWays) .none kV1 dc1 pm1 an1 cd1 ct1), sl1⟩) (q1 : PySem.W.codeIn K cd1 "ways" = true) (k1 : PySem.W.keepIn K (.ref f1) = true)
    (a2 : PySem.W.nsIn K mainGlobals "power" = some (some (.ref f2))) (l2 : K.lookup f2 = some ⟨oc2, od2, .func (PySem.W.fnOf "power" "power" (defArgs sPow) (defBody sPow) (defScope sPow) .none kV2 dc2 pm2 an2 cd2 ct2), sl2⟩) (q2 : PySem.W.codeIn K cd2 "power" = true) (k2 : PySem.W.keepIn K (.ref f2) = true)
    (a3 : PySem.W.nsIn K mainGlobals "wave_part" = some (some (.ref f3))) (l3 : K.lookup f3 = some ⟨oc3, od3, .func (PySem.W.fnOf "wave_part" "wave_part" (defArgs sWPart) (defBody sWPart) (defScope sWPart) .none kV3 dc3 pm3 an3 cd3 ct3), sl3⟩) (q3 : PySem.W.codeIn K cd3 "wave_part" = true) (k3 : PySem.W.keepIn K (.ref f3) = true)
    (a4 : PySem.W.nsIn K mainGlobals "wave" = some (some (.ref f4))) (l4 : K.lookup f4 = some ⟨oc4, od4, .func (PySem.W.fnOf "wave" "wave" (defArgs sWave) (defBody sWave) (defScope sWave) .none kV4 dc4 pm4 an4 cd4 ct4), sl4⟩) (q4 : PySem.W.codeIn K cd4 "wave" = true) (k4 : PySem.W.keepIn K (.ref f4) = true)
    (a5 : PySem.W.nsIn K mainGlobals "_law_mix" = some (some (.ref f5))) (l5 : K.lookup f5 = some ⟨oc5, od5, .func (PySem.W.fnOf "_law_mix" "_law_mix" (defArgs sMix) (defBody sMix) (defScope sMix) .none kV5 dc5 pm5 an5 cd5 ct5), sl5⟩) (q5 : PySem.W.codeIn K cd5 "_law_mix" = true) (k5 : PySem.W.keepIn K (.ref f5) = true)
    (a6 : PySem.W.nsIn K mainGlobals "_law_draws" = some (some (.ref f6))) (l6 : K.lookup f6 = some ⟨oc6, od6, .func (PySem.W.fnOf "_law_draws" "_law_draws" (defArgs sDraws2) (defBody sDraws2) (defScope sDraws2) .none kV6 dc6 pm6 an6 cd6 ct6), sl6⟩) (q6 : PySem.W.codeIn K cd6 "_law_draws" = true) (k6 : PySem.W.keepIn K (.ref f6) = true)
    (a7 : PySem.W.nsIn K mainGlobals "_law_pop" = some (some (.ref f7))) (l7 : K.lookup f7 = some ⟨oc7, od7, .func (PySem.W.fnOf "_law_pop" "_law_pop" (defArgs sPop) (defBody sPop) (defScope sPop) .none kV7 dc7 pm7 an7 cd7 ct7), sl7⟩) (q7 : PySem.W.codeIn K cd7 "_law_pop" = true) (k7 : PySem.W.keepIn K (.ref f7) = true)
    (a8 : PySem.W.nsIn K mainGlobals "_law_words" = some (some (.ref f8))) (l8 : K.lookup f8 = some ⟨oc8, od8, .func (PySem.W.fnOf "_law_words" "_law_words" (defArgs sLWords) (defBody sLWords) (defScope sLWords) .none kV8 dc8 pm8 an8 cd8 ct8), sl8⟩) (q8 : PySem.W.codeIn K cd8 "_law_words" = true) (k8 : PySem.W.keepIn K (.ref f8) = true)
    (a9 : PySem.W.nsIn K mainGlobals "_law_size" = some (some (.ref f9))) (l9 : K.lookup f9 = some ⟨oc9, od9, .func (PySem.W.fnOf "_law_size" "_law_size" (defArgs sSize2) (defBody sSize2) (defScope sSize2) .none kV9 dc9 pm9 an9 cd9 ct9), sl9⟩) (q9 : PySem.W.codeIn K cd9 "_law_size" = true) (k9 : PySem.W.keepIn K (.ref f9) = true)
    (a10 : PySem.W.nsIn K mainGlobals "_law_chosen" = some (some (.ref f10))) (l10 : K.lookup f10 = some ⟨oc10, od10, .func (PySem.W.fnOf "_law_chosen" "_law_chosen" (defArgs sChosen) (defBody sChosen) (defScope sChosen) .none kV10 dc10 pm10 an10 cd10 ct10), sl10⟩) (q10 : PySem.W.codeIn K cd10 "_law_chosen" = true) (k10 : PySem.W.keepIn K (.ref f10) = true)
    (a11 : PySem.W.nsIn K mainGlobals "law" = some (some (.ref f11))) (l11 : K.lookup f11 = some ⟨oc11, od11, .func (PySem.W.fnOf "law" "law" (defArgs sLaw) (defBody sLaw) (defScope sLaw) .none kV11 dc11 pm11 an11 cd11 ct11), sl11⟩) (q11 : PySem.W.codeIn K cd11 "law" = true) (k11 : PySem.W.keepIn K (.ref f11) = true)
    (z0 : PySem.W.nsIn K mainGlobals "min" = some none)
    (z1 : PySem.W.nsIn K mainGlobals "range" = some none)
    (z2 : PySem.W.nsIn K mainGlobals "sum" = some none)
    (z3 : PySem.W.nsIn K mainGlobals "len" = some none)
    (z4 : PySem.W.nsIn K mainGlobals "str" = some none)
    (z5 : PySem.W.nsIn K mainGlobals "int" = some none)
    : LawG l w K 12 63 "_law_script" mg fa h := by
  cases hfa.symm.trans (PySem.W.mg_of X G a11)
  have F1 := fun_mk (st := sWays) l1 q1 k1
  have D1 : Df K mg "ways" sWays ["many", "some"] f1 _ := ⟨F1, F1.binds (ps := ["many", "some"]) (fun _ _ _ _ _ _ us hl => match us, hl with | [_, _], _ => rfl), PySem.W.mg_of X G a1⟩
  have F2 := fun_mk (st := sPow) l2 q2 k2
  have D2 : Df K mg "power" sPow ["number", "times"] f2 _ := ⟨F2, F2.binds (ps := ["number", "times"]) (fun _ _ _ _ _ _ us hl => match us, hl with | [_, _], _ => rfl), PySem.W.mg_of X G a2⟩
  have F3 := fun_mk (st := sWPart) l3 q3 k3
  have D3 : Df K mg "wave_part" sWPart ["q", "n", "k", "i", "j"] f3 _ := ⟨F3, F3.binds (ps := ["q", "n", "k", "i", "j"]) (fun _ _ _ _ _ _ us hl => match us, hl with | [_, _, _, _, _], _ => rfl), PySem.W.mg_of X G a3⟩
  have F4 := fun_mk (st := sWave) l4 q4 k4
  have D4 : Df K mg "wave" sWave ["q", "n", "k", "i"] f4 _ := ⟨F4, F4.binds (ps := ["q", "n", "k", "i"]) (fun _ _ _ _ _ _ us hl => match us, hl with | [_, _, _, _], _ => rfl), PySem.W.mg_of X G a4⟩
  have F5 := fun_mk (st := sMix) l5 q5 k5
  have D5 : Df K mg "_law_mix" sMix ["_law_cell", "_law_turn"] f5 _ := ⟨F5, F5.binds (ps := ["_law_cell", "_law_turn"]) (fun _ _ _ _ _ _ us hl => match us, hl with | [_, _], _ => rfl), PySem.W.mg_of X G a5⟩
  have F6 := fun_mk (st := sDraws2) l6 q6 k6
  have D6 : Df K mg "_law_draws" sDraws2 ["_law_script", "_law_turn", "_law_many"] f6 _ := ⟨F6, F6.binds (ps := ["_law_script", "_law_turn", "_law_many"]) (fun _ _ _ _ _ _ us hl => match us, hl with | [_, _, _], _ => rfl), PySem.W.mg_of X G a6⟩
  have F7 := fun_mk (st := sPop) l7 q7 k7
  have D7 : Df K mg "_law_pop" sPop ["_law_draws_here"] f7 _ := ⟨F7, F7.binds (ps := ["_law_draws_here"]) (fun _ _ _ _ _ _ us hl => match us, hl with | [_], _ => rfl), PySem.W.mg_of X G a7⟩
  have F8 := fun_mk (st := sLWords) l8 q8 k8
  have D8 : Df K mg "_law_words" sLWords ["_law_q", "_law_n"] f8 _ := ⟨F8, F8.binds (ps := ["_law_q", "_law_n"]) (fun _ _ _ _ _ _ us hl => match us, hl with | [_, _], _ => rfl), PySem.W.mg_of X G a8⟩
  have F9 := fun_mk (st := sSize2) l9 q9 k9
  have D9 : Df K mg "_law_size" sSize2 ["_law_draws_here", "_law_two", "_law_three"] f9 _ := ⟨F9, F9.binds (ps := ["_law_draws_here", "_law_two", "_law_three"]) (fun _ _ _ _ _ _ us hl => match us, hl with | [_, _, _], _ => rfl), PySem.W.mg_of X G a9⟩
  have F10 := fun_mk (st := sChosen) l10 q10 k10
  have D10 : Df K mg "_law_chosen" sChosen ["_law_many"] f10 _ := ⟨F10, F10.binds (ps := ["_law_many"]) (fun _ _ _ _ _ _ us hl => match us, hl with | [_], _ => rfl), PySem.W.mg_of X G a10⟩
  have F11 := fun_mk (st := sLaw) l11 q11 k11
  have hT : ∀ p ∈ ([] : List (Addr × Addr)), h.get? p.2 = some { cls := .none, data := .fields #[] } ∧ K.lookup p.2 = none ∧ PySem.W.CodeHd h p.1 p.2 := by
    intro p hp
    simp only [List.mem_cons, List.not_mem_nil, or_false] at hp
  refine ⟨PySem.W.fnOf "law" "law" (defArgs sLaw) (defBody sLaw) (defScope sLaw) .none kV11 dc11 pm11 an11 cd11 ct11, [], spLaw K [], fun p hp => (hT p hp).1, fun p hp => (hT p hp).2.1, fun p hp => (hT p hp).2.2, fun s v => .of_eq rfl, fun H a ns _ hH hS => ⟨a, ns, rfl, hS, ?_, fun _ => rfl⟩, fun base _ _ TB => ?_⟩
  · intro p hp
    simp only [List.mem_cons, List.not_mem_nil, or_false] at hp
  · exact ok_law F11 D1 D2 D3 D4 D5 D6 D7 D8 D9 D10 (PySem.W.mg_none_of X G z0) (PySem.W.mg_none_of X G z1) (PySem.W.mg_none_of X G z2) (PySem.W.mg_none_of X G z3) (PySem.W.mg_none_of X G z4) (PySem.W.mg_none_of X G z5)
end Wa
open PySem PySem.W PyProof.Rows
set_option maxHeartbeats 0 in
theorem PySem.Challenge.cw_wordsapart_k20_ways_and_waves_holds : PySem.Challenge.rw_wordsapart_k20_ways_and_waves.Holds := by
  w_on; o_law; k_head; (case hw => w_witness2)
  k_fill
  refine Wa.walk_tabsG (l := PySem.Challenge.rw_wordsapart_k20_ways_and_waves) (n := 63) (k := 12) (x := "_law_script") rfl (by decide) rfl ⟨rfl, by decide, by decide⟩ (fun w h Y => PySem.W.kIn_of Y) ?F
  case F =>
    intro w mg fa h KX G hmg TT
    refine' Wa.all_mk KX G hmg TT ?a1 ?l1 ?q1 ?k1 ?a2 ?l2 ?q2 ?k2 ?a3 ?l3 ?q3 ?k3 ?a4 ?l4 ?q4 ?k4 ?a5 ?l5 ?q5 ?k5 ?a6 ?l6 ?q6 ?k6 ?a7 ?l7 ?q7 ?k7 ?a8 ?l8 ?q8 ?k8 ?a9 ?l9 ?q9 ?k9 ?a10 ?l10 ?q10 ?k10 ?a11 ?l11 ?q11 ?k11 ?z0 ?z1 ?z2 ?z3 ?z4 ?z5
    (case a1 => k_is)
    (case l1 => k_is)
    (case q1 => k_is)
    (case k1 => k_is)
    (case a2 => k_is)
    (case l2 => k_is)
    (case q2 => k_is)
    (case k2 => k_is)
    (case a3 => k_is)
    (case l3 => k_is)
    (case q3 => k_is)
    (case k3 => k_is)
    (case a4 => k_is)
    (case l4 => k_is)
    (case q4 => k_is)
    (case k4 => k_is)
    (case a5 => k_is)
    (case l5 => k_is)
    (case q5 => k_is)
    (case k5 => k_is)
    (case a6 => k_is)
    (case l6 => k_is)
    (case q6 => k_is)
    (case k6 => k_is)
    (case a7 => k_is)
    (case l7 => k_is)
    (case q7 => k_is)
    (case k7 => k_is)
    (case a8 => k_is)
    (case l8 => k_is)
    (case q8 => k_is)
    (case k8 => k_is)
    (case a9 => k_is)
    (case l9 => k_is)
    (case q9 => k_is)
    (case k9 => k_is)
    (case a10 => k_is)
    (case l10 => k_is)
    (case q10 => k_is)
    (case k10 => k_is)
    (case a11 => k_is)
    (case l11 => k_is)
    (case q11 => k_is)
    (case k11 => k_is)
    (case z0 => k_is)
    (case z1 => k_is)
    (case z2 => k_is)
    (case z3 => k_is)
    (case z4 => k_is)
    (case z5 => k_is)
