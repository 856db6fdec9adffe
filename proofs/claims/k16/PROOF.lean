import PyProof.Rows.All
import Wide.All
import OpenK.AllK
import Wide.FinOn
import HandS.Base
import HandS.Call
import HandS.List
import HandS.Comp
import HandS.Ends
import HandS.Dict
import HandS.Iter
import HandS.Text
import HandS.Words
import HandS.WordsList
import HandS.WordsDict
import HandS.Wide
import HandS.IsInst
import HandS.AnyAll
import HandS.GenOver
import HandS.EndTab
import HandS.JoinGen
import KE.GoesNew
import KE.GoesEnum
import KE.GoesMore
import HandS.SortInts
import HandS.Conv
import HandS.Small
import HandS.Style
import HandS.FStr
import PyProof.FString3
import KE.DatumOrd
import KE.GoesEnumKw
import PyProof.StrLawsRepr
import PySem.Challenge.RW_wordsapart_k16_whole_none_can_be_put_in
set_option Elab.async false
set_option linter.all false
set_option maxRecDepth 100000
set_option maxHeartbeats 4000000
/-! words by their figures; walks by a count; heaps -/
namespace Wa
open PySem PySem.Spec PyProof.Rows L2
/-- the text of a word, by its figures -/
def wd (ds : List Nat) : Str := ⟨(ds.map (48 + ·)).toArray⟩
/-- the values of a list of words -/
def vws (ws : List (List Nat)) : List V := ws.map fun w => V.str (wd w)
theorem str_ext {x y : Str} (h : x.cps.toList = y.cps.toList) : x = y := by
  cases x with
  | mk a =>
    cases y with
    | mk b =>
      cases a with
      | mk l =>
        cases b with
        | mk m =>
          have e : l = m := h
          rw [e]
theorem str_app (x y : Str) : (x ++ y).cps.toList = x.cps.toList ++ y.cps.toList := by
  show (x.cps ++ y.cps).toList = _
  exact Array.toList_append ..
theorem wd_list (ds : List Nat) : (wd ds).cps.toList = ds.map (48 + ·) := rfl
theorem wd_app (a b : List Nat) : wd a ++ wd b = wd (a ++ b) := by
  apply str_ext
  rw [str_app, wd_list, wd_list, wd_list, List.map_append]
theorem wd_len (a : List Nat) : (wd a).length = a.length := by
  show (a.map (48 + ·)).toArray.size = _
  rw [List.size_toArray, List.length_map]
theorem map48_inj : ∀ {a b : List Nat}, a.map (48 + ·) = b.map (48 + ·) → a = b
  | [], [], _ => rfl
  | [], _ :: _, h => by cases h
  | _ :: _, [], h => by cases h
  | x :: a, y :: b, h => by
    have h1 : 48 + x = 48 + y := (List.cons.inj h).1
    have h2 := map48_inj (List.cons.inj h).2
    have e : x = y := by omega
    rw [e, h2]
theorem wd_inj {a b : List Nat} (h : wd a = wd b) : a = b := map48_inj (by rw [← wd_list, ← wd_list, h])
theorem wd_one (c : Nat) : wd [c] = ⟨#[48 + c]⟩ := rfl
theorem wd_at {ds : List Nat} {i c : Nat} (h : (wd ds).cps[i]? = some c) : ∃ d, ds[i]? = some d ∧ c = 48 + d := by
  have h2 : ((ds.map (48 + ·)).toArray)[i]? = some c := h
  rw [List.getElem?_toArray, List.getElem?_map] at h2
  cases e : ds[i]? with
  | none => rw [e] at h2; cases h2
  | some d =>
    rw [e] at h2
    exact ⟨d, rfl, (Option.some.inj h2).symm⟩
theorem small_log {s : Nat} (h : s < 3) : ((s : Nat) : Int).natAbs.log2 < 1920 := by
  match s, h with
  | 0, _ => decide +kernel
  | 1, _ => decide +kernel
  | 2, _ => decide +kernel
theorem str_fig {s : Nat} (h : s < 3) : Str.ofString (toString (s : Int)) = wd [s] := by
  match s, h with
  | 0, _ => decide +kernel
  | 1, _ => decide +kernel
  | 2, _ => decide +kernel
theorem wd_ix {ds : List Nat} {i d : Nat} (h : ds[i]? = some d) : (wd ds).cps[i]? = some (48 + d) := by
  show ((ds.map (48 + ·)).toArray)[i]? = _
  rw [List.getElem?_toArray, List.getElem?_map, h]
  rfl
theorem vws_len (ws : List (List Nat)) : (vws ws).length = ws.length := List.length_map ..
theorem vws_get (ws : List (List Nat)) (i : Nat) : (vws ws)[i]? = (ws[i]?).map fun w => V.str (wd w) := List.getElem?_map ..
theorem vws_app (a b : List (List Nat)) : vws (a ++ b) = vws a ++ vws b := List.map_append ..
theorem vws_snoc (a : List (List Nat)) (b : List Nat) : vws (a ++ [b]) = vws a ++ [V.str (wd b)] := vws_app a [b]
theorem sz {n : Nat} (h : n ≤ 16000000) : n ≤ sizeLine := Nat.le_trans h (by decide)
theorem sz' {n : Nat} (h : n < 16000000) : n < sizeLine := Nat.lt_of_lt_of_le h (by decide)

/-- a new object leaves what stood -/
theorem same_upd {H : Hp} {p : Addr} {o : HO} (h : H p = none) : Same H (upd H p o) := fun b x e => by
  rw [upd_ne (ne_of_none e h)]
  exact e
/-- a change at an address that was free at the start -/
theorem same_over {H H1 : Hp} {p : Addr} {o : HO} (s : Same H H1) (h : H p = none) : Same H (upd H1 p o) := fun b x e => by
  rw [upd_ne (ne_of_none e h)]
  exact s b x e
/-- all but a has stayed -/
def Others (a : Addr) (H H' : Hp) : Prop := ∀ b o, b ≠ a → H b = some o → H' b = some o
theorem Others.refl (a : Addr) (H : Hp) : Others a H H := fun _ _ _ h => h
theorem Others.trans {a : Addr} {H H1 H2 : Hp} (x : Others a H H1) (y : Others a H1 H2) : Others a H H2 := fun b o n h => y b o n (x b o n h)
theorem Same.others {a : Addr} {H H' : Hp} (s : Same H H') : Others a H H' := fun b o _ h => s b o h
theorem others_upd {a : Addr} {H : Hp} {o : HO} : Others a H (upd H a o) := fun b x n e => by
  rw [upd_ne n]
  exact e

/-- a walk of n turns: comprehensions -/
theorem walk_n {stop go : Nat → Hp → Prop} {T : Nat → Hp → (Hp → Prop) → Prop} {H0 : Hp} {Qd : Hp → Prop} (n : Nat) (Pv : Nat → Hp → Prop) (h0 : Pv 0 H0)
    (hs : ∀ i H, i < n → Pv i H → go i H ∧ T i H (Pv (i + 1))) (hd : ∀ H, Pv n H → stop n H ∧ Qd H) :
    ∃ W : Nat → Nat → Hp → Prop, (∃ m, W 0 m H0) ∧ ∀ i m H, W i m H → (stop i H ∧ Qd H) ∨ (go i H ∧ ∃ Nx : Hp → Prop, (∀ H', Nx H' → ∃ m', m' < m ∧ W (i + 1) m' H') ∧ T i H Nx) := by
  refine ⟨fun i m H => m = n - i ∧ i ≤ n ∧ Pv i H, ⟨n, by simp, Nat.zero_le _, h0⟩, ?_⟩
  rintro i m H ⟨rfl, hi, p⟩
  by_cases hlt : i < n
  · obtain ⟨g, t⟩ := hs i H hlt p
    exact .inr ⟨g, Pv (i + 1), fun H' p' => ⟨n - (i + 1), by omega, rfl, hlt, p'⟩, t⟩
  · have e : i = n := by omega
    subst e
    exact .inl (hd H p)
/-- a walk of n turns: for loops -/
theorem walk_f {stop go : Nat → Hp → Prop} {T : Nat → L2.St → Hp → (L2.St → Hp → Prop) → Prop} {s0 : L2.St} {H0 : Hp} {Qd : L2.St → Hp → Prop} (n : Nat) (Pv : Nat → L2.St → Hp → Prop) (h0 : Pv 0 s0 H0)
    (hs : ∀ i σ H, i < n → Pv i σ H → go i H ∧ T i σ H (Pv (i + 1))) (hd : ∀ σ H, Pv n σ H → stop n H ∧ Qd σ H) :
    ∃ W : Nat → Nat → L2.St → Hp → Prop, (∃ m, W 0 m s0 H0) ∧ ∀ i m σ H, W i m σ H → (stop i H ∧ Qd σ H) ∨ (go i H ∧ ∃ N : L2.St → Hp → Prop, (∀ σ' H', N σ' H' → ∃ m', m' < m ∧ W (i + 1) m' σ' H') ∧ T i σ H N) := by
  refine ⟨fun i m σ H => m = n - i ∧ i ≤ n ∧ Pv i σ H, ⟨n, by simp, Nat.zero_le _, h0⟩, ?_⟩
  rintro i m σ H ⟨rfl, hi, p⟩
  by_cases hlt : i < n
  · obtain ⟨g, t⟩ := hs i σ H hlt p
    exact .inr ⟨g, Pv (i + 1), fun σ' H' p' => ⟨n - (i + 1), by omega, rfl, hlt, p'⟩, t⟩
  · have e : i = n := by omega
    subst e
    exact .inl (hd σ H p)
theorem yes {σ : L2.St} {H : Hp} {Q : Bool → Hp → Prop} (h : Q true H) : tYes σ H Q := h
/-- what a list's iterator hands out -/
theorem itl_go {K : PySem.W.Frag} {a : Addr} {xs : List V} {i : Nat} {H : Hp} (h : SqL K H a xs) (hi : i < xs.length) : (Itl K a).go i H := ⟨xs, xs[i], h, List.getElem?_eq_getElem hi⟩
theorem itl_stop {K : PySem.W.Frag} {a : Addr} {xs : List V} {H : Hp} (h : SqL K H a xs) {n : Nat} (e : xs.length = n) : (Itl K a).stop n H := ⟨xs, h, by omega⟩
theorem itl_yld {K : PySem.W.Frag} {a : Addr} {xs : List V} {i : Nat} {H H' : Hp} {x : V} (h : SqL K H a xs) (y : (Itl K a).yld i H x H') : H' = H ∧ xs[i]? = some x := ⟨y.1, y.2 xs h⟩
theorem sq {K : PySem.W.Frag} {H : Hp} {a : Addr} {xs : List V} (h : H a = some (.lst xs)) : SqL K H a xs := .inl (.inl h)

/-- all words of length n with q signs, rising -/
def allD (q : Nat) : Nat → List (List Nat)
  | 0 => [[]]
  | n + 1 => (allD q n).flatMap fun w => (List.range q).map fun s => w ++ [s]
def spAW : Sp := fun vs H Q _ => ∃ (q n : Nat), vs = [.int q, .int n] ∧ q ≤ 3 ∧ n ≤ 8 ∧ ∀ H' p, Same H H' → H p = none → H' p = some (.lst (vws (allD q n))) → Q (.ref p) H'
theorem flat_len {α β : Type} {f : α → List β} {q : Nat} : ∀ {l : List α}, (∀ x ∈ l, (f x).length = q) → (l.flatMap f).length = l.length * q
  | [], _ => by simp
  | a :: l, h => by
    rw [List.flatMap_cons, List.length_append, flat_len (l := l) fun x hx => h x (List.mem_cons_of_mem _ hx), h a List.mem_cons_self, List.length_cons, Nat.succ_mul]
    omega
theorem allD_len (q : Nat) : ∀ n, (allD q n).length = q ^ n
  | 0 => rfl
  | n + 1 => by
    show ((allD q n).flatMap _).length = _
    rw [flat_len (q := q) (fun x _ => by rw [List.length_map, List.length_range]), allD_len q n, Nat.pow_succ]
theorem allD_mem {q : Nat} : ∀ {n : Nat} {w : List Nat}, w ∈ allD q n → w.length = n ∧ ∀ d ∈ w, d < q
  | 0, w, h => by
    have e : w = [] := List.mem_singleton.mp h
    subst e
    exact ⟨rfl, fun d hd => absurd hd (by simp)⟩
  | n + 1, w, h => by
    obtain ⟨u, hu, hw⟩ := List.mem_flatMap.mp h
    obtain ⟨s, hs, rfl⟩ := List.mem_map.mp hw
    obtain ⟨h1, h2⟩ := allD_mem hu
    refine ⟨by rw [List.length_append, h1]; rfl, fun d hd => ?_⟩
    rcases List.mem_append.mp hd with z | z
    · exact h2 d z
    · rw [List.mem_singleton.mp z]
      exact List.mem_range.mp hs
theorem pow_bound {q n : Nat} (hq : q ≤ 3) (hn : n ≤ 8) : q ^ n ≤ 6561 := Nat.le_trans (Nat.pow_le_pow_left hq n) (Nat.le_trans (Nat.pow_le_pow_right (by decide) hn) (by decide))
theorem flat_take {α β : Type} {f : α → List β} {i : Nat} {l : List α} {x : α} (h : l[i]? = some x) : (l.take (i + 1)).flatMap f = (l.take i).flatMap f ++ f x := by
  rw [List.take_add_one, h, List.flatMap_append]
  show _ ++ ([x].flatMap f) = _
  rw [List.flatMap_singleton]
theorem range_take {q i : Nat} (h : i < q) : (List.range q).take (i + 1) = (List.range q).take i ++ [i] := by
  rw [List.take_add_one, List.getElem?_range h]
  rfl
end Wa
/-! lists of words and of numbers as data: equality -/
namespace Wa
open PySem PySem.Spec PyProof.Rows L2
def dws (ws : List (List Nat)) : PyData := .list (ws.map fun w => .str (wd w))
def dns (ns : List Int) : PyData := .list (ns.map PyData.int)
theorem dp_ws {K : PySem.W.Frag} {H : Hp} : ∀ (ws : List (List Nat)), DpAll K H (vws ws) (ws.map fun w => .str (wd w))
  | [] => .nil
  | w :: r => .cons (.str (wd w)) (dp_ws r)
theorem dp_ns {K : PySem.W.Frag} {H : Hp} : ∀ (ns : List Int), DpAll K H (ns.map V.int) (ns.map PyData.int)
  | [] => .nil
  | w :: r => .cons (.int w) (dp_ns r)
theorem sh_list {ds : List PyData} (h : ∀ d ∈ ds, d.canLay0 = true ∧ d.depth = 0) : SeqAt.shaped (.list ds) = true := by
  have h1 : ∀ {ds : List PyData}, (∀ d ∈ ds, d.canLay0 = true ∧ d.depth = 0) → PyData.canLayAll0 ds = true ∧ PyData.depthAll ds = 0 := by
    intro ds
    induction ds with
    | nil => exact fun _ => ⟨rfl, rfl⟩
    | cons d r ih =>
      intro h
      obtain ⟨i1, i2⟩ := ih fun x hx => h x (List.mem_cons_of_mem _ hx)
      obtain ⟨j1, j2⟩ := h d List.mem_cons_self
      refine ⟨?_, ?_⟩
      · show (d.canLay0 && PyData.canLayAll0 r) = true
        rw [i1, j1]
        rfl
      · show max d.depth (PyData.depthAll r) = 0
        rw [i2, j2]
        rfl
  obtain ⟨a, b⟩ := h1 h
  unfold SeqAt.shaped
  rw [Bool.and_eq_true]
  refine ⟨a, decide_eq_true ?_⟩
  show PyData.depthAll ds + 1 ≤ 64
  rw [b]
  decide
/-- words of figures -/
def Figs (ws : List (List Nat)) : Prop := ∀ w ∈ ws, ∀ d ∈ w, d < 10
theorem allD_figs {q n : Nat} (h : q ≤ 3) : Figs (allD q n) := fun w hw d hd => by
  have := (allD_mem hw).2 d hd
  omega
theorem wd_ok {w : List Nat} (h : ∀ d ∈ w, d < 10) : PyData.strOk (wd w) = true := by
  show (w.map (48 + ·)).toArray.all (· < 0x110000) = true
  rw [List.all_toArray, List.all_eq_true]
  intro x hx
  obtain ⟨d, hd, rfl⟩ := List.mem_map.mp hx
  have := h d hd
  exact decide_eq_true (by omega)
theorem sh_ws {ws : List (List Nat)} (h : Figs ws) : SeqAt.shaped (dws ws) = true := sh_list fun d hd => by
  obtain ⟨w, hw, rfl⟩ := List.mem_map.mp hd
  exact ⟨wd_ok (h w hw), rfl⟩
theorem sh_ns (ns : List Int) : SeqAt.shaped (dns ns) = true := sh_list fun d hd => by
  obtain ⟨w, _, rfl⟩ := List.mem_map.mp hd
  exact ⟨rfl, rfl⟩
theorem eqv_ws : ∀ (a b : List (List Nat)), PyData.eqv (dws a) (dws b) = decide (a = b)
  | [], [] => rfl
  | [], _ :: _ => rfl
  | _ :: _, [] => rfl
  | x :: a, y :: b => by
    have ih := eqv_ws a b
    show (wd x == wd y && PyData.eqv (dws a) (dws b)) = _
    rw [ih]
    by_cases e : x = y
    · subst e
      rw [beq_self_eq_true, Bool.true_and]
      by_cases e2 : a = b
      · rw [e2, decide_eq_true rfl, decide_eq_true rfl]
      · rw [decide_eq_false e2, decide_eq_false fun z => e2 (List.cons.inj z).2]
    · rw [beq_eq_false_iff_ne.mpr fun z => e (wd_inj z), Bool.false_and, decide_eq_false fun z => e (List.cons.inj z).1]
theorem eqv_ns : ∀ (a b : List Int), PyData.eqv (dns a) (dns b) = decide (a = b)
  | [], [] => rfl
  | [], _ :: _ => rfl
  | _ :: _, [] => rfl
  | x :: a, y :: b => by
    have ih := eqv_ns a b
    show (x == y && PyData.eqv (dns a) (dns b)) = _
    rw [ih]
    by_cases e : x = y
    · subst e
      rw [beq_self_eq_true, Bool.true_and]
      by_cases e2 : a = b
      · rw [e2, decide_eq_true rfl, decide_eq_true rfl]
      · rw [decide_eq_false e2, decide_eq_false fun z => e2 (List.cons.inj z).2]
    · rw [beq_eq_false_iff_ne.mpr e, Bool.false_and, decide_eq_false fun z => e (List.cons.inj z).1]
end Wa
/-! generator expressions over the layer: the element is any expression with a rule -/
namespace Gx
open PySem PySem.Spec PyProof.Rows L2
/-- the context in which a generator expression's own code runs -/
abbrev gcx (X : Cx) (s : Shared) (H : Hp) (cenv : Env) (fp : List Addr) (A : Around) : Cx :=
  { X with A := A, s_0 := s, H_0 := H, env := cenv, outer := X.stack, stack := cenv :: X.stack, ex := fp, fn := fun _ => false, pn := [], xe := fun _ _ => False }
theorem clo_old {X : Cx} {pins : List (Addr × Obj)} {σ : L2.St} {H : Hp} {s : Shared} {scope : Scope} {own : List (Str × Nat)} (I : Inv X pins σ H s) (ok : BlkOk X.N X.env.scope scope own) {y : Str} {c : Addr}
    (e : (cloFrom X.env.cells scope.names []).lookup y = some c) : X.env.cells.lookup y = some c ∧ scope.names.lookup y = some .free ∧ c < s.heap.objs.size := by
  rcases cloFrom_mem (PySem.mem_of_lookup e) with z | ⟨m1, m2⟩
  · cases z
  · have hc : ∃ c, X.env.cells.lookup y = some c := (ok.free _ m1 rfl).elim (fun k => I.ok.has _ (.inl k)) fun k => I.ok.has _ (.inr k)
    obtain ⟨c', hc'⟩ := hc
    rw [hc'] at m2
    have m3 : c = c' := m2
    subst m3
    obtain ⟨v, z⟩ := I.cell _ _ hc'
    exact ⟨hc', ok.uniq _ m1, z.lt⟩
theorem clo_has {X : Cx} {pins : List (Addr × Obj)} {σ : L2.St} {H : Hp} {s : Shared} {scope : Scope} {own : List (Str × Nat)} (I : Inv X pins σ H s) (ok : BlkOk X.N X.env.scope scope own) {y : Str}
    (hl : scope.names.lookup y = some .free) : ∃ c, (cloFrom X.env.cells scope.names []).lookup y = some c := mem_lookup (cloFrom_has (cells := X.env.cells) (acc := []) (PySem.mem_of_lookup hl))
/-- the generator's own frame, laid -/
theorem gen_start {X : Cx} {pins : List (Addr × Obj)} {σ : L2.St} {H : Hp} {s s5 : Shared} {scope : Scope} {own : List (Str × Nat)} {fp : List Addr} {code : Value} {A : Around} {m0 : Str → Option Value}
    (I : Inv X pins σ H s) (ok : BlkOk X.N X.env.scope scope own) (nocell : ∀ y ∈ scope.names, y.2 ≠ .cell) (hN : X.N.Nodup) (hfp : ∀ b ∈ fp, FpOk X pins H b ∧ b < s.heap.objs.size)
    (hh : A.handled = none) (hf : A.frames = some (genEnv scope (cloFrom X.env.cells scope.names []) s.heap.objs.size code builtinsNs X.env :: X.stack))
    (kp : ∀ b o, s.heap.get? b = some o → s5.heap.get? b = some o) (hns : s5.heap.Ns s.heap.objs.size m0) (hos : s5.os = s.os) (hb : AllBare s5.gens) :
    Inv (gcx X s H (genEnv scope (cloFrom X.env.cells scope.names []) s.heap.objs.size code builtinsNs X.env) fp A) [] (wipe σ (own.map (·.2))) H s5 := by
  have old := fun {y : Str} {c : Addr} (e : (cloFrom X.env.cells scope.names []).lookup y = some c) => clo_old I ok e
  have kinds : ∀ {y : Str} {k : NameKind}, scope.names.lookup y = some k → k = .cell ∨ k = .free → scope.names.lookup y = some .free := fun {y k} h1 h2 => by
    rcases h2 with z | z
    · exact absurd z (nocell _ (PySem.mem_of_lookup h1))
    · rw [h1, z]
  have okG : (gcx X s H (genEnv scope (cloFrom X.env.cells scope.names []) s.heap.objs.size code builtinsNs X.env) fp A).Ok := {
    mod := I.ok.mod
    kind := ok.kind
    glob := I.ok.glob
    blt := rfl
    above := Nat.le_refl _
    inj := fun x y c e1 e2 => I.ok.inj x y c (old e1).1 (old e2).1
    has := fun x hx => clo_has I ok (hx.elim (fun z => kinds z (.inl rfl)) fun z => kinds z (.inr rfl))
    cab := fun x c z _ => Bool.noConfusion z
    hd := fun _ => hh
    frames := hf
    stk := .inr ⟨rfl, rfl⟩
    exf := fun b hb => ⟨Nat.ne_of_lt (hfp b hb).2, fun x c e => (hfp b hb).1.2.2.2.2.1 x c (old e).1⟩
    bs := I.bs
    bsz := Nat.le_trans I.ok.bsz I.sz
    noex := fun b o e hb => by
      rcases (hfp b hb).1.2.2.2.1 with z | z
      · exact I.ok.noex b o e z
      · have h1 := Nat.lt_of_lt_of_le (Heap.lt_size e) I.ok.bsz
        exact absurd (Nat.lt_of_lt_of_le h1 z) (Nat.lt_irrefl _)
    exfs := fun b hb z => (List.mem_cons.mp (I.stkSub b z)).elim (hfp b hb).1.2.1 (hfp b hb).1.2.2.1
    funs := I.stack
    frf := I.stkFree }
  exact {
    ok := okG
    os := hos
    bare := hb
    base := Un.kept kp
    loc := ⟨m0, hns, fun i y av e1 e2 e3 => by
      obtain ⟨e2, hne⟩ := wipe_some e2
      have e1 : X.N[i]? = some y := e1
      have hy : scope.names.lookup y = some .free := by
        have key : ∀ k, scope.names.lookup y = some k → k = .local → False := fun k hk z => by
          rcases ok.own _ (PySem.mem_of_lookup hk) (.inl z) with q | q
          · obtain ⟨p, hp, hpy⟩ := List.mem_map.mp q
            have e4 := ok.ix p hp
            have hpy : p.1 = y := hpy
            rw [hpy] at e4
            exact hne (List.mem_map.mpr ⟨p, hp, nodup_ix hN e4 e1⟩)
          · exact q (List.mem_of_getElem? e1)
        have e3 : Vis scope y := e3
        rcases e3 with z | z | z
        · exact (key _ z rfl).elim
        · exact kinds z (.inl rfl)
        · exact z
      obtain ⟨c, hc⟩ := clo_has I ok hy
      obtain ⟨m, hn, hl⟩ := I.loc
      have hv : Vis X.env.scope y := (ok.free _ (PySem.mem_of_lookup hy) rfl).elim (fun k => .inr (.inl k)) fun k => .inr (.inr k)
      obtain ⟨u, r, q⟩ := hl i y av e1 e2 hv
      refine ⟨u, r, .inr ⟨.inr hy, c, hc, ?_⟩⟩
      rcases q with ⟨k, _⟩ | ⟨_, c', e', z⟩
      · have k : X.env.scope.names.lookup y = some .local := k
        rcases ok.free _ (PySem.mem_of_lookup hy) rfl with k' | k'
        · rw [k] at k'; cases k'
        · rw [k] at k'; cases k'
      · rw [(old hc).1] at e'
        cases e'
        exact z.keeps kp⟩
    cell := fun y c e => by
      obtain ⟨v, z⟩ := I.cell y c (old e).1
      exact ⟨v, z.keeps kp⟩
    free := I.hok.fresh (Nat.le_refl _)
    freeC := fun y c e => I.freeC y c (old e).1
    pin := fun p hp => absurd (show p ∈ ([] : List (Addr × Obj)) from hp) (by simp)
    hok := I.hok.kept kp
    len := by rw [wipe_length]; exact I.len }
/-- while a generator sleeps its consumer may change what stands at cs, and lay new objects -/
structure Slept (cs : List Addr) (s s' : Shared) : Prop where
  os : s'.os = s.os
  bare : AllBare s'.gens
  keep : ∀ b o, b ∉ cs → s.heap.get? b = some o → s'.heap.get? b = some o
def Stood (cs : List Addr) (s : Shared) : Prop := ∀ b ∈ cs, ∃ o, s.heap.get? b = some o ∧ ∀ v, o.data ≠ .cell v
/-- the consumer's places: younger than the generator's frame -/
structure CsOk (G : Cx) (cs : List Addr) : Prop where
  young : ∀ b ∈ cs, G.s_0.heap.objs.size < b
  loc : G.env.locals = G.s_0.heap.objs.size
  cells : ∀ x c, G.env.cells.lookup x = some c → c < G.s_0.heap.objs.size
  pn : G.pn = []
theorem slept_inv {G : Cx} {σ : L2.St} {H : Hp} {s s' : Shared} {cs : List Addr} (I : Inv G [] σ H s) (c : CsOk G cs) (hH : ∀ b ∈ cs, H b = none) (z : Slept cs s s') : Inv G [] σ H s' := by
  obtain ⟨hh, g, d, t, o⟩ := s'
  obtain ⟨z1, z2, z3⟩ := z
  have ho : o = s.os := z1
  subst ho
  have nt : ∀ b u, H b = some u → b ∉ cs := fun b u e hb => by rw [hH b hb] at e; cases e
  refine I.step (g' := g) (t' := t) (d' := d) (h' := hh) (ch := cs) (fun b hb => ⟨.inr (Nat.le_of_lt (c.young b hb)), fun e => ?_, fun x k e q => ?_, fun p hp => ?_⟩) (fun b u _ _ hc e _ => z3 b u hc e) (fun b u _ _ hc e _ => ⟨u.slots, z3 b u hc e⟩) (fun _ _ _ _ n => n) (fun b u hc e => ⟨u, z3 b u hc e⟩)
    (fun _ _ e => e) (fun _ _ _ e => e) (fun b ps e => ⟨#[], by rw [e]; simp⟩) (fun m hm => ?_) (fun b u e => ?_) z2
  · have := c.young b hb
    rw [e, c.loc] at this
    exact Nat.lt_irrefl _ this
  · have h1 := c.young b hb
    have h2 := c.cells x k e
    rw [q] at h2
    exact absurd (Nat.lt_trans h1 h2) (Nat.lt_irrefl _)
  · rw [c.pn] at hp
    exact absurd hp (by simp)
  · obtain ⟨ob, es, ep, ho, r⟩ := hm
    refine ⟨ob, es, ep, z3 _ ob (fun hb => ?_) ho, r⟩
    have := c.young _ hb
    rw [c.loc] at this
    exact Nat.lt_irrefl _ this
  · refine (I.hok b u e).stay (fun k v hk q => z3 k v ?_ q) (fun _ q => q) fun _ _ q => q
    rcases hk with y | y
    · rw [y]; exact nt b u e
    · exact nt k _ y
theorem cs_fp {G : Cx} {σ : L2.St} {H : Hp} {s : Shared} {cs : List Addr} (I : Inv G [] σ H s) (c : CsOk G cs) (hH : ∀ b ∈ cs, H b = none) : ∀ b ∈ cs, FpOk G [] H b := fun b hb => by
  have yb := c.young b hb
  refine ⟨hH b hb, fun e => ?_, fun z => ?_, .inr (Nat.le_of_lt yb), fun x k e q => ?_, fun p hp => ?_⟩
  · rw [e, c.loc] at yb
    exact Nat.lt_irrefl _ yb
  · obtain ⟨_, o, ho, _⟩ := I.ok.funs.mem z
    exact absurd (Nat.lt_trans yb (Heap.lt_size ho)) (Nat.lt_irrefl _)
  · have h2 := c.cells x k e
    rw [q] at h2
    exact absurd (Nat.lt_trans yb h2) (Nat.lt_irrefl _)
  · rw [c.pn] at hp
    exact absurd hp (by simp)
end Gx
/-! the generator's loop -/
namespace Gx
open PySem PySem.Spec PyProof.Rows L2
theorem seg_yield_0 {M : Model} {A : Around} {R : GenEnd} {Y : Protocol} {s₀ s : Shared} {c : Code} {fs : List Frame} {v : Value} {g : Bool} {l : List Value} {k : Resume → Sem PySem.Fin} (hf : splitAtGen fs = none) (hg : g = false) (hd : fs.any Frame.guarded = false)
    (h : Y 0 s₀ v s fun _ _ => False) : Seg M A R Y 0 s₀ c (.yield v g l k) fs s := by
  rintro Γ p rfl _
  refine ⟨_, s, Runs.yield' fs hf, ?_, h⟩
  simp [End.quiet, hg, hd]
/-- what a turn of the generator's loop asks: W by the turn, a measure, what is out; on: what the consumer asks of an item (C: that it goes on); fin: of the end -/
def Turns (J : It) (g : TG) (tt : TT) (te : TE) (vs : List Nat) (σ : L2.St) (on : List V → V → Hp → Prop → Prop) (fin : List V → Hp → Prop) (W : Nat → Nat → List V → Hp → Prop) : Prop :=
  ∀ i m acc H, W i m acc H → (J.stop i H ∧ fin acc H) ∨ (J.go i H ∧ ∃ Nx : List V → Hp → Prop, (∀ acc' H', Nx acc' H' → ∃ m', m' < m ∧ W (i + 1) m' acc' H') ∧ ∀ x H', J.yld i H x H' → g x (wipe σ vs) H' fun σ2 H2 => wipe σ2 vs = wipe σ vs ∧ tt σ2 H2 fun b H3 =>
    if b = true then te σ2 H3 fun y H4 => on acc y H4 (Nx (acc ++ [y]) H4) else Nx acc H3)
def GY (G : Cx) (σw : L2.St) (cs : List Addr) (CR : List V → Shared → Prop) (on : List V → V → Hp → Prop → Prop) : Protocol := fun n s₀ v s kap =>
  ∃ (acc : List V) (y : V) (H : Hp) (C : Prop), RelV y v ∧ Inv G [] σw H s ∧ (∀ b ∈ cs, H b = none ∧ ∀ o, s₀.heap.get? b = some o → s.heap.get? b = some o) ∧ CR acc s ∧ on acc y H C ∧
    (C → ∀ s', Slept cs s s' → Stood cs s' → CR (acc ++ [y]) s' → kap (.send .none) s')
def GP (G : Cx) (σw : L2.St) (cs : List Addr) (CR : List V → Shared → Prop) (fin : List V → Hp → Prop) (_ : Nat) (s₀ s : Shared) : Prop :=
  ∃ (acc : List V) (H : Hp), Inv G [] σw H s ∧ (∀ b ∈ cs, H b = none ∧ ∀ o, s₀.heap.get? b = some o → s.heap.get? b = some o) ∧ CR acc s ∧ fin acc H
/-- the consumer's relation hangs on its own objects alone -/
def Stable (cs : List Addr) (CR : List V → Shared → Prop) : Prop := ∀ acc s s', (∀ b ∈ cs, ∀ o, s.heap.get? b = some o → s'.heap.get? b = some o) → CR acc s → CR acc s'
section
variable {X : Cx} {s3 : Shared} {H3 : Hp} {cenv : Env} {fp : List Addr} {B : Around} {it : Addr} {tn : Nat → Heap → Prop} {J : It} {elt tg iter : Expr} {ifs : List Expr} {scope : Scope} {pos : Pos} {g : TG} {tt : TT} {te : TE} {vs : List Nat} {σ : L2.St}
  {on : List V → V → Hp → Prop → Prop} {fin : List V → Hp → Prop} {W : Nat → Nat → List V → Hp → Prop} {cs : List Addr} {CR : List V → Shared → Prop}
theorem seg_gx (hc : X.calm = true) (T : Turn X.prog X.w X.K tg J fp it tn) (hco : cenv.scope.isCoroutine = false) (hfp : ∀ b ∈ fp, b < s3.heap.objs.size)
    (hg : PG (gcx X s3 H3 cenv fp (B.deeper cenv)) tg g) (ht : PTs (gcx X s3 H3 cenv fp (B.deeper cenv)) ifs tt) (he : PE (gcx X s3 H3 cenv fp (B.deeper cenv)) elt te)
    (K : CsOk (gcx X s3 H3 cenv fp (B.deeper cenv)) cs) (hCR : Stable cs CR) (turn : Turns J g tt te vs σ on fin W) :
    ∀ (m n i : Nat) (acc : List V) (H : Hp) (s₀ s : Shared), m ≤ n → Inv (gcx X s3 H3 cenv fp (B.deeper cenv)) ([] ++ pinsAt cs s₀.heap) (wipe σ vs) H s → Stood cs s₀ → tn i s.heap → (∀ b ∈ fp, H b = none) → CR acc s → W i m acc H →
      Seg (model X.prog X.w) B (fun n s₀ r s₁ => r = .ok .next ∧ GP (gcx X s3 H3 cenv fp (B.deeper cenv)) (wipe σ vs) cs CR fin n s₀ s₁) (GY (gcx X s3 H3 cenv fp (B.deeper cenv)) (wipe σ vs) cs CR on) n s₀
        (.compLoop (.GeneratorExp elt [⟨tg, iter, ifs, 0⟩] scope pos) 0 (.ref it) .none cenv) ((model X.prog X.w).den (.compLoop (.GeneratorExp elt [⟨tg, iter, ifs, 0⟩] scope pos) 0 (.ref it) .none cenv)) [] s := by
  intro m
  induction m using Nat.strongRecOn with
  | ind m ih =>
    intro n i acc H s₀ s hmn I hS st nfp hcr w
    have hov : B.over (.compLoop (.GeneratorExp elt [⟨tg, iter, ifs, 0⟩] scope pos) 0 (.ref it) .none cenv) [] = B.deeper cenv := rfl
    have csP : ∀ {p : Addr × Obj}, p ∈ [] ++ pinsAt cs s₀.heap → p.1 ∈ cs := fun {p} hp => (of_pinsAt (show p ∈ pinsAt cs s₀.heap from hp)).1
    have stat : ∀ {σ' : L2.St} {H' : Hp} {s' : Shared}, Inv (gcx X s3 H3 cenv fp (B.deeper cenv)) ([] ++ pinsAt cs s₀.heap) σ' H' s' → (∀ b ∈ fp, H' b = none) → ∀ b ∈ fp, FpOk (gcx X s3 H3 cenv fp (B.deeper cenv)) ([] ++ pinsAt cs s₀.heap) H' b := fun {σ' H' s'} I' hn b hb =>
      ⟨hn b hb, (I'.ok.exf b hb).1, I'.ok.exfs b hb, .inl hb, fun x c e => (I'.ok.exf b hb).2 x c e, fun p hp e => by
        have h1 := K.young _ (csP (show p ∈ [] ++ pinsAt cs s₀.heap from hp))
        rw [e] at h1
        exact absurd (Nat.lt_trans h1 (hfp b hb)) (Nat.lt_irrefl _)⟩
    -- what stands at cs is as it was
    have csK : ∀ {pl : List (Addr × Obj)} {σ' : L2.St} {H' : Hp} {s' : Shared}, Inv (gcx X s3 H3 cenv fp (B.deeper cenv)) ([] ++ pinsAt cs s₀.heap ++ pl) σ' H' s' → ∀ b ∈ cs, H' b = none ∧ ∀ o, s₀.heap.get? b = some o → s'.heap.get? b = some o := fun {pl σ' H' s'} I' b hb => by
      obtain ⟨o, e, _⟩ := hS b hb
      have hp : (b, o) ∈ ([] : List (Addr × Obj)) ++ ([] ++ pinsAt cs s₀.heap ++ pl) := List.mem_append_right _ (List.mem_append_left _ (List.mem_append_right _ (mem_pinsAt hb e)))
      obtain ⟨h1, h2, _⟩ := I'.pin (b, o) hp
      exact ⟨h2, fun o' e' => by rw [e] at e'; cases e'; exact h1⟩
    have crK : ∀ {pl : List (Addr × Obj)} {σ' : L2.St} {H' : Hp} {s' : Shared}, Inv (gcx X s3 H3 cenv fp (B.deeper cenv)) ([] ++ pinsAt cs s₀.heap ++ pl) σ' H' s' → CR acc s' := fun {pl σ' H' s'} I' =>
      hCR acc s s' (fun b hb o e => by
        obtain ⟨u, eu, _⟩ := hS b hb
        have h0 := ((csK (pl := []) (by rw [List.append_nil]; exact I) b hb).2 u eu)
        rw [e] at h0
        cases h0
        exact (csK I' b hb).2 _ eu) hcr
    show Seg _ B _ _ _ s₀ _ ((compTurn (.GeneratorExp elt [⟨tg, iter, ifs, 0⟩] scope pos) 0 (.ref it) .none cenv).onRaise (leaving cenv)) [] s
    have etree : compTurn (.GeneratorExp elt [⟨tg, iter, ifs, 0⟩] scope pos) 0 (.ref it) .none cenv = (do
        standAt iter.pos
        match ← pyNext (.ref it) with
        | none => pure (.done .next)
        | some v =>
          letOwnedTupleGo tg (.ref it) v
          assign tg cenv v
          let mut ok := true
          for c in ifs do
            if ok then ok ← isTrue c cenv (eval c cenv)
          if ok then
            (do let v ← eval elt cenv; standAt elt.pos; let _ ← yieldOut cenv v)
          again (.compLoop (.GeneratorExp elt [⟨tg, iter, ifs, 0⟩] scope pos) 0 (.ref it) .none cenv)) := by rfl
    rw [etree, Sem.onRaise_eq_wrap]
    refine seg_bind_wrap (wpAny_standAt ?_)
    rcases turn i m acc H w with ⟨stop, hfin⟩ | ⟨go, Nx, hNx, step⟩
    · refine seg_bind_wrap (wpAny_mono (T.done (gcx X s3 H3 cenv fp (B.deeper cenv)) rfl rfl rfl hc i _ s _ H (fun _ _ => False) I (stat I nfp) st stop) (fun r s6 hr => ?_) fun _ _ z => z.elim)
      obtain ⟨rfl, I6⟩ := hr
      have I6' : Inv (gcx X s3 H3 cenv fp (B.deeper cenv)) ([] ++ pinsAt cs s₀.heap ++ []) (wipe σ vs) H s6 := by rw [List.append_nil]; exact I6
      exact seg_end (.ok .next) ⟨rfl, acc, H, I6.unpinned, fun b hb => csK I6' b hb, crK I6', hfin⟩
    · refine seg_bind_wrap (wpAny_mono (T.item (gcx X s3 H3 cenv fp (B.deeper cenv)) rfl rfl rfl hc i _ s _ H (fun _ _ => False) I (stat I nfp) st go) (fun r s6 hr => ?_) fun _ _ z => z.elim)
      obtain ⟨u, rfl, h6⟩ := hr
      refine seg_bind_wrap (wpAny_mono h6 (fun _ s7 h7 => ?_) fun _ _ z => z.elim)
      obtain ⟨x, H7, I7, r7, y7, st7, n7⟩ := h7
      have I7' := I7.pinned (stat I7 n7) (T.obj _ _ st7)
      refine seg_bind_wrap (wpAny_mono (hg.run _ s7 _ H7 x u _ I7' r7 (step x H7 y7)) (fun _ s8 h8 => ?_) fun _ _ z => z.elim)
      obtain ⟨σ8, H8, I8, hw8, q8⟩ := h8
      refine seg_bind_wrap (wpAny_mono (ht.run _ s8 σ8 H8 _ I8 q8) (fun b s9 h9 => ?_) fun _ _ z => z.elim)
      obtain ⟨H9, I9, q9⟩ := h9
      have hl8 : (wipe σ vs).length = σ8.length := by rw [← hw8, wipe_length]
      have weak8 : ∀ {pl : List (Addr × Obj)} {H' : Hp} {s' : Shared}, Inv (gcx X s3 H3 cenv fp (B.deeper cenv)) pl σ8 H' s' → Inv (gcx X s3 H3 cenv fp (B.deeper cenv)) pl (wipe σ vs) H' s' := fun I' => I'.weak hl8 fun j v e => by
        rw [← hw8] at e
        exact (wipe_some e).1
      have fpK : ∀ {H' : Hp} {s' : Shared}, Inv (gcx X s3 H3 cenv fp (B.deeper cenv)) ([] ++ pinsAt cs s₀.heap ++ pinsAt fp s7.heap) σ8 H' s' → ∀ b ∈ fp, H' b = none ∧ ∀ o, s7.heap.get? b = some o → s'.heap.get? b = some o := fun {H' s'} I' b hb => by
        obtain ⟨o, e, _⟩ := T.obj _ _ st7 b hb
        obtain ⟨h1, h2, _⟩ := I'.pin (b, o) (List.mem_append_right _ (List.mem_append_right _ (mem_pinsAt hb e)))
        exact ⟨h2, fun o' e' => by rw [e] at e'; cases e'; exact h1⟩
      cases b with
      | false =>
        simp only [Bool.false_eq_true, if_false] at q9 ⊢
        obtain ⟨m', hm, w'⟩ := hNx _ _ q9
        exact seg_again rfl (ih m' hm n (i + 1) acc H9 s₀ s9 (by omega) (weak8 I9.unpinned) hS (T.keep _ _ _ st7 fun b hb o e => (fpK I9 b hb).2 o e) (fun b hb => (fpK I9 b hb).1) (crK I9) w')
      | true =>
        simp only [if_true] at q9 ⊢
        have hyo : ∀ v, yieldOut cenv v = yieldValue v := fun v => by simp only [yieldOut, hco, Bool.false_eq_true, if_false]
        simp only [hyo]
        rw [Sem.bind_eq_wrap', Sem.bind_eq_wrap', Sem.wrap_wrap, Sem.wrap_wrap]
        refine seg_wrap (wpAny_mono (he.run _ s9 σ8 H9 _ I9 q9) (fun z s10 h10 => ?_) fun _ _ z => z.elim)
        obtain ⟨yv, H10, I10, r10, q10⟩ := h10
        cases n with
        | zero =>
          refine seg_at (seg_yield_0 rfl rfl rfl ⟨acc, yv, H10, Nx (acc ++ [yv]) H10, r10, weak8 I10.unpinned.unpinned, fun b hb => csK I10 b hb, crK I10, q10, fun nx s' _ _ _ => ?_⟩)
          obtain ⟨m', hm, _⟩ := hNx _ _ nx
          exact absurd hm (by omega)
        | succ n =>
          refine seg_at (seg_yield rfl rfl rfl ⟨acc, yv, H10, Nx (acc ++ [yv]) H10, r10, weak8 I10.unpinned.unpinned, fun b hb => csK I10 b hb, crK I10, q10, fun nx s' hsl hst' hcr' => ?_⟩)
          obtain ⟨m', hm, w'⟩ := hNx _ _ nx
          have hH10 : ∀ b ∈ cs, H10 b = none := fun b hb => (csK I10 b hb).1
          have I11 := slept_inv (weak8 I10.unpinned.unpinned) K hH10 hsl
          have I12 := I11.pinned (cs_fp I11 K hH10) hst'
          have ncs : ∀ b ∈ fp, b ∉ cs := fun b hb z => absurd (Nat.lt_trans (hfp b hb) (K.young b z)) (Nat.lt_irrefl _)
          exact seg_again rfl (ih m' hm n (i + 1) (acc ++ [yv]) H10 s' s' (by omega) I12 hst' (T.keep _ _ _ st7 fun b hb o e => hsl.keep b o (ncs b hb) ((fpK I10 b hb).2 o e)) (fun b hb => (fpK I10 b hb).1) hcr' w')
end
end Gx
/-! the generator made, asleep, asked -/
namespace Gx
open PySem PySem.Spec PyProof.Rows L2
/-- the generator that was made: at a, with the number gn; s4: ahead of its frame -/
structure Made (X : Cx) (pins : List (Addr × Obj)) (σ : L2.St) (elt tg iter : Expr) (ifs : List Expr) (scope : Scope) (gpos : Pos) (J : It) (H2 : Hp) (a gn : Nat) (s4 s5 : Shared) (cenv : Env) (fp : List Addr) (it : Addr) (tn : Nat → Heap → Prop) : Prop where
  inv : Inv X pins σ H2 s4
  turn : Turn X.prog X.w X.K tg J fp it tn
  at0 : tn 0 s4.heap
  fpok : ∀ b ∈ fp, FpOk X pins H2 b ∧ b < s4.heap.objs.size
  env : ∃ code, cenv = genEnv scope (cloFrom X.env.cells scope.names []) s4.heap.objs.size code builtinsNs X.env
  kept : ∀ b o, s4.heap.get? b = some o → s5.heap.get? b = some o
  ns : ∃ m0, s5.heap.Ns s4.heap.objs.size m0
  os : s5.os = s4.os
  gens : s5.gens = s4.gens.push (.fresh (.compStart (.GeneratorExp elt [⟨tg, iter, ifs, 0⟩] scope gpos) 0 (.ref it) .none cenv))
  num : gn = s4.gens.size
  isgen : s5.heap.IsGen a gn
  young : s4.heap.objs.size < a
  size : s5.heap.objs.size = a + 1
theorem gx_eval {X : Cx} {pins : List (Addr × Obj)} {σ : L2.St} {H : Hp} {s : Shared} {c P : Addr} {elt tg iter : Expr} {ifs : List Expr} {gpos : Pos} {scope : Scope} {own : List (Str × Nat)} {wi : TI} {k : Nat} {Q' : Value → Shared → Prop} {R : It → Hp → Prop}
    (hr : Room k X.A) (TB : GxR.TabB X.base X.mg c P) (hcode : X.env.code = .ref c) (hco : scope.isCoroutine = false) (ok : BlkOk X.N X.env.scope scope own) (nocell : ∀ y ∈ scope.names, y.2 ≠ .cell) (dot : scope.names.lookup (".0" : Str) = some NameKind.local)
    (hi : PI X tg iter wi) (hs : ∀ v, genFold iter X.env v = pure v) (I : Inv X pins σ H s) (h : wi σ H fun J H1 => GxR.TabG H1 P ∧ ∀ H2, GxR.Tabbed P H1 H2 → R J H2)
    (hQ : ∀ J H2 a gn s4 s5 cenv fp it tn, Made X pins σ elt tg iter ifs scope gpos J H2 a gn s4 s5 cenv fp it tn → R J H2 → Q' (.ref a) s5) :
    wpAny (model X.prog X.w) X.A (eval (.GeneratorExp elt [⟨tg, iter, ifs, 0⟩] scope gpos) X.env) Q' X.xe s := by
  have hfree : ∀ y ∈ scope.names, y.2 = .free → ∃ c, X.env.cells.lookup y.1 = some c := fun y hy e => (ok.free y hy e).elim (fun z => I.ok.has _ (.inl z)) fun z => I.ok.has _ (.inr z)
  refine wpAny_GeneratorExp_make hco (closure_ok hfree) nocell dot ok.kind (by have := hr.dp; omega) ?_ hs
  refine thn (hi.run pins s σ H _ I h) fun xv s1 hx => thn hx fun itv s2 h2 => ?_
  obtain ⟨it, fp, tn, J, H1, rfl, I1, T, st, f1, ⟨ps, hP, ht⟩, hR⟩ := h2
  have hPs : s2.heap.get? P = some { cls := .none, data := .fields ps } := I1.hok P _ hP
  have cd : PySem.W.CodeHd s2.heap c P := TB.code.keeps I1.bk
  have fpP : ∀ b ∈ fp, b ≠ P := fun b hb e => by
    have := (f1 b hb).1
    rw [e, hP] at this
    cases this
  have cont : ∀ (code : Value) (h3 : Heap) (tk : Nat) (ps' : Array Value), Heap.ExtBut P s2.heap h3 → s2.heap.objs.size ≤ h3.objs.size → h3.get? P = some { cls := .none, data := .fields ps' } → (∃ more, ps' = ps ++ more) → TriplesOk ps'.toList →
      wpAny (model X.prog X.w) X.A (builtinsFor X.env.globals X.env.builtins) (fun bi s₄ => ∀ h', h'.Ns s₄.heap.objs.size (fun y => if y = ".0" then some (.ref it) else none) → Heap.SameBut s₄.heap.objs.size (s₄.heap.push { cls := .type "frame", data := .dict #[] }) h' →
          Q' (.ref h'.objs.size) { s₄ with
            gens := s₄.gens.push (.fresh (.compStart (.GeneratorExp elt [⟨tg, iter, ifs, 0⟩] scope gpos) 0 (.ref it) .none (genEnv scope (cloFrom X.env.cells scope.names []) s₄.heap.objs.size code bi X.env))),
            toks := s₄.toks + 1 + 1 + 1,
            heap := h'.push { cls := .type "generator", data := .fields #[.int s₄.gens.size 0, .str "<genexpr>" (s₄.toks + 1), .str (X.env.qual ++ "<genexpr>") (s₄.toks + 1 + 1)] } }) X.xe { s2 with heap := h3, toks := tk } := by
    intro code h3 tk ps' hx hsz hP3 hmore ht3
    obtain ⟨bm, ob, e1, e2, e3, e4, e5, e6, e7, e8⟩ := TB.bm
    have keep3 : ∀ b u, b ≠ P → s2.heap.get? b = some u → h3.get? b = some u := fun b u hb e => hx b u hb e
    refine wpAny_builtinsFor (m := X.mg) (by rw [I1.ok.glob]; exact (I1.mod.glob.keeps I1.bk).extBut hx TB.gP) e1 e2 (keep3 _ _ e4 (I1.bk _ _ e5)) e6 e7 e8 ?_
    intro h' hn' hs'
    obtain ⟨more, em⟩ := hmore
    have J4 := GxR.inv_tab (more := more) (h' := h3) (g' := s2.gens) (d' := s2.drawn) (t' := tk) I1 hP (fun b u hb e => keep3 b u hb e) (by rw [← em]; exact hP3) I1.bare
    have hT2 : GxR.Tabbed P H1 (upd H1 P (.tbl (ps ++ more))) := ⟨⟨ps ++ more, upd_same, by rw [← em]; exact ht3⟩, fun b hb => upd_ne hb⟩
    have hsz' : h'.objs.size = h3.objs.size + 1 := by rw [hs'.1, Heap.size_push]
    have kept1 : ∀ b o, h3.get? b = some o → h'.get? b = some o := fun b o e => hs'.extBut b o (Nat.ne_of_lt (Heap.lt_size e)) (Heap.get?_push_of_some _ e)
    refine hQ J _ h'.objs.size s2.gens.size { s2 with heap := h3, toks := tk } _ _ fp it tn {
      inv := J4
      turn := T
      at0 := T.keep _ _ _ st fun b hb o e => keep3 b o (fpP b hb) e
      fpok := fun b hb => ⟨⟨by rw [upd_ne (fpP b hb)]; exact (f1 b hb).1, (f1 b hb).2⟩, by
        obtain ⟨o, e, _⟩ := T.obj _ _ st b hb
        exact Nat.lt_of_lt_of_le (Heap.lt_size e) hsz⟩
      env := ⟨code, rfl⟩
      kept := fun b o e => Heap.get?_push_of_some _ (kept1 b o e)
      ns := ⟨_, hn'.push _⟩
      os := rfl
      gens := rfl
      num := rfl
      isgen := ⟨_, _, _, Heap.get?_push_size _ rfl, rfl, rfl, rfl⟩
      young := by show h3.objs.size < h'.objs.size; omega
      size := by show (h'.push _).objs.size = _; rw [Heap.size_push] } (hR _ hT2)
  refine ⟨I1.nolimit, ?_⟩
  cases hf : codeAmong gpos ps.toList with
  | none =>
    refine wpAny_genexprCodeX hcode (cd.code hPs ht) (cd.tab hPs) hf fun c' h' tk hx hge hlt hco' _ htab' _ => ?_
    obtain ⟨o1, vs, f1, tf, fl, tg, inF, tx, tt, op, _, _, _, _, _, _, _, _, _, htr, _⟩ := hco'
    exact cont _ h' tk _ hx (Nat.le_trans hge (Nat.le_of_lt hlt)) htab'.2 ⟨_, rfl⟩ htr
  | some cv =>
    refine wpAny_genexprCode_hit hcode (cd.code hPs ht) hf ?_
    exact cont cv s2.heap s2.toks ps (Heap.ExtBut.refl _ _) (Nat.le_refl _) hPs ⟨#[], by simp⟩ ht
/-- the generator number gn sleeps; n: how often it may still hand out -/
def Asleep (M : Model) (B : Around) (G : Cx) (σw : L2.St) (cs : List Addr) (CR : List V → Shared → Prop) (on : List V → V → Hp → Prop → Prop) (fin : List V → Hp → Prop) (gn n : Nat) (acc : List V) (s : Shared) : Prop :=
  ∃ gs, s.gens[gn]? = some gs ∧ ∀ s', Slept cs s s' → Stood cs s' → CR acc s' → gs.Goes M B (fun n s₀ r s₁ => r = .ok .next ∧ GP G σw cs CR fin n s₀ s₁) (GY G σw cs CR on) n (.send .none) s'
theorem setg_other (s : Shared) (g : Nat) (x : GenState) (h : AllBare s.gens) (hx : x.bare = true) : AllBare (s.setGen g x).gens := fun y hy => by
  have e : (s.setGen g x).gens = s.gens.setIfInBounds g x := rfl
  rw [e] at hy
  obtain ⟨i, hi, rfl⟩ := Array.mem_iff_getElem.mp hy
  have hi2 : i < s.gens.size := by
    rw [Array.size_setIfInBounds] at hi
    exact hi
  rw [Array.getElem_setIfInBounds hi2]
  split
  · exact hx
  · exact h _ (Array.getElem_mem hi2)
theorem slept_set {cs : List Addr} {s s' : Shared} {g : Nat} {x : GenState} (z : Slept cs (s.setGen g x) s') : Slept cs s s' := ⟨z.os, z.bare, z.keep⟩
section
variable {X : Cx} {pins : List (Addr × Obj)} {σ : L2.St} {elt tg iter : Expr} {ifs : List Expr} {scope : Scope} {gpos : Pos} {J : It} {H2 : Hp} {a gn : Nat} {s4 s5 : Shared} {cenv : Env} {fp : List Addr} {it : Addr} {tn : Nat → Heap → Prop} {own : List (Str × Nat)}
  {g : TG} {tt : TT} {te : TE} {on : List V → V → Hp → Prop → Prop} {fin : List V → Hp → Prop} {W : Nat → Nat → List V → Hp → Prop} {cs : List Addr} {CR : List V → Shared → Prop} {B : Around}
theorem made_cs (Z : Made X pins σ elt tg iter ifs scope gpos J H2 a gn s4 s5 cenv fp it tn) (ok : BlkOk X.N X.env.scope scope own) (hy : ∀ b ∈ cs, s4.heap.objs.size < b) : CsOk (gcx X s4 H2 cenv fp (B.deeper cenv)) cs := by
  obtain ⟨code, rfl⟩ := Z.env
  exact ⟨hy, rfl, fun x c e => (clo_old Z.inv ok e).2.2, rfl⟩
theorem made_asleep (Z : Made X pins σ elt tg iter ifs scope gpos J H2 a gn s4 s5 cenv fp it tn) (hc : X.calm = true) (hco : scope.isCoroutine = false) (ok : BlkOk X.N X.env.scope scope own) (nocell : ∀ y ∈ scope.names, y.2 ≠ .cell) (hN : X.N.Nodup)
    (hB : B.handled = none) (hBf : B.frames = X.A.frames)
    (hg : PG (gcx X s4 H2 cenv fp (B.deeper cenv)) tg g) (ht : PTs (gcx X s4 H2 cenv fp (B.deeper cenv)) ifs tt) (he : PE (gcx X s4 H2 cenv fp (B.deeper cenv)) elt te)
    (hy : ∀ b ∈ cs, s4.heap.objs.size < b) (hCR : Stable cs CR) (turn : Turns J g tt te (own.map (·.2)) σ on fin W) {m0 : Nat} (w0 : W 0 m0 [] H2) {s : Shared} (hs : Slept cs s5 s) (hsg : s.gens[gn]? = s5.gens[gn]?) :
    Asleep (model X.prog X.w) B (gcx X s4 H2 cenv fp (B.deeper cenv)) (wipe σ (own.map (·.2))) cs CR on fin gn m0 [] s := by
  refine ⟨.fresh (.compStart (.GeneratorExp elt [⟨tg, iter, ifs, 0⟩] scope gpos) 0 (.ref it) .none cenv), by rw [hsg, Z.gens, Z.num]; exact Array.getElem?_push_size .., fun s' hsl hst hcr => ⟨rfl, ?_⟩⟩
  have K := made_cs (B := B) Z ok hy
  obtain ⟨m1, hns⟩ := Z.ns
  have hco' : cenv.scope.isCoroutine = false := by
    obtain ⟨code, e⟩ := Z.env
    rw [e]
    exact hco
  have bare5 : AllBare s5.gens := by
    rw [Z.gens]
    exact Z.inv.bare.push rfl
  have I5 : Inv (gcx X s4 H2 cenv fp (B.deeper cenv)) [] (wipe σ (own.map (·.2))) H2 s5 := by
    obtain ⟨code, rfl⟩ := Z.env
    exact gen_start Z.inv ok nocell hN Z.fpok hB (by show Option.map _ B.frames = _; rw [hBf, Z.inv.ok.frames]; rfl) Z.kept hns Z.os bare5
  have hH : ∀ b ∈ cs, H2 b = none := fun b hb => Z.inv.hok.fresh (Nat.le_of_lt (hy b hb))
  have I6 := slept_inv (slept_inv I5 K hH hs) K hH hsl
  have ncs : ∀ b ∈ fp, b ∉ cs := fun b hb z => absurd (Nat.lt_trans (Z.fpok b hb).2 (hy b z)) (Nat.lt_irrefl _)
  have tn6 : tn 0 s'.heap := Z.turn.keep _ _ _ Z.at0 fun b hb o e => hsl.keep b o (ncs b hb) (hs.keep b o (ncs b hb) (Z.kept b o e))
  have loop := seg_gx (iter := iter) (scope := scope) (pos := gpos) hc Z.turn hco' (fun b hb => (Z.fpok b hb).2) hg ht he K hCR turn m0 m0 0 [] H2 s' s' (Nat.le_refl _) (I6.pinned (cs_fp I6 K hH) hst) hst tn6 (fun b hb => (Z.fpok b hb).1.1) hcr w0
  show Seg _ B _ _ _ s' _ ((compStart (.GeneratorExp elt [⟨tg, iter, ifs, 0⟩] scope gpos) 0 (.ref it) .none cenv).onRaise (leaving cenv)) [] s'
  unfold compStart
  rw [Sem.onRaise_eq_wrap]
  show Seg _ B _ _ _ s' _ ((ask >>= _).wrap _ _ _ _) [] s'
  refine seg_bind_wrap (wpAny_askSetting ?_)
  split
  · exact seg_again rfl loop
  · refine seg_bind_wrap (wpAny_rule ?_)
    show Seg _ B _ _ _ s' _ ((standAt iter.pos >>= _).wrap _ _ _ _) [] s'
    refine seg_bind_wrap (wpAny_standAt ?_)
    exact seg_bind_wrap (Z.turn.self _ 0 s' _ _ tn6 (seg_again rfl loop))
/-- back in the def's own frame -/
theorem made_back (Z : Made X pins σ elt tg iter ifs scope gpos J H2 a gn s4 s5 cenv fp it tn) {σw : L2.St} {H : Hp} {s s' : Shared} (I : Inv (gcx X s4 H2 cenv fp (B.deeper cenv)) [] σw H s) (hos : s'.os = s.os) (hb : AllBare s'.gens) (hk : ∀ b o, s.heap.get? b = some o → s'.heap.get? b = some o) : Inv X pins σ H s' :=
  Z.inv.call' (ch := fp) (hos.trans I.os) (I.base.trans (Un.kept hk)) (I.hok.kept hk) hb fun b hb => ⟨(Z.fpok b hb).1.2.2.2.1, (Z.fpok b hb).1.2.1, (Z.fpok b hb).1.2.2.2.2.1, (Z.fpok b hb).1.2.2.2.2.2⟩
/-- the consumer asks for the next item -/
theorem gx_next (Z : Made X pins σ elt tg iter ifs scope gpos J H2 a gn s4 s5 cenv fp it tn) {σw : L2.St} {A1 : Around} {n : Nat} {acc : List V} {s : Shared} {Q : Option Value → Shared → Prop} {E : Value → Shared → Prop}
    (hh : A1.handled = none) (hroom : A1.depth < recursionLimit) (hl : s.heap.NoLimit) (hgen : s.heap.IsGen a gn) (hb : AllBare s.gens) (S : Asleep (model X.prog X.w) A1.in1 (gcx X s4 H2 cenv fp (A1.in1.deeper cenv)) σw cs CR on fin gn n acc s) (hst : Stood cs s) (hcr : CR acc s)
    (hY : ∀ v y acc' H C s', RelV y v → Inv X pins σ H s' → AllBare s'.gens → (∀ b ∈ cs, ∀ o, s.heap.get? b = some o → s'.heap.get? b = some o) → CR acc' s' → on acc' y H C →
      (C → ∀ s'', Slept cs s' s'' → s''.gens[gn]? = s'.gens[gn]? → Stood cs s'' → CR (acc' ++ [y]) s'' → 0 < n ∧ Asleep (model X.prog X.w) A1.in1 (gcx X s4 H2 cenv fp (A1.in1.deeper cenv)) σw cs CR on fin gn (n - 1) (acc' ++ [y]) s'') → Q (some v) s')
    (hP : ∀ acc' H s', Inv X pins σ H s' → (∀ b ∈ cs, ∀ o, s.heap.get? b = some o → s'.heap.get? b = some o) → CR acc' s' → fin acc' H → Q none s') (hCR : Stable cs CR) :
    wpAny (model X.prog X.w) A1 (pyNext (.ref a)) Q E s := by
  obtain ⟨gs, hgs, hgo⟩ := S
  have hlt : gn < s.gens.size := by
    rcases Nat.lt_or_ge gn s.gens.size with z | z
    · exact z
    · rw [Array.getElem?_eq_none z] at hgs; cases hgs
  refine GenW.wpAny_gsz (n := gn + 1) hlt ?_
  refine wpAny_pyNext_genexpQ (P := GP (gcx X s4 H2 cenv fp (A1.in1.deeper cenv)) σw cs CR fin) (Y := GY (gcx X s4 H2 cenv fp (A1.in1.deeper cenv)) σw cs CR on) (n := n) hh hl hroom hgen hgs (hgo (s.setGen gn .running) ⟨rfl, setg_other s gn _ hb rfl, fun b o _ e => e⟩ hst (hCR acc s _ (fun _ _ _ e => e) hcr)) (fun v s₁ gs' hbs hv => ?_) (fun s₁ hp h' hkk => ?_)
  · intro hsz
    obtain ⟨acc', y, H, C, rv, I, hk, cr', ho, kap⟩ := hv
    have b1 := setg_other s₁ gn gs' I.bare hbs
    refine hY v y acc' H C _ rv (made_back Z I rfl b1 fun b o e => e) b1 (fun b hb o e => (hk b hb).2 o e) (hCR acc' s₁ _ (fun _ _ _ e => e) cr') ho fun hC s'' hsl hge hsd hcr2 => ?_
    have hsz' : gn < s₁.gens.size := by
      rw [GenW.setGen_size] at hsz
      exact hsz
    have e1 : (s₁.setGen gn gs').gens[gn]? = some gs' := by
      show (s₁.gens.setIfInBounds gn gs')[gn]? = some gs'
      rw [Array.getElem?_setIfInBounds_self_of_lt hsz']
    cases n with
    | zero =>
      exact (kap hC s'' (slept_set hsl) hsd hcr2).elim
    | succ n => exact ⟨Nat.succ_pos _, gs', hge.trans e1, fun s3 z1 z2 z3 => kap hC s3 ⟨z1.os.trans hsl.os, z1.bare, fun b o nb e => z1.keep b o nb (hsl.keep b o nb e)⟩ z2 z3⟩
  · intro _
    obtain ⟨acc', H, I, hk, cr', hf⟩ := hp
    refine hP acc' H _ (made_back Z I rfl (setg_other s₁ gn .finished I.bare rfl) fun b o e => hkk b o e) (fun b hb o e => hkk b o ((hk b hb).2 o e)) (hCR acc' s₁ _ (fun _ _ o e => hkk _ o e) cr') hf
end
end Gx
/-! all, sum and join over a generator expression -/
namespace Gx
open PySem PySem.Spec PyProof.Rows L2
/-- the rules of a generator expression's parts, in whatever frame it runs -/
structure Parts (X : Cx) (k : Nat) (c P : Addr) (elt tg : Expr) (ifs : List Expr) (scope : Scope) (own : List (Str × Nat)) (g : TG) (tt : TT) (te : TE) : Prop where
  tab : GxR.TabB X.base X.mg c P
  code : X.env.code = .ref c
  co : scope.isCoroutine = false
  ok : BlkOk X.N X.env.scope scope own
  nocell : ∀ y ∈ scope.names, y.2 ≠ .cell
  dot : scope.names.lookup (".0" : Str) = some NameKind.local
  calm : X.calm = true
  nd : X.N.Nodup
  pg : ∀ (s : Shared) (H : Hp) (C : Addr) (cl : List (Str × Addr)) (cd : Value) (fp : List Addr) (A : Around), PG (gcx X s H (genEnv scope cl C cd builtinsNs X.env) fp A) tg g
  pt : ∀ (s : Shared) (H : Hp) (C : Addr) (cl : List (Str × Addr)) (cd : Value) (fp : List Addr) (A : Around), Room k A → PTs (gcx X s H (genEnv scope cl C cd builtinsNs X.env) fp A) ifs tt
  pe : ∀ (s : Shared) (H : Hp) (C : Addr) (cl : List (Str × Addr)) (cd : Value) (fp : List Addr) (A : Around), Room k A → PE (gcx X s H (genEnv scope cl C cd builtinsNs X.env) fp A) elt te
/-- the reading: the table may have grown; then the turns -/
def tGx (P : Addr) (wi : TI) (g : TG) (tt : TT) (te : TE) (vs : List Nat) (on : VK → List V → V → Hp → Prop → Prop) (fin : VK → List V → Hp → Prop) : TE := fun σ H Q => wi σ H fun J H1 => GxR.TabG H1 P ∧ ∀ H2, GxR.Tabbed P H1 H2 →
  ∃ W : Nat → Nat → List V → Hp → Prop, (∃ m, W 0 m [] H2) ∧ Turns J g tt te vs σ (on Q) (fin Q) W
def onAll : VK → List V → V → Hp → Prop → Prop := fun Q _ y H C => ∃ b, y = .bl b ∧ if b = true then C else Q (.bl false) H
def finAll : VK → List V → Hp → Prop := fun Q _ H => Q (.bl true) H
def isum : List V → Int
  | [] => 0
  | .int i :: r => i + isum r
  | _ :: r => isum r
theorem isum_app : ∀ (a : List V) (i : Int), isum (a ++ [.int i]) = isum a + i
  | [], i => by show i + 0 = 0 + i; omega
  | .int j :: r, i => by show j + isum (r ++ [.int i]) = j + isum r + i; rw [isum_app r i]; omega
  | .non :: r, i => isum_app r i
  | .bl _ :: r, i => isum_app r i
  | .str _ :: r, i => isum_app r i
  | .byt _ :: r, i => isum_app r i
  | .flt _ :: r, i => isum_app r i
  | .ref _ :: r, i => isum_app r i
  | .ty _ :: r, i => isum_app r i
def onSum : VK → List V → V → Hp → Prop → Prop := fun _ acc y _ C => ∃ j, y = .int j ∧ (-(2 ^ 63) ≤ j ∧ j < 2 ^ 63) ∧ (-(2 ^ 63) ≤ isum acc + j ∧ isum acc + j < 2 ^ 63) ∧ C
def finSum : VK → List V → Hp → Prop := fun Q acc H => Q (.int (isum acc)) H
def onStr : VK → List V → V → Hp → Prop → Prop := fun _ acc y _ C => (∃ x, y = .str x) ∧ acc.length < sizeLine ∧ C
def finStr (sep : Str) : VK → List V → Hp → Prop := fun Q acc H => ∃ ws : List Str, acc = ws.map V.str ∧ JoinOk sep ws = true ∧ Q (.str (Txt.join sep ws)) H
section
variable {X : Cx} {pins : List (Addr × Obj)} {σ : L2.St} {elt tg iter : Expr} {ifs : List Expr} {scope : Scope} {gpos : Pos} {J : It} {H2 : Hp} {a gn : Nat} {s4 s5 : Shared} {cenv : Env} {fp : List Addr} {it : Addr} {tn : Nat → Heap → Prop} {own : List (Str × Nat)}
  {g : TG} {tt : TT} {te : TE} {k : Nat} {c P : Addr} {Q : VK} {W : Nat → Nat → List V → Hp → Prop}
theorem slept_keep {cs : List Addr} {s : Shared} {h' : Heap} {t' : Nat} (hb : AllBare s.gens) (hk : ∀ b o, b ∉ cs → s.heap.get? b = some o → h'.get? b = some o) : Slept cs s { s with heap := h', toks := t' } := ⟨rfl, hb, hk⟩
theorem gen_stood {a gn : Nat} {s : Shared} (h : s.heap.IsGen a gn) : ∃ o, s.heap.get? a = some o ∧ ∀ v, o.data ≠ .cell v := by
  obtain ⟨o, nm, qn, e, _, d, _⟩ := h
  exact ⟨o, e, fun v z => by rw [d] at z; cases z⟩
theorem gen_at {a gn : Nat} {s s' : Shared} (h : s.heap.IsGen a gn) (k : ∀ o, s.heap.get? a = some o → s'.heap.get? a = some o) : s'.heap.IsGen a gn := by
  obtain ⟨o, nm, qn, e, r⟩ := h
  exact ⟨o, nm, qn, k o e, r⟩
theorem all_loop (Z : Made X pins σ elt tg iter ifs scope gpos J H2 a gn s4 s5 cenv fp it tn) (hr : Room (k + 3) X.A) {σw : L2.St} : ∀ (n : Nat) (acc : List V) (s : Shared), s.heap.NoLimit → AllBare s.gens → s.heap.IsGen a gn →
    Asleep (model X.prog X.w) X.A.in1.in1 (gcx X s4 H2 cenv fp (X.A.in1.in1.deeper cenv)) σw [a] (fun _ s => s.heap.IsGen a gn) (onAll Q) (finAll Q) gn n acc s →
    codeAny (model X.prog X.w) X.A (.builtin "all.loop" ⟨[.ref a], []⟩) (fun r s' => ∃ v x H', r = .ok (.ret v) ∧ Inv X pins σ H' s' ∧ RelV x v ∧ Q x H') s := by
  have stab : Stable [a] (fun _ s => s.heap.IsGen a gn) := fun _ s s' hk h => gen_at h fun o e => hk a List.mem_cons_self o e
  intro n
  induction n with
  | zero =>
    intro acc s hl hb hg S
    refine codeAny_builtin F.entry_all_loop ?_
    rw [Around.under_plainId F.plain_all_loop _]
    show wpAny _ X.A.in1 (pyNext (.ref a) >>= _) _ _ s
    refine wpAny_bind (gx_next (A1 := X.A.in1) Z hr.hd (by have := hr.dp; show X.A.depth < _; omega) hl hg hb S (fun b hb => by rw [List.mem_singleton.mp hb]; exact gen_stood hg) hg (fun v y acc' H C s' rv I b' hk cr ho go => ?_) (fun acc' H s' I hk cr hf => ?_) stab)
    · obtain ⟨b, rfl, q⟩ := ho
      obtain rfl : v = Value.bool b := rv
      refine wpAny_bind (wpAny_holding (wpAny_truthy_bool ?_))
      refine wpAny_bind (wpAny_letGo ?_)
      cases b with
      | true =>
        rw [if_pos rfl] at q
        obtain ⟨z, _⟩ := go q s' ⟨rfl, b', fun _ _ _ e => e⟩ rfl (fun b hb => by rw [List.mem_singleton.mp hb]; exact gen_stood cr) cr
        exact absurd z (Nat.lt_irrefl _)
      | false =>
        rw [if_neg Bool.false_ne_true] at q
        simp only [Bool.false_eq_true, if_false]
        exact wpAny_bind (wpAny_rule (wpAny_pure ⟨_, .bl false, H, rfl, I, rfl, q⟩))
    · exact wpAny_bind (wpAny_rule (wpAny_pure ⟨_, .bl true, H, rfl, I, rfl, hf⟩))
  | succ n ih =>
    intro acc s hl hb hg S
    refine codeAny_builtin F.entry_all_loop ?_
    rw [Around.under_plainId F.plain_all_loop _]
    show wpAny _ X.A.in1 (pyNext (.ref a) >>= _) _ _ s
    refine wpAny_bind (gx_next (A1 := X.A.in1) Z hr.hd (by have := hr.dp; show X.A.depth < _; omega) hl hg hb S (fun b hb => by rw [List.mem_singleton.mp hb]; exact gen_stood hg) hg (fun v y acc' H C s' rv I b' hk cr ho go => ?_) (fun acc' H s' I hk cr hf => ?_) stab)
    · obtain ⟨b, rfl, q⟩ := ho
      obtain rfl : v = Value.bool b := rv
      refine wpAny_bind (wpAny_holding (wpAny_truthy_bool ?_))
      refine wpAny_bind (wpAny_letGo ?_)
      cases b with
      | true =>
        rw [if_pos rfl] at q
        obtain ⟨_, S'⟩ := go q s' ⟨rfl, b', fun _ _ _ e => e⟩ rfl (fun b hb => by rw [List.mem_singleton.mp hb]; exact gen_stood cr) cr
        simp only [if_true]
        exact wpAny_pure ⟨plainId_quiet F.plain_all_loop _, ih _ s' I.nolimit b' cr S'⟩
      | false =>
        rw [if_neg Bool.false_ne_true] at q
        simp only [Bool.false_eq_true, if_false]
        exact wpAny_bind (wpAny_rule (wpAny_pure ⟨_, .bl false, H, rfl, I, rfl, q⟩))
    · exact wpAny_bind (wpAny_rule (wpAny_pure ⟨_, .bl true, H, rfl, I, rfl, hf⟩))
theorem room_gen {A : Around} (hr : Room (k + 3) A) (env : Env) : Room k (A.in1.in1.deeper env) := (hr.in1.in1).deeper env
theorem Made.inv5 (Z : Made X pins σ elt tg iter ifs scope gpos J H2 a gn s4 s5 cenv fp it tn) : Inv X pins σ H2 s5 ∧ AllBare s5.gens := by
  have b5 : AllBare s5.gens := by
    rw [Z.gens]
    exact Z.inv.bare.push rfl
  exact ⟨Z.inv.call' (ch := []) Z.os (Un.kept Z.kept) (Z.inv.hok.kept Z.kept) b5 fun b hb => absurd hb (by simp), b5⟩
theorem boot_all_ : bootBuiltins "all" = some (.builtin "all") := by decide +kernel
theorem boot_sum_ : bootBuiltins "sum" = some (.builtin "sum") := by decide +kernel
theorem pe_allG {p pos : Pos} {wi : TI} (hr : Room (k + 3) X.A) (hg : Gl X "all") (hm : X.mg "all" = none) (D : Parts X k c P elt tg ifs scope own g tt te) (hi : PI X tg iter wi) (hs : ∀ v, genFold iter X.env v = pure v := by intro _; rfl)
    (he : starEach [.GeneratorExp elt [⟨tg, iter, ifs, 0⟩] scope gpos] X.env = (false, eval (.GeneratorExp elt [⟨tg, iter, ifs, 0⟩] scope gpos) X.env) :: starEach [] X.env := by rfl) :
    PE X (.Call (.Name "all" p) [.GeneratorExp elt [⟨tg, iter, ifs, 0⟩] scope gpos] [] pos) (tGx P wi g tt te (own.map (·.2)) onAll finAll) := by
  refine ⟨fun pins s σ H Q I h => ?_⟩
  refine wpAny_Call_Name_kw (ld_blt I hg hm boot_all_ ?_)
  refine PyProof.Rows.callWith_builtin1 ?_ he (by rfl)
  rw [he]
  show wpAny _ _ (spliced ((false, eval (.GeneratorExp elt [⟨tg, iter, ifs, 0⟩] scope gpos) X.env) :: backTo pos (starEach [] X.env))) _ _ s
  refine Calls.spliced_cons (gx_eval hr D.tab D.code D.co D.ok D.nocell D.dot hi hs I h fun J H2 a gn s4 s5 cenv fp it tn Z hR => ?_)
  obtain ⟨W, ⟨m0, w0⟩, turn⟩ := hR
  obtain ⟨I5, b5⟩ := Z.inv5
  refine Calls.spliced_nil ?_
  refine call_function_tree F.kind_all F.plain_all F.entry_all (F.args_all1 _) ?_
  unfold Builtin.«all»
  refine wpAny_bind (m := oneArg "all" _) (wpAny_pure ?_)
  refine wpAny_bind (wpAny_pyIter_gen Z.isgen ?_)
  have pp : PG (gcx X s4 H2 cenv fp (X.A.in1.in1.deeper cenv)) tg g ∧ PTs (gcx X s4 H2 cenv fp (X.A.in1.in1.deeper cenv)) ifs tt ∧ PE (gcx X s4 H2 cenv fp (X.A.in1.in1.deeper cenv)) elt te := by
    obtain ⟨cd, rfl⟩ := Z.env
    exact ⟨D.pg _ _ _ _ _ _ _, D.pt _ _ _ _ _ _ _ (room_gen hr _), D.pe _ _ _ _ _ _ _ (room_gen hr _)⟩
  have S := made_asleep (B := X.A.in1.in1) (cs := [a]) (CR := fun _ s => s.heap.IsGen a gn) Z D.calm D.co D.ok D.nocell D.nd hr.hd rfl pp.1 pp.2.1 pp.2.2 (fun b hb => by rw [List.mem_singleton.mp hb]; exact Z.young)
    (fun _ s s' hk h => gen_at h fun o e => hk a List.mem_cons_self o e) turn w0 (s := s5) ⟨rfl, b5, fun _ _ _ e => e⟩ rfl
  refine wpAny_pure ⟨plainId_quiet F.plain_all_loop _, codeAny_mono (all_loop Z hr m0 [] s5 I5.nolimit b5 Z.isgen S) fun r s' hx => ?_⟩
  obtain ⟨v, x, H', rfl, I', rv, q⟩ := hx
  exact ⟨x, H', I', rv, q⟩
end
end Gx
namespace Gx
open PySem PySem.Spec PyProof.Rows L2
/-! sum -/
abbrev sumObj (i : Int) (t : Tok) (c : Nat) : Obj := { cls := .type "list", dict := none, data := .seq #[.int i t] c, slots := #[] }
def CRsum (a gn S : Nat) (acc : List V) (s : Shared) : Prop := s.heap.IsGen a gn ∧ ∃ t c, s.heap.get? S = some (sumObj (isum acc) t c)
section
variable {X : Cx} {pins : List (Addr × Obj)} {σ : L2.St} {elt tg iter : Expr} {ifs : List Expr} {scope : Scope} {gpos : Pos} {J : It} {H2 : Hp} {a gn : Nat} {s4 s5 : Shared} {cenv : Env} {fp : List Addr} {it : Addr} {tn : Nat → Heap → Prop} {own : List (Str × Nat)}
  {g : TG} {tt : TT} {te : TE} {k : Nat} {c P : Addr} {Q : VK} {W : Nat → Nat → List V → Hp → Prop} {S : Nat}
theorem crsum_stable : Stable [a, S] (CRsum a gn S) := fun acc s s' hk h => by
  obtain ⟨h1, t, c, h2⟩ := h
  exact ⟨gen_at h1 fun o e => hk a List.mem_cons_self o e, t, c, hk S (List.mem_cons_of_mem _ List.mem_cons_self) _ h2⟩
theorem crsum_stood {acc : List V} {s : Shared} (h : CRsum a gn S acc s) : Stood [a, S] s := fun b hb => by
  obtain ⟨h1, t, c, h2⟩ := h
  rcases List.mem_cons.mp hb with z | z
  · rw [z]; exact gen_stood h1
  · rw [List.mem_singleton.mp z]; exact ⟨_, h2, fun v q => by cases q⟩
theorem sum_loop (Z : Made X pins σ elt tg iter ifs scope gpos J H2 a gn s4 s5 cenv fp it tn) (hr : Room (k + 3) X.A) {σw : L2.St} (haS : a ≠ S) : ∀ (n : Nat) (acc : List V) (s : Shared), s.heap.NoLimit → AllBare s.gens → CRsum a gn S acc s →
    Asleep (model X.prog X.w) X.A.in1.in1 (gcx X s4 H2 cenv fp (X.A.in1.in1.deeper cenv)) σw [a, S] (CRsum a gn S) (onSum Q) (finSum Q) gn n acc s →
    codeAny (model X.prog X.w) X.A (.builtin "sum.loop" ⟨[.ref a, .ref S, rawInt 0, rawInt 0], []⟩) (fun r s' => ∃ v x H', r = .ok (.ret v) ∧ Inv X pins σ H' s' ∧ RelV x v ∧ Q x H') s := by
  intro n
  induction n with
  | zero =>
    intro acc s hl hb hcr A0
    obtain ⟨hg, tA, cA, hS⟩ := _root_.id hcr
    refine codeAny_builtin F.entry_sum_loop ?_
    rw [Around.under_plainId F.plain_sum_loop _]
    show wpAny _ X.A.in1 (seqItems? (.ref S) >>= _) _ _ s
    refine wpAny_bind (wpAny_seqItems hS rfl ?_)
    show wpAny _ X.A.in1 (tryCatch (pyNext (.ref a)) _ >>= _) _ _ s
    refine wpAny_bind (wpAny_tryCatch (gx_next (A1 := X.A.in1) Z hr.hd (by have := hr.dp; show X.A.depth < _; omega) hl hg hb A0 (crsum_stood hcr) hcr (fun v y acc' H C s' rv I b' hk cr ho go => ?_) (fun acc' H s' I hk cr hf => ?_) crsum_stable))
    · obtain ⟨j, rfl, hj, hj2, hC⟩ := ho
      obtain ⟨hg', t', c', hS'⟩ := _root_.id cr
      have hup : ∀ b o, b ≠ S → s'.heap.get? b = some o → (s'.heap.update S (Obj.mapSeq fun _ => #[.int (isum acc' + j) s'.toks])).get? b = some o := fun b o hb e => (Heap.get?_update_other _ _ (Ne.symm hb)).trans e
      have hS2 := Heap.get?_update_self (Obj.mapSeq fun _ => #[.int (isum acc' + j) s'.toks]) hS' rfl
      have cr2 : CRsum a gn S (acc' ++ [.int j]) { s' with heap := s'.heap.update S (Obj.mapSeq fun _ => #[.int (isum acc' + j) s'.toks]), toks := s'.toks + 1 } := ⟨gen_at hg' fun o e => hup a o haS e, s'.toks, _, by rw [isum_app]; exact hS2⟩
      obtain ⟨z, _⟩ := go hC { s' with heap := s'.heap.update S (Obj.mapSeq fun _ => #[.int (isum acc' + j) s'.toks]), toks := s'.toks + 1 } (slept_keep b' fun b o hb e => hup b o (fun z => hb (by rw [z]; exact List.mem_cons_of_mem _ List.mem_cons_self)) e) rfl (crsum_stood cr2) cr2
      exact absurd z (Nat.lt_irrefl _)
    · obtain ⟨_, t', c', hS'⟩ := _root_.id cr
      have e := hk S (List.mem_cons_of_mem _ List.mem_cons_self) _ hS
      rw [hS'] at e
      have e2 : isum acc' = isum acc := by
        have e3 := congrArg (fun o => match o with | some ob => ob.data | none => .plain) e
        injection e3 with e4 _
        have e5 := congrArg (fun l => l.toList) e4
        injection e5 with e6 _
        injection e6
      refine wpAny_pure ⟨_, .int (isum acc), H, rfl, I, ⟨_, rfl⟩, ?_⟩
      rw [← e2]
      exact hf
  | succ n ih =>
    intro acc s hl hb hcr A0
    obtain ⟨hg, tA, cA, hS⟩ := _root_.id hcr
    refine codeAny_builtin F.entry_sum_loop ?_
    rw [Around.under_plainId F.plain_sum_loop _]
    show wpAny _ X.A.in1 (seqItems? (.ref S) >>= _) _ _ s
    refine wpAny_bind (wpAny_seqItems hS rfl ?_)
    show wpAny _ X.A.in1 (tryCatch (pyNext (.ref a)) _ >>= _) _ _ s
    refine wpAny_bind (wpAny_tryCatch (gx_next (A1 := X.A.in1) Z hr.hd (by have := hr.dp; show X.A.depth < _; omega) hl hg hb A0 (crsum_stood hcr) hcr (fun v y acc' H C s' rv I b' hk cr ho go => ?_) (fun acc' H s' I hk cr hf => ?_) crsum_stable))
    · obtain ⟨j, rfl, hj, hj2, hC⟩ := ho
      obtain ⟨t, rfl⟩ : ∃ t, v = Value.int j t := rv
      obtain ⟨hg', t', c', hS'⟩ := _root_.id cr
      have e := hk S (List.mem_cons_of_mem _ List.mem_cons_self) _ hS
      have e2 : isum acc' = isum acc := by
        rw [hS'] at e
        have e3 := congrArg (fun o => match o with | some ob => ob.data | none => .plain) e
        injection e3 with e4 _
        have e5 := congrArg (fun l => l.toList) e4
        injection e5 with e6 _
        injection e6
      rw [e2] at hj2 hS'
      have hup : ∀ b o, b ≠ S → s'.heap.get? b = some o → (s'.heap.update S (Obj.mapSeq fun _ => #[.int (isum acc + j) s'.toks])).get? b = some o := fun b o hb e => (Heap.get?_update_other _ _ (Ne.symm hb)).trans e
      have hS2 := Heap.get?_update_self (Obj.mapSeq fun _ => #[.int (isum acc + j) s'.toks]) hS' rfl
      have hcc : ((decide (-(2 ^ 63) ≤ j) && decide (j < 2 ^ 63)) && (decide (-(2 ^ 63) ≤ isum acc + j) && decide (isum acc + j < 2 ^ 63))) = true := by
        simp only [Bool.and_eq_true, decide_eq_true_eq]
        exact ⟨hj, hj2⟩
      show wpAny _ X.A.in1 (if (_ : Bool) = true then (mkInt (isum acc + j) >>= _) else _) _ _ _
      split
      · refine wpAny_bind (wpAny_mkInt ?_)
        show wpAny _ X.A.in1 (updateSeq S (fun _ => #[.int (isum acc + j) s'.toks]) >>= _) _ _ _
        refine wpAny_bind ?_
        have cr2 : ∀ tk, CRsum a gn S (acc' ++ [.int j]) { s' with heap := s'.heap.update S (Obj.mapSeq fun _ => #[.int (isum acc + j) s'.toks]), toks := tk } := fun tk => ⟨gen_at hg' fun o e => hup a o haS e, s'.toks, _, by rw [isum_app, e2]; exact hS2⟩
        have sl : ∀ tk, Slept [a, S] s' { s' with heap := s'.heap.update S (Obj.mapSeq fun _ => #[.int (isum acc + j) s'.toks]), toks := tk } := fun tk => slept_keep b' fun b o hb e => hup b o (fun z => hb (by rw [z]; exact List.mem_cons_of_mem _ List.mem_cons_self)) e
        refine wpAny_updateSeq hS' rfl (wpAny_pure ⟨plainId_quiet F.plain_sum_loop _, ?_⟩)
        have A1 := (go hC _ (sl (s'.toks + 1)) rfl (crsum_stood (cr2 _)) (cr2 _)).2
        have lim : s'.heap.NoLimit := I.nolimit
        refine ih _ _ ?_ b' (cr2 _) A1
        obtain ⟨mc, hns, hnn⟩ := lim
        refine ⟨mc, hns.at' fun o e => hup _ o (fun z => ?_) e, hnn⟩
        obtain ⟨o2, _, _, e3, d3, _⟩ := hns
        rw [z, hS'] at e3
        cases e3
        cases d3
      · rename_i hneg
        exact absurd hcc hneg
    · obtain ⟨_, t', c', hS'⟩ := _root_.id cr
      have e := hk S (List.mem_cons_of_mem _ List.mem_cons_self) _ hS
      rw [hS'] at e
      have e2 : isum acc' = isum acc := by
        have e3 := congrArg (fun o => match o with | some ob => ob.data | none => .plain) e
        injection e3 with e4 _
        have e5 := congrArg (fun l => l.toList) e4
        injection e5 with e6 _
        injection e6
      refine wpAny_pure ⟨_, .int (isum acc), H, rfl, I, ⟨_, rfl⟩, ?_⟩
      rw [← e2]
      exact hf
theorem pe_sumG {p pos : Pos} {wi : TI} (hr : Room (k + 3) X.A) (hg : Gl X "sum") (hm : X.mg "sum" = none) (D : Parts X k c P elt tg ifs scope own g tt te) (hi : PI X tg iter wi) (hs : ∀ v, genFold iter X.env v = pure v := by intro _; rfl)
    (he : starEach [.GeneratorExp elt [⟨tg, iter, ifs, 0⟩] scope gpos] X.env = (false, eval (.GeneratorExp elt [⟨tg, iter, ifs, 0⟩] scope gpos) X.env) :: starEach [] X.env := by rfl) :
    PE X (.Call (.Name "sum" p) [.GeneratorExp elt [⟨tg, iter, ifs, 0⟩] scope gpos] [] pos) (tGx P wi g tt te (own.map (·.2)) onSum finSum) := by
  refine ⟨fun pins s σ H Q I h => ?_⟩
  refine wpAny_Call_Name_kw (ld_blt I hg hm boot_sum_ ?_)
  refine PyProof.Rows.callWith_builtin1 ?_ he (by rfl)
  rw [he]
  show wpAny _ _ (spliced ((false, eval (.GeneratorExp elt [⟨tg, iter, ifs, 0⟩] scope gpos) X.env) :: backTo pos (starEach [] X.env))) _ _ s
  refine Calls.spliced_cons (gx_eval hr D.tab D.code D.co D.ok D.nocell D.dot hi hs I h fun J H2 a gn s4 s5 cenv fp it tn Z hR => ?_)
  obtain ⟨W, ⟨m0, w0⟩, turn⟩ := hR
  obtain ⟨I5, b5⟩ := Z.inv5
  refine Calls.spliced_nil ?_
  refine call_function_tree F.kind_sum F.plain_sum F.entry_sum (F.args_sum1 _) ?_
  unfold Builtin.«sum»
  simp only [List.length_cons, List.length_nil]
  rw [if_neg (by decide)]
  refine wpAny_bind (wpAny_of_eq (show Builtin.Builtins.bindParams "sum" ["start"] 0 { } = pure [none] from rfl) ?_)
  refine wpAny_bind (wpAny_pyIter_gen Z.isgen ?_)
  refine wpAny_bind (wpAny_mkInt ?_)
  refine wpAny_bind (wpAny_pure ?_)
  simp only [List.forIn_cons, List.forIn_nil]
  refine wpAny_bind (wpAny_bind (wpAny_bind (wpAny_isInstance (T := "int") (b := false) (typeIs_int _ _ _) PySem.sub_int_str ?_)))
  simp only [Bool.false_eq_true, if_false]
  refine wpAny_pure (wpAny_bind (wpAny_bind (wpAny_isInstance (T := "int") (b := false) (typeIs_int _ _ _) PySem.sub_int_bytes ?_)))
  simp only [Bool.false_eq_true, if_false]
  refine wpAny_pure (wpAny_bind (wpAny_bind (wpAny_isInstance (T := "int") (b := false) (typeIs_int _ _ _) PySem.sub_int_bytearray ?_)))
  simp only [Bool.false_eq_true, if_false]
  refine wpAny_pure (wpAny_pure ?_)
  refine wpAny_bind (wpAny_newObj_type ?_)
  have pp : PG (gcx X s4 H2 cenv fp (X.A.in1.in1.deeper cenv)) tg g ∧ PTs (gcx X s4 H2 cenv fp (X.A.in1.in1.deeper cenv)) ifs tt ∧ PE (gcx X s4 H2 cenv fp (X.A.in1.in1.deeper cenv)) elt te := by
    obtain ⟨cd, rfl⟩ := Z.env
    exact ⟨D.pg _ _ _ _ _ _ _, D.pt _ _ _ _ _ _ _ (room_gen hr _), D.pe _ _ _ _ _ _ _ (room_gen hr _)⟩
  have hSa : s5.heap.objs.size = a + 1 := Z.size
  have hya := Z.young
  have ya : ∀ b ∈ [a, s5.heap.objs.size], s4.heap.objs.size < b := fun b hb => by
    rcases List.mem_cons.mp hb with z | z
    · rw [z]; exact hya
    · rw [List.mem_singleton.mp z]; exact Nat.lt_of_lt_of_le hya (by omega)
  have kp : ∀ (o' : Obj) b o, s5.heap.get? b = some o → (s5.heap.push o').get? b = some o := fun o' b o e => Heap.get?_push_of_some _ e
  refine wpAny_pure ⟨plainId_quiet F.plain_sum_loop _, codeAny_mono (sum_loop Z hr (S := s5.heap.objs.size) (by omega) m0 [] _ (I5.nolimit.push _) b5 ⟨gen_at Z.isgen fun o e => kp _ _ _ e, _, _, Heap.get?_push_size _ rfl⟩
    (made_asleep (B := X.A.in1.in1) (cs := [a, s5.heap.objs.size]) (CR := CRsum a gn s5.heap.objs.size) Z D.calm D.co D.ok D.nocell D.nd hr.hd rfl pp.1 pp.2.1 pp.2.2 ya crsum_stable turn w0 (slept_keep b5 fun b o _ e => kp _ b o e) rfl)) fun r s' hx => ?_⟩
  obtain ⟨v, x, H', rfl, I', rv, q⟩ := hx
  exact ⟨x, H', I', rv, q⟩
end
end Gx
namespace Gx
open PySem PySem.Spec PyProof.Rows L2
/-! sep.join(..) -/
abbrev lsObj (xs : Array Value) (c : Nat) : Obj := { cls := .type "list", dict := none, data := .seq xs c, slots := #[] }
def CRlst (a gn S : Nat) (acc : List V) (s : Shared) : Prop := s.heap.IsGen a gn ∧ ∃ xs c, Vals acc xs.toList ∧ s.heap.get? S = some (lsObj xs c)
section
variable {X : Cx} {pins : List (Addr × Obj)} {σ : L2.St} {elt tg iter : Expr} {ifs : List Expr} {scope : Scope} {gpos : Pos} {J : It} {H2 : Hp} {a gn : Nat} {s4 s5 : Shared} {cenv : Env} {fp : List Addr} {it : Addr} {tn : Nat → Heap → Prop} {own : List (Str × Nat)}
  {g : TG} {tt : TT} {te : TE} {k : Nat} {c P : Addr} {Q : VK} {W : Nat → Nat → List V → Hp → Prop} {S : Nat} {sep : Str}
theorem crlst_stable : Stable [a, S] (CRlst a gn S) := fun acc s s' hk h => by
  obtain ⟨h1, xs, c, hv, h2⟩ := h
  exact ⟨gen_at h1 fun o e => hk a List.mem_cons_self o e, xs, c, hv, hk S (List.mem_cons_of_mem _ List.mem_cons_self) _ h2⟩
theorem crlst_stood {acc : List V} {s : Shared} (h : CRlst a gn S acc s) : Stood [a, S] s := fun b hb => by
  obtain ⟨h1, xs, c, _, h2⟩ := h
  rcases List.mem_cons.mp hb with z | z
  · rw [z]; exact gen_stood h1
  · rw [List.mem_singleton.mp z]; exact ⟨_, h2, fun v q => by cases q⟩
theorem ext_loop (Z : Made X pins σ elt tg iter ifs scope gpos J H2 a gn s4 s5 cenv fp it tn) (hr : Room (k + 4) X.A) {σw : L2.St} (haS : a ≠ S) : ∀ (n : Nat) (acc : List V) (s : Shared), s.heap.NoLimit → AllBare s.gens → CRlst a gn S acc s →
    Asleep (model X.prog X.w) X.A.in1.in1.in1 (gcx X s4 H2 cenv fp (X.A.in1.in1.in1.deeper cenv)) σw [a, S] (CRlst a gn S) (onStr Q) (finStr sep Q) gn n acc s →
    codeAny (model X.prog X.w) X.A.in1 (.builtin "list.extend.loop" ⟨[.ref S, .ref a, .ref S], []⟩) (fun r s' => r = .ok (.ret (.ref S)) ∧ ∃ acc H xs c, Inv X pins σ H s' ∧ Vals acc xs.toList ∧ s'.heap.get? S = some (lsObj xs c) ∧ finStr sep Q acc H) s := by
  intro n
  induction n with
  | zero =>
    intro acc s hl hb hcr A0
    refine codeAny_builtin F.entry_extend_loop ?_
    rw [Around.under_plainId F.plain_extend_loop _]
    show wpAny _ X.A.in1.in1 (pyNext (.ref a) >>= _) _ _ s
    refine wpAny_bind (gx_next (A1 := X.A.in1.in1) Z hr.hd (by have := hr.dp; show X.A.depth < _; omega) hl hcr.1 hb A0 (crlst_stood hcr) hcr (fun v y acc' H C s' rv I b' hk cr ho go => ?_) (fun acc' H s' I hk cr hf => ?_) crlst_stable)
    · obtain ⟨⟨x, rfl⟩, hsz, hC⟩ := ho
      obtain ⟨hg', xs, c', hv, hS'⟩ := _root_.id cr
      have hup : ∀ b o, b ≠ S → s'.heap.get? b = some o → (s'.heap.update S (Obj.mapSeq (·.push v))).get? b = some o := fun b o hb e => (Heap.get?_update_other _ _ (Ne.symm hb)).trans e
      have hS2 := Heap.get?_update_self (Obj.mapSeq (·.push v)) hS' rfl
      have cr2 : CRlst a gn S (acc' ++ [.str x]) { s' with heap := s'.heap.update S (Obj.mapSeq (·.push v)), toks := s'.toks } := ⟨gen_at hg' fun o e => hup a o haS e, xs.push v, _, by rw [Array.toList_push]; exact hv.append (.cons rv .nil), hS2⟩
      obtain ⟨z, _⟩ := go hC { s' with heap := s'.heap.update S (Obj.mapSeq (·.push v)), toks := s'.toks } (slept_keep b' fun b o hb e => hup b o (fun z => hb (by rw [z]; exact List.mem_cons_of_mem _ List.mem_cons_self)) e) rfl (crlst_stood cr2) cr2
      exact absurd z (Nat.lt_irrefl _)
    · obtain ⟨_, xs, c', hv, hS'⟩ := cr
      exact wpAny_pure ⟨rfl, acc', H, xs, c', I, hv, hS', hf⟩
  | succ n ih =>
    intro acc s hl hb hcr A0
    refine codeAny_builtin F.entry_extend_loop ?_
    rw [Around.under_plainId F.plain_extend_loop _]
    show wpAny _ X.A.in1.in1 (pyNext (.ref a) >>= _) _ _ s
    refine wpAny_bind (gx_next (A1 := X.A.in1.in1) Z hr.hd (by have := hr.dp; show X.A.depth < _; omega) hl hcr.1 hb A0 (crlst_stood hcr) hcr (fun v y acc' H C s' rv I b' hk cr ho go => ?_) (fun acc' H s' I hk cr hf => ?_) crlst_stable)
    · obtain ⟨⟨x, rfl⟩, hsz, hC⟩ := ho
      obtain ⟨hg', xs, c', hv, hS'⟩ := _root_.id cr
      have hup : ∀ b o, b ≠ S → s'.heap.get? b = some o → (s'.heap.update S (Obj.mapSeq (·.push v))).get? b = some o := fun b o hb e => (Heap.get?_update_other _ _ (Ne.symm hb)).trans e
      have hS2 := Heap.get?_update_self (Obj.mapSeq (·.push v)) hS' rfl
      have hxl : xs.size = acc'.length := by
        have := hv.length
        rw [this, Array.length_toList]
      have cr2 : ∀ tk, CRlst a gn S (acc' ++ [.str x]) { s' with heap := s'.heap.update S (Obj.mapSeq (·.push v)), toks := tk } := fun tk => ⟨gen_at hg' fun o e => hup a o haS e, xs.push v, _, by rw [Array.toList_push]; exact hv.append (.cons rv .nil), hS2⟩
      have sl : ∀ tk, Slept [a, S] s' { s' with heap := s'.heap.update S (Obj.mapSeq (·.push v)), toks := tk } := fun tk => slept_keep b' fun b o hb e => hup b o (fun z => hb (by rw [z]; exact List.mem_cons_of_mem _ List.mem_cons_self)) e
      show wpAny _ X.A.in1.in1 (updateSeq S (·.push v) >>= _) _ _ _
      refine wpAny_bind ?_
      refine wpAny_updateSeq hS' rfl (wpAny_pure ⟨plainId_quiet F.plain_extend_loop _, ?_⟩) (by omega) (by show (xs.push v).size ≤ sizeLine + 1; rw [Array.size_push]; omega)
      refine ih _ _ ?_ b' (cr2 _) (go hC _ (sl _) rfl (crlst_stood (cr2 _)) (cr2 _)).2
      obtain ⟨mc, hns, hnn⟩ := I.nolimit
      refine ⟨mc, hns.at' fun o e => hup _ o (fun z => ?_) e, hnn⟩
      obtain ⟨o2, _, _, e3, d3, _⟩ := hns
      rw [z, hS'] at e3
      cases e3
      cases d3
    · obtain ⟨_, xs, c', hv, hS'⟩ := cr
      exact wpAny_pure ⟨rfl, acc', H, xs, c', I, hv, hS', hf⟩
theorem strs_of : ∀ {ws : List Str} {vs : List Value}, Vals (ws.map V.str) vs → ∃ l : List (Str × Tok), strValues l = vs ∧ l.map (·.1) = ws
  | [], _, .nil => ⟨[], rfl, rfl⟩
  | w :: r, _, .cons h t => by
    obtain ⟨u, rfl⟩ := (show ∃ u, _ = Value.str w u from h)
    obtain ⟨l, e1, e2⟩ := strs_of t
    exact ⟨(w, u) :: l, by rw [← e1]; rfl, by rw [← e2]; rfl⟩
/-- the reading of sep.join(..) -/
def tJoinGx (P : Addr) (to : TE) (wi : TI) (g : TG) (tt : TT) (te : TE) (vs : List Nat) : TE := fun σ H Q => to σ H fun v H0 => ∃ sep : Str, v = .str sep ∧ tGx P wi g tt te vs onStr (finStr sep) σ H0 Q
theorem pe_joinG {o : Expr} {apos cpos : Pos} {to : TE} {wi : TI} (hr : Room (k + 4) X.A) (ho : PE X o to) (D : Parts X k c P elt tg ifs scope own g tt te) (hi : PI X tg iter wi) (hs : ∀ v, genFold iter X.env v = pure v := by intro _; rfl)
    (he : starEach [.GeneratorExp elt [⟨tg, iter, ifs, 0⟩] scope gpos] X.env = (false, eval (.GeneratorExp elt [⟨tg, iter, ifs, 0⟩] scope gpos) X.env) :: starEach [] X.env := by rfl)
    (hbase : attributeBase o "join" X.env (eval o X.env) = eval o X.env := by rfl) (hline : (apos.endLine == cpos.line) = true := by rfl)
    (hfew : ((backTo cpos (starEach [.GeneratorExp elt [⟨tg, iter, ifs, 0⟩] scope gpos] X.env)).all (fun x => !x.1) && (backToKw cpos (keywordEach [] X.env)).all (fun x => x.1.isSome) && decide (([.GeneratorExp elt [⟨tg, iter, ifs, 0⟩] scope gpos] : List Expr).length + ([] : List Keyword).length + (if ([] : List Keyword).isEmpty then 0 else 1) < 30)) = true := by rfl)
    (hplain : (backTo cpos (starEach [] X.env)).any (·.1) = false := by rfl) :
    PE X (.Call (.Attribute o "join" apos) [.GeneratorExp elt [⟨tg, iter, ifs, 0⟩] scope gpos] [] cpos) (tJoinGx P to wi g tt te (own.map (·.2))) := by
  refine ⟨fun pins s σ H Q I h => ?_⟩
  refine wpAny_Call_method_late hbase hfew hline rfl (thn (ho.run pins s σ H _ I h) fun v s1 hv1 => ?_)
  obtain ⟨_, H1, I1, r1, sep, rfl, q1⟩ := hv1
  obtain ⟨tk, rfl⟩ := (show ∃ t, v = Value.str sep t from r1)
  refine ⟨"str", _, PySem.F.plainAttrs_str, PySem.F.slot_str_join, PySem.F.type_str_join, typeIs_str _ _ _, (fun _ e => nomatch e), ?_⟩
  rw [he]
  refine Calls.callWith_builtin (by show (false || (backTo cpos (starEach [] X.env)).any (·.1)) = false; rw [hplain] <;> rfl) (Calls.evalArgs_plain ?_)
  show wpAny _ _ (spliced ((false, eval (.GeneratorExp elt [⟨tg, iter, ifs, 0⟩] scope gpos) X.env) :: backTo cpos (starEach [] X.env))) _ _ s1
  refine Calls.spliced_cons (gx_eval hr D.tab D.code D.co D.ok D.nocell D.dot hi hs I1 q1 fun J H2 a gn s4 s5 cenv fp it tn Z hR => ?_)
  obtain ⟨W, ⟨m0, w0⟩, turn⟩ := hR
  obtain ⟨I5, b5⟩ := Z.inv5
  refine Calls.spliced_nil ?_
  refine wpAny_call (codeAny_call_builtin F.slot_str_join.plain F.entry_str_join (F.slot_str_join.check _ _ _ _ _ _ _ _ (typeIs_str _ _ _) (F.args_str_join_2 _ _) ?_))
  show wpAny _ X.A.in1 (Builtin.«str.join» ⟨[.str sep tk, .ref a], []⟩) _ _ s5
  rw [join_tree_other]
  refine wpAny_bind (wpAny_typeOf Z.isgen.typeIs ?_)
  show wpAny _ X.A.in1 ((pyIter (.ref a)).tryCatch _ >>= fun it => collect it >>= fun items => joinTail sep items) _ _ s5
  refine wpAny_bind (wpAny_tryCatch (wpAny_pyIter_gen Z.isgen ?_))
  have hSa : s5.heap.objs.size = a + 1 := Z.size
  have hya := Z.young
  have hSI : s5.heap.objs.size ≠ a := by omega
  have pp : PG (gcx X s4 H2 cenv fp (X.A.in1.in1.in1.deeper cenv)) tg g ∧ PTs (gcx X s4 H2 cenv fp (X.A.in1.in1.in1.deeper cenv)) ifs tt ∧ PE (gcx X s4 H2 cenv fp (X.A.in1.in1.in1.deeper cenv)) elt te := by
    obtain ⟨cd, rfl⟩ := Z.env
    exact ⟨D.pg _ _ _ _ _ _ _, D.pt _ _ _ _ _ _ _ (room_gen hr.in1 _), D.pe _ _ _ _ _ _ _ (room_gen hr.in1 _)⟩
  unfold collect
  refine wpAny_bind (wpAny_bind (wpAny_runValue (codeAny_builtin F.entry_proto_collect ?_)))
  rw [Around.under_plainId F.plain_proto_collect _]
  show wpAny _ X.A.in1.in1 (newList [] >>= fun l => again (.builtin "list.__iadd__" ⟨[l, .ref a], []⟩)) _ _ s5
  refine wpAny_bind (wpAny_newObj_type ?_)
  refine wpAny_pure ⟨plainId_quiet F.plain_list_iadd _, codeAny_builtin F.entry_list_iadd ?_⟩
  rw [Around.under_plainId F.plain_list_iadd _]
  have g1 : (s5.heap.push { cls := .type "list", data := .seq ([] : List Value).toArray }).IsGen a gn := Z.isgen.push _
  show wpAny _ X.A.in1.in1 (Builtin.List.listExtendWith (.ref s5.heap.objs.size) (.ref a) (.ref s5.heap.objs.size)) _ _ _
  unfold Builtin.List.listExtendWith
  refine wpAny_bind (wpAny_typeOf (Heap.IsGen.typeIs (s := { s5 with heap := s5.heap.push { cls := .type "list", data := .seq ([] : List Value).toArray } }) g1) ?_)
  have h1 : Builtin.List.listSameRef (.ref s5.heap.objs.size) (.ref a) = false := by simp [Builtin.List.listSameRef, hSI]
  have h2 : (Value.type "generator" == Value.type "list") = false := by decide
  have h3 : (Value.type "generator" == Value.type "tuple") = false := by decide
  simp only [h1, h2, h3, Bool.or_false, Bool.false_eq_true, if_false]
  refine wpAny_bind (wpAny_pyIter_gen g1 ?_)
  refine wpAny_bind (wpAny_holding ?_)
  unfold Builtin.List.listLengthHint
  refine wpAny_bind (wpAny_specialOf (Heap.IsGen.typeIs (s := { s5 with heap := s5.heap.push { cls := .type "list", data := .seq ([] : List Value).toArray } }) g1) F.gen_no_len ?_)
  show wpAny _ X.A.in1.in1 (specialOf (Value.ref a) (Str.ofString "__length_hint__") >>= _) _ _ _
  refine wpAny_bind (wpAny_specialOf (Heap.IsGen.typeIs (s := { s5 with heap := s5.heap.push { cls := .type "list", data := .seq ([] : List Value).toArray } }) g1) F.gen_no_hint ?_)
  refine wpAny_pure ?_
  show wpAny _ X.A.in1.in1 (rule "list.extend.makes-room" >>= fun _ => Builtin.List.listTouch (.ref s5.heap.objs.size) >>= fun _ => again (.builtin "list.extend.loop" ⟨[.ref s5.heap.objs.size, .ref a, .ref s5.heap.objs.size], []⟩)) _ _ _
  refine wpAny_bind (wpAny_rule ?_)
  have k1 : (s5.heap.push { cls := .type "list", data := .seq ([] : List Value).toArray }).get? s5.heap.objs.size = some { cls := .type "list", data := .seq ([] : List Value).toArray } := Heap.get?_push_size _ rfl
  refine wpAny_bind ?_
  show wpAny _ X.A.in1.in1 (updateSeq s5.heap.objs.size (·.push .none) >>= fun _ => updateSeq s5.heap.objs.size (·.pop)) _ _ _
  refine wpAny_bind (wpAny_updateSeq k1 rfl ?_)
  have k2 := Heap.get?_update_self (Obj.mapSeq (·.push Value.none)) k1 rfl
  refine wpAny_updateSeq k2 rfl ?_
  have k3 := Heap.get?_update_self (Obj.mapSeq (·.pop)) k2 rfl
  have oth : ∀ b o, b ≠ s5.heap.objs.size → s5.heap.get? b = some o →
      (((s5.heap.push { cls := .type "list", data := .seq ([] : List Value).toArray }).update s5.heap.objs.size (Obj.mapSeq (·.push Value.none))).update s5.heap.objs.size (Obj.mapSeq (·.pop))).get? b = some o :=
    fun b o hb e => (Heap.get?_update_other _ _ (Ne.symm hb)).trans ((Heap.get?_update_other _ _ (Ne.symm hb)).trans (Heap.get?_push_of_some _ e))
  have ya : ∀ b ∈ [a, s5.heap.objs.size], s4.heap.objs.size < b := fun b hb => by
    rcases List.mem_cons.mp hb with z | z
    · rw [z]; exact hya
    · rw [List.mem_singleton.mp z]; exact Nat.lt_of_lt_of_le hya (by omega)
  refine wpAny_pure ⟨plainId_quiet F.plain_extend_loop _, codeAny_mono (ext_loop (S := s5.heap.objs.size) (sep := sep) Z hr (Ne.symm hSI) m0 [] _ ?_ b5 ⟨gen_at Z.isgen fun o e => oth a o (Ne.symm hSI) e, _, _, .nil, k3⟩
    (made_asleep (B := X.A.in1.in1.in1) (cs := [a, s5.heap.objs.size]) (CR := CRlst a gn s5.heap.objs.size) Z D.calm D.co D.ok D.nocell D.nd hr.hd rfl pp.1 pp.2.1 pp.2.2 ya crlst_stable turn w0 (slept_keep b5 fun b o hb e => oth b o (fun z => hb (by rw [z]; exact List.mem_cons_of_mem _ List.mem_cons_self)) e) rfl)) fun r s' hx => ?_⟩
  · obtain ⟨mc, hns, hnn⟩ := I5.nolimit
    exact ⟨mc, hns.at' fun o e => oth _ o (Nat.ne_of_lt (Heap.lt_size e)) e, hnn⟩
  · obtain ⟨rfl, acc, H, xs, c', I', hv, hS', ws, rfl, hok, q⟩ := hx
    show wpAny _ X.A.in1 (load s5.heap.objs.size >>= _) _ _ s'
    refine wpAny_bind (wpAny_load hS' ?_)
    obtain ⟨l, e1, e2⟩ := strs_of hv
    refine wpAny_pure ?_
    show wpAny _ X.A.in1 (joinTail sep xs.toList) _ _ s'
    rw [← e1]
    rw [← e2] at hok q
    unfold JoinOk at hok
    rw [Bool.not_eq_true'] at hok
    have gv : Gives (joinTail sep (strValues l)) (joinMade sep l) := by
      have g0 := gives_joinTail sep l hok
      cases l with
      | nil => exact g0
      | cons p r => cases r with
        | nil => exact g0
        | cons q r' => exact g0
    exact gv X.prog X.w X.A (wants _ _) s' (post_join l ⟨joinFit_length hok, fun t' kk => ⟨.str _, H, I'.tok kk, ⟨t', rfl⟩, q⟩⟩)
end
end Gx
namespace Gx
open PySem PySem.Spec PyProof.Rows L2
/-! zip of two texts -/
def Itzs (x y : Str) : It :=
  ⟨fun i _ => i < min x.cps.size y.cps.size, fun i H v H' => ∃ T c d, v = .ref T ∧ H T = none ∧ H' = upd H T (.tup [.str ⟨#[c]⟩, .str ⟨#[d]⟩]) ∧ x.cps[i]? = some c ∧ y.cps[i]? = some d, fun i _ => i = min x.cps.size y.cps.size⟩
theorem turn_zips {P : Program} {w : World} {K : PySem.W.Frag} {elts : List Expr} {kk : Nat} {tpos : Pos} (N : Nat) (x y : Str) (t u : Tok) :
    Turn P w K (.Tuple elts kk tpos) (Itzs x y) ((N + 4) :: (N + 2) :: (N + 3) :: ([N] ++ [N + 1])) (N + 4)
      (fun i h => IsZip h (N + 4) (N + 2) (N + 3) .none ∧ IsTupOf2 h (N + 2) (.ref N) (.ref (N + 1)) ∧ (∃ a1 a2, IsTupOf2 h (N + 3) a1 a2) ∧ h.IsStrIter N (strIterType x) x t i ∧ h.IsStrIter (N + 1) (strIterType y) y u i) := by
  have go : ∀ (A : Around), A.handled = none → GoesN P w A (.Tuple elts kk tpos) (N + 4) ((N + 4) :: (N + 2) :: (N + 3) :: ([N] ++ [N + 1])) [N + 4, N + 3, N, N + 1] (min x.cps.size y.cps.size) _ _ := fun A hA =>
    GoesN.zip2 (zip_sep2 (N := N) (fp1 := []) (fp2 := []) (fun b hb => absurd hb (by simp)) (fun b hb => absurd hb (by simp))) (Draws.text (A := A.in1) hA N x t) (Draws.text (A := A.in1) hA (N + 1) y u)
  exact {
    mem := List.mem_cons_self
    obj := fun i h st c hc => by
      obtain ⟨hz, hTI, ⟨a1, a2, hTO⟩, ⟨o1, e1, _, d1⟩, ⟨o2, e2, _, d2⟩⟩ := st
      have e' : c = N + 4 ∨ c = N + 2 ∨ c = N + 3 ∨ c = N ∨ c = N + 1 := by simpa using hc
      rcases e' with q | q | q | q | q
      · rw [q]; exact ⟨_, hz, fun v q => nomatch q⟩
      · rw [q]; exact ⟨_, hTI, fun v q => nomatch q⟩
      · rw [q]; exact ⟨_, hTO, fun v q => nomatch q⟩
      · rw [q]; exact ⟨o1, e1, fun v q => by rw [d1] at q; cases q⟩
      · rw [q]; exact ⟨o2, e2, fun v q => by rw [d2] at q; cases q⟩
    keep := fun i h h' st k => by
      obtain ⟨hz, hTI, ⟨a1, a2, hTO⟩, ⟨o1, e1, r1⟩, ⟨o2, e2, r2⟩⟩ := st
      exact ⟨k _ (by simp) _ hz, k _ (by simp) _ hTI, ⟨a1, a2, k _ (by simp) _ hTO⟩, ⟨o1, k _ (by simp) _ e1, r1⟩, ⟨o2, k _ (by simp) _ e2, r2⟩⟩
    item := by
      intro X hP hw hK hc i pins s σ H E I hf st hg
      subst hP hw hK
      refine (go X.A (I.ok.hd hc)).goes i s (fun v s2 => ∃ x' H', Inv X pins σ H' s2 ∧ RelV x' v ∧ (Itzs x y).yld i H x' H' ∧ _ ∧ ∀ b ∈ ((N + 4) :: (N + 2) :: (N + 3) :: ([N] ++ [N + 1])), H' b = none) E hg st fun v h' tk hY st' hk htk => ?_
      obtain ⟨T, p, q, rfl, hT, ⟨c, u1, hc1, rfl⟩, ⟨d, u2, hd1, rfl⟩, hTt⟩ := hY
      have nT : H T = none := I.hok.fresh hT
      have new : ObjOk X.prog X.w (upd H T (.tup [.str ⟨#[c]⟩, .str ⟨#[d]⟩])) h' T (.tup [.str ⟨#[c]⟩, .str ⟨#[d]⟩]) := ⟨by show 2 ≤ sizeLine; decide, [_, _], .cons ⟨u1, rfl⟩ (.cons ⟨u2, rfl⟩ .nil), hTt⟩
      have lt : ∀ b ∈ ((N + 4) :: (N + 2) :: (N + 3) :: ([N] ++ [N + 1])), b < s.heap.objs.size := fun b hb => by
        obtain ⟨hz, hTI, ⟨a1, a2, hTO⟩, ⟨o1, e1, _⟩, ⟨o2, e2, _⟩⟩ := st
        have e' : b = N + 4 ∨ b = N + 2 ∨ b = N + 3 ∨ b = N ∨ b = N + 1 := by simpa using hb
        rcases e' with q | q | q | q | q
        · rw [q]; exact Heap.lt_size hz
        · rw [q]; exact Heap.lt_size hTI
        · rw [q]; exact Heap.lt_size hTO
        · rw [q]; exact Heap.lt_size e1
        · rw [q]; exact Heap.lt_size e2
      refine ⟨.ref T, _, I.turnedNew (t' := tk) (ch := ((N + 4) :: (N + 2) :: (N + 3) :: ([N] ++ [N + 1]))) (fun b o hb e => hk b o (fun z => hb ?_) e) hf hT new, rfl, ⟨T, c, d, rfl, nT, rfl, hc1, hd1⟩, st', fun b hb => ?_⟩
      · have e' : b = N + 4 ∨ b = N + 3 ∨ b = N ∨ b = N + 1 := by simpa using z
        rcases e' with q | q | q | q <;> rw [q] <;> simp
      · rw [upd_ne (Nat.ne_of_lt (Nat.lt_of_lt_of_le (lt b hb) hT))]
        exact (hf b hb).1
    done := by
      intro X hP hw hK hc i pins s σ H E I hf st hg
      subst hP hw hK
      have hi : i = min x.cps.size y.cps.size := hg
      subst hi
      refine (go X.A (I.ok.hd hc)).stops s (fun s1 => Inv X pins σ H s1) E st fun h' tk hk _ => ?_
      exact I.turnedL (t' := tk) (ch := ((N + 4) :: (N + 2) :: (N + 3) :: ([N] ++ [N + 1]))) (fun b o hb e => hk b o (fun z => hb (by
        have e' : b = N + 4 ∨ b = N + 3 ∨ b = N ∨ b = N + 1 := by simpa using z
        rcases e' with q | q | q | q <;> rw [q] <;> simp)) e) hf
    self := fun A i s Q E st h => wpAny_pyIter_zip st.1 h }
def iZips (ta : TA) : TI := fun σ H R => ta σ H fun vs H1 => ∃ x y, vs = [.str x, .str y] ∧ R (Itzs x y) H1
theorem pi_zips {X : Cx} {e e2 : Expr} {ta : TA} {p pos tpos : Pos} {elts : List Expr} {kk : Nat} (hg : Gl X "zip") (hm : X.mg "zip" = none) (ha : PA X [e, e2] ta)
    (hs : starEach [e, e2] X.env = (false, eval e X.env) :: starEach [e2] X.env := by rfl) (hpl : (backTo pos (starEach [e2] X.env)).any (·.1) = false := by rfl) :
    PI X (.Tuple elts kk tpos) (.Call (.Name "zip" p) [e, e2] [] pos) (iZips ta) := by
  refine ⟨fun pins s σ H R I h => ?_⟩
  refine Call_ (ld_blt I hg hm PyProof.Rows.boot_zip (PyProof.Rows.callWith_type1 (thn (ha.run pos pins s σ H _ I h) fun us s1 h1 => ?_) hs hpl))
  obtain ⟨vs, H1, I1, r1, x, y, rfl, q⟩ := h1
  cases r1 with
  | cons r rr =>
    cases rr with
    | cons r' rr =>
      cases rr
      obtain ⟨t, rfl⟩ := r
      obtain ⟨u, rfl⟩ := r'
      refine zip_begins2 (begins_text x t) (begins_text y u) trivial trivial fun h' hz hTI hTO g1 g2 hsz hk => wpAny_pyIter_zip hz ?_
      have I2 : Inv X pins σ H1 { s1 with heap := h' } := I1.kept (t' := s1.toks) hk
      refine ⟨s1.heap.objs.size + 4, _, _, _, H1, rfl, I2, turn_zips s1.heap.objs.size x y t u, ⟨hz, hTI, ⟨_, _, hTO⟩, ⟨_, g1, rfl, rfl⟩, ⟨_, g2, rfl, rfl⟩⟩, fun c hcm => ?_, q⟩
      have e' : c = s1.heap.objs.size + 4 ∨ c = s1.heap.objs.size + 2 ∨ c = s1.heap.objs.size + 3 ∨ c = s1.heap.objs.size ∨ c = s1.heap.objs.size + 1 := by simpa using hcm
      have hle : s1.heap.objs.size ≤ c := by
        rcases e' with z | z | z | z | z <;> rw [z]
        · exact Nat.le_add_right _ _
        · exact Nat.le_add_right _ _
        · exact Nat.le_add_right _ _
        · exact Nat.le_refl _
        · exact Nat.le_add_right _ _
      exact I1.fpOk hle (I1.hok.fresh hle)
end Gx
namespace Wa
open PySem PySem.Spec PyProof.Rows L2
/-! what stood stands; tables of code may have grown -/
structure Gr (H H' : Hp) : Prop where
  keep : ∀ b o, H b = some o → (∀ ps, o ≠ .tbl ps) → H' b = some o
  tab : ∀ b, GxR.TabG H b → GxR.TabG H' b
  there : ∀ b o, H b = some o → ∃ o', H' b = some o'
theorem Gr.refl (H : Hp) : Gr H H := ⟨fun _ _ e _ => e, fun _ h => h, fun _ o e => ⟨o, e⟩⟩
theorem Gr.of {H H' : Hp} (s : Same H H') : Gr H H' := ⟨fun b o e _ => s b o e, fun b h => by
  obtain ⟨ps, e, t⟩ := h
  exact ⟨ps, s _ _ e, t⟩, fun b o e => ⟨o, s b o e⟩⟩
theorem Gr.trans {H H1 H2 : Hp} (a : Gr H H1) (b : Gr H1 H2) : Gr H H2 := ⟨fun c o e n => b.keep c o (a.keep c o e n) n, fun c h => b.tab c (a.tab c h), fun c o e => by
  obtain ⟨o1, e1⟩ := a.there c o e
  exact b.there c o1 e1⟩
theorem Gr.tabbed {P : Addr} {H H' : Hp} (h : GxR.TabG H P) (t : GxR.Tabbed P H H') : Gr H H' where
  keep := fun b o e n => by
    by_cases hb : b = P
    · obtain ⟨ps, e2, _⟩ := h
      rw [hb, e2] at e
      cases e
      exact absurd rfl (n ps)
    · rw [t.2 b hb]
      exact e
  tab := fun b h2 => by
    by_cases hb : b = P
    · rw [hb]; exact t.1
    · obtain ⟨ps, e, q⟩ := h2
      exact ⟨ps, by rw [t.2 b hb]; exact e, q⟩
  there := fun b o e => by
    by_cases hb : b = P
    · obtain ⟨ps, e2, _⟩ := t.1
      exact ⟨_, by rw [hb]; exact e2⟩
    · exact ⟨o, by rw [t.2 b hb]; exact e⟩
theorem Gr.new {H H' : Hp} (g : Gr H H') {p : Addr} {o : HO} (n : H' p = none) : Gr H (upd H' p o) := g.trans (Gr.of (same_upd n))
theorem Gr.free {H H' : Hp} (g : Gr H H') {l : Addr} (h : H' l = none) : H l = none := by
  cases q : H l with
  | none => rfl
  | some o =>
    obtain ⟨o', e⟩ := g.there l o q
    rw [e] at h
    cases h
theorem Gr.lst {H H' : Hp} (g : Gr H H') {a : Addr} {xs : List V} (h : H a = some (.lst xs)) : H' a = some (.lst xs) := g.keep _ _ h fun _ z => by cases z
theorem Gr.tup {H H' : Hp} (g : Gr H H') {a : Addr} {xs : List V} (h : H a = some (.tup xs)) : H' a = some (.tup xs) := g.keep _ _ h fun _ z => by cases z
theorem Gr.seq {K : PySem.W.Frag} {H H' : Hp} {a : Addr} {xs : List V} (g : Gr H H') (h : SqL K H a xs) : SqL K H' a xs := by
  rcases h with (h | ⟨o, h⟩) | h
  · exact .inl (.inl (g.lst h))
  · exact .inl (.inr ⟨o, g.keep _ _ h fun _ z => by cases z⟩)
  · exact .inr h
/-- a change at an address that was free at the start -/
theorem Gr.over {H H1 : Hp} {p : Addr} {o : HO} (g : Gr H H1) (h : H p = none) : Gr H (upd H1 p o) where
  keep := fun b u e n => by
    rw [upd_ne (ne_of_none e h)]
    exact g.keep b u e n
  tab := fun b hb => by
    obtain ⟨ps, e, q⟩ := g.tab b hb
    obtain ⟨ps0, e0, _⟩ := hb
    exact ⟨ps, by rw [upd_ne (ne_of_none e0 h)]; exact e, q⟩
  there := fun b u e => by
    rw [upd_ne (ne_of_none e h)]
    exact g.there b u e
/-- a def whose code is known -/
theorem okC {P : Program} {w : World} {K : PySem.W.Frag} {mg : Str → Option Value} {base : Heap} {x qual : Str} {st : Stmt} {f c : Addr} {fd : FuncData} {N ps : List Str} {k : Nat} {sp : Sp} (F : Fun K x qual st f fd) (hcd : fd.code = .ref c) (S : FnScope N ps (defScope st)) (len : ∀ vs H Q E, sp vs H Q E → vs.length = ps.length)
    (hbody : ∀ (A : Around) (outer : List Env) (s : Shared) (H : Hp) (vs : List V) (Q : VK) (E : XK), Room k (A.deeper (envOfC qual (defScope st) s.heap.objs.size f (.ref c))) → sp vs H Q E →
      ∃ t, PSs (cxOf CX0 P w K mg base N qual (defScope st) f (.ref c) A outer s H E).nox (defBody st) t ∧ t { nx := fun _ H' => Q .non H', rt := Q } (start N vs) H) : FnOk P w K mg base CX0 (k + 1) f fd ps sp := by
  obtain ⟨oc, od, kV, doc, pm, an, cdv, ct, osl, rfl, lk, hco⟩ := F.ex
  have e : cdv = .ref c := hcd
  subst e
  refine fn_of lk hco S len fun A outer s H vs Q E hr hsp => ?_
  obtain ⟨t, h, q⟩ := hbody A outer s H vs Q E hr hsp
  exact ⟨t, h.nox, q⟩
/-- the tables of the text's defs, as the head leaves them -/
def TabsOf (q : Program) (mg : Str → Option Value) (h : Heap) : Prop := ∀ d ∈ recsOf q, ∃ a o fd c P, mg d.name = some (.ref a) ∧ h.get? a = some o ∧ o.data = .func fd ∧ fd.code = .ref c ∧ h.IsCode c P #[] ∧ h.TableAt c P #[]
theorem tab_at {q : Program} {K : PySem.W.Frag} {mg : Str → Option Value} {h : Heap} {x : Str} {f c P : Addr} {oc e : Value} {od dd : Option Addr} {fd : FuncData} {sl sl2 : Array (Option Value)} {vs : Array Value} (T : TabsOf q mg h) (hd : ((recsOf q).any fun r => r.name == x) = true) (KX : K.In h)
    (gm : mg x = some (.ref f)) (lk : K.lookup f = some ⟨oc, od, .func fd, sl⟩) (hc : fd.code = .ref c) (lc : K.lookup c = some ⟨e, dd, .fields vs, sl2⟩) (hv : vs[11]? = some (.ref P)) :
    h.get? P = some { cls := .none, data := .fields #[] } ∧ PySem.W.CodeHd h c P := by
  obtain ⟨d, hm, hn⟩ := List.any_eq_true.mp hd
  obtain ⟨a, o, fd', c', P', h1, h2, h3, h4, h5, h6⟩ := T d hm
  rw [beq_iff_eq.mp hn, gm] at h1
  cases h1
  rw [KX _ _ lk] at h2
  cases h2
  cases h3
  rw [hc] at h4
  cases h4
  obtain ⟨⟨ob, us, e1, _, e3, e4⟩, hP⟩ := _root_.id h6
  rw [KX _ _ lc] at e1
  cases e1
  cases e3
  rw [hv] at e4
  cases e4
  exact ⟨hP, .of h5 h6⟩
/-- the end of a law's row, with the tables of its defs -/
theorem walk_tabs {l : PySem.W.OpenLaw} {n k : Nat} {q : Program} {loose : List Str} {XP : (Str → Option Value) → Heap → Prop} {YP : World → Heap → Prop} {d : DefRec} {K : Params → PySem.W.Frag} {CX : World → CXT} {x : Str} (hn : l.most = some n) (hn2 : n ≤ sizeLine) (hdf : d.params.defaults = []) (hr : Room k callerA)
    (hY : ∀ (w : World) (h : Heap), YP w h → (K w.params).In h)
    (F : ∀ (w : World) (mg : Str → Option Value) (fa : Addr) (h : Heap), (K w.params).In h → h.Ns mainGlobals mg → mg d.name = some (.ref fa) → TabsOf q mg h → LamX.LawAtS l w (K w.params) (CX w) k n x mg fa h)
    (hCX : ∀ (w : World) (H : Hp) (s : Shared) (e : Value) (s' : Shared), CX w [] H s (fun _ _ _ => False) e s' → False) : PySem.W.WalkO q loose XP YP l.row.toRowW d [] (fun f vs => PySem.call f vs) := by
  refine Att.attach_callB hn hdf fun w s₀ s₁ mg mb fa o pm cd doc a vs ns G Y ho hd hcd hmg hobj hints hlen hbits hg => ?_
  have KX := hY w _ Y
  obtain ⟨fd, cs, sp, t1, t2, t3, hb, hsp, hF⟩ := F w mg fa _ KX G.T.g hmg G.T.tab
  exact LamX.law_callTs KX G.T.g G.T.b G.T.builtins G.T.nolimit hg t1 t2 t3 G.T.bmain hobj hints (Nat.le_trans hlen hn2) hr hF hb (fun H hH hS => hsp H a ns hlen hbits hH hS) fun H e s' => hCX w H s₁ e s'
end Wa
namespace Wa
open PySem PySem.Spec PyProof.Rows L2
/-! how often a sign stands in a text -/
theorem occ_count (x : Str) (c : Nat) : ∀ (l : List Nat) (st : Array Nat × Nat) (k : Nat), st.1.size ≤ k → (∀ i ∈ l, st.2 ≤ i) → l.Pairwise (· < ·) → k + l.length ≤ x.length + 1 →
    (forIn l st (StrLaws.occBody x ⟨#[c]⟩ x.length (x.length + 1))).run.fst.size = st.1.size + (l.filter fun i => decide (x.cps.toList[i]? = some c)).length
  | [], st, k, _, _, _, _ => rfl
  | a :: l, st, k, hk, hf, hp, hl => by
    rw [List.forIn_cons]
    have ha := hf a List.mem_cons_self
    have hp' := List.pairwise_cons.mp hp
    have hl' : k + (l.length + 1) ≤ x.length + 1 := hl
    by_cases hc : x.cps.toList[a]? = some c
    · obtain ⟨h1, h2⟩ := (StrLaws.subAt_one x c a).mpr hc
      have e : StrLaws.occBody x ⟨#[c]⟩ x.length (x.length + 1) a st = pure (ForInStep.yield (st.1.push a, a + (⟨#[c]⟩ : Str).length)) := by
        unfold StrLaws.occBody
        rw [if_pos ⟨⟨⟨by omega, ha⟩, h1⟩, h2⟩]
      rw [e]
      show (forIn l (st.1.push a, a + 1) (StrLaws.occBody x ⟨#[c]⟩ x.length (x.length + 1))).run.fst.size = _
      rw [occ_count x c l (st.1.push a, a + 1) (k + 1) (by show (st.1.push a).size ≤ k + 1; rw [Array.size_push]; omega) (fun i hi => hp'.1 i hi) hp'.2 (by omega)]
      show (st.1.push a).size + _ = _
      rw [Array.size_push, List.filter_cons_of_pos (by simp [hc]), List.length_cons]
      omega
    · have e : StrLaws.occBody x ⟨#[c]⟩ x.length (x.length + 1) a st = pure (ForInStep.yield (st.1, st.2)) := by
        unfold StrLaws.occBody
        rw [if_neg fun z => hc ((StrLaws.subAt_one x c a).mp ⟨z.1.2, z.2⟩)]
      rw [e]
      show (forIn l (st.1, st.2) (StrLaws.occBody x ⟨#[c]⟩ x.length (x.length + 1))).run.fst.size = _
      rw [occ_count x c l (st.1, st.2) k hk (fun i hi => hf i (List.mem_cons_of_mem _ hi)) hp'.2 (by omega)]
      rw [List.filter_cons_of_neg (by rw [decide_eq_false hc]; exact Bool.false_ne_true)]
theorem filter_at (c : Nat) : ∀ (l : List Nat), ((List.range l.length).filter fun i => decide (l[i]? = some c)).length = l.count c
  | [] => rfl
  | a :: l => by
    have ih := filter_at c l
    rw [List.length_cons, List.range_succ_eq_map, List.filter_cons, List.filter_map, List.count_cons]
    have e : ((fun i => decide ((a :: l)[i]? = some c)) ∘ Nat.succ) = fun i => decide (l[i]? = some c) := by
      funext i
      show decide ((a :: l)[i + 1]? = some c) = _
      rw [List.getElem?_cons_succ]
    rw [e]
    by_cases h : a = c
    · subst h
      rw [if_pos (by simp), List.length_cons, List.length_map, ih, if_pos (by simp)]
    · rw [if_neg (by simp [h]), List.length_map, ih, if_neg (by simp [h])]
      rfl
theorem count_sign (x : Str) (c : Nat) : Txt.count x ⟨#[c]⟩ = ((x.cps.toList.count c : Nat) : Int) := by
  show ((Builtin.Str.occurrences x ⟨#[c]⟩ 0 x.length (x.length + 1)).length : Int) = _
  rw [StrLaws.occ_eq, Array.length_toList]
  have hl : x.cps.toList.length = x.length := Array.length_toList
  rw [occ_count x c _ (#[], 0) 0 (Nat.le_refl _) (fun _ _ => Nat.zero_le _) (List.pairwise_lt_range' ..) (by rw [List.length_range']; omega)]
  have e : (List.range' 0 (x.length + 1 - 0)) = List.range (x.length + 1) := by rw [List.range_eq_range']; rfl
  rw [e, List.range_succ, List.filter_append, List.length_append, ← hl, filter_at]
  have e2 : x.cps.toList[x.cps.toList.length]? = none := List.getElem?_eq_none (Nat.le_refl _)
  rw [List.filter_cons_of_neg (by simp)]
  simp
/-! a text so many times -/
def repS (z : Str) (k : Nat) : Str := ⟨(List.replicate k z.cps).foldl (· ++ ·) #[]⟩
theorem foldl_cps (z : Array Nat) : ∀ (k : Nat) (b : Array Nat), ((List.replicate k z).foldl (· ++ ·) b).toList = b.toList ++ (List.replicate k z.toList).flatten
  | 0, b => by simp
  | k + 1, b => by
    rw [List.replicate_succ, List.foldl_cons, foldl_cps z k, List.replicate_succ, List.flatten_cons, Array.toList_append, List.append_assoc]
theorem repS_list (z : Str) (k : Nat) : (repS z k).cps.toList = (List.replicate k z.cps.toList).flatten := by
  show ((List.replicate k z.cps).foldl (· ++ ·) #[]).toList = _
  rw [foldl_cps]
  rfl
theorem repS_len (z : Str) (k : Nat) : (repS z k).length = k * z.length := by
  show (repS z k).cps.size = _
  rw [← Array.length_toList, repS_list, List.length_flatten, List.map_replicate, List.sum_replicate_nat, Array.length_toList]
  rfl
theorem op_repS {X : Cx} : OpR X (binaryOp .Mult) (fun x y H Q => ∃ (z : Str) (k : Nat), x = .str z ∧ y = .int k ∧ z.length ≤ 1000 ∧ k ≤ 1000 ∧ Q (.str (repS z k)) H) := by
  intro pins s σ H x y v u Q I rx ry h
  obtain ⟨z, k, rfl, rfl, h1, h2, q⟩ := h
  obtain ⟨t, rfl⟩ := rx
  obtain ⟨t', rfl⟩ := ry
  have hm : z.length * k ≤ 1000000 := Nat.le_trans (Nat.mul_le_mul h1 h2) (by decide)
  refine PySem.P.mul_str ?_ (fun h3 _ => ?_) (fun h3 _ => ?_) ?_
  · rw [decide_eq_false (by omega), decide_eq_false (by omega)]
    rfl
  · have e : (1000 : Int) ≤ (2 ^ 63 - 1) / (k : Int) := by
      refine Int.le_ediv_of_mul_le (by omega) ?_
      omega
    omega
  · rw [Int.toNat_natCast]
    show Builtin.Str.tooLong (z.length * k) = false
    unfold Builtin.Str.tooLong
    exact decide_eq_false (by
      have : z.length * k ≤ sizeLine := Nat.le_trans hm (by decide)
      omega)
  · by_cases c1 : (k : Int) < 1
    · have hk : k = 0 := by omega
      subst hk
      rw [if_pos c1]
      exact ⟨by decide, .str (repS z 0), H, I.tok _, ⟨_, rfl⟩, q⟩
    · rw [if_neg c1]
      by_cases c2 : ((k : Int) == 1 || z.length == 0) = true
      · rw [if_pos c2]
        have e : repS z k = z := by
          apply str_ext
          rw [repS_list]
          rcases Bool.or_eq_true_iff.mp c2 with c | c
          · have hk : k = 1 := by have := beq_iff_eq.mp c; omega
            subst hk
            simp
          · have hz : z.cps.toList = [] := List.eq_nil_of_length_eq_zero (by rw [Array.length_toList]; exact beq_iff_eq.mp c)
            rw [hz]
            simp
        rw [e] at q
        exact ⟨.str z, H, I, ⟨_, rfl⟩, q⟩
      · rw [if_neg c2]
        refine ⟨?_, .str (repS z k), H, I.tok _, ⟨_, rfl⟩, ?_⟩
        · rw [Int.toNat_natCast]
          show (repS z k).length ≤ sizeLine
          rw [repS_len, Nat.mul_comm]
          exact Nat.le_trans hm (by decide)
        · exact q
theorem rep_nought (k : Nat) : repS ("0" : Str) k = wd (List.replicate k 0) := by
  apply str_ext
  rw [repS_list, wd_list]
  have e : ("0" : Str).cps.toList = [48] := by decide +kernel
  rw [e]
  induction k with
  | zero => rfl
  | succ k ih => rw [List.replicate_succ, List.flatten_cons, ih, List.replicate_succ]; rfl
/-! the turns of a generator, counted -/
theorem turns_n {J : It} {g : TG} {tt : TT} {te : TE} {vs : List Nat} {σ : L2.St} {on : List V → V → Hp → Prop → Prop} {fin : List V → Hp → Prop} (n : Nat) (Pv : Nat → List V → Hp → Prop) {H0 : Hp} (h0 : Pv 0 [] H0)
    (hs : ∀ i acc H, i < n → Pv i acc H → J.go i H ∧ ∀ x H', J.yld i H x H' → g x (wipe σ vs) H' fun σ2 H2 => wipe σ2 vs = wipe σ vs ∧ tt σ2 H2 fun b H3 => if b = true then te σ2 H3 fun y H4 => on acc y H4 (Pv (i + 1) (acc ++ [y]) H4) else Pv (i + 1) acc H3)
    (hd : ∀ acc H, Pv n acc H → J.stop n H ∧ fin acc H) : ∃ W : Nat → Nat → List V → Hp → Prop, (∃ m, W 0 m [] H0) ∧ Gx.Turns J g tt te vs σ on fin W := by
  refine ⟨fun i m acc H => m = n - i ∧ i ≤ n ∧ Pv i acc H, ⟨n, by simp, Nat.zero_le _, h0⟩, ?_⟩
  rintro i m acc H ⟨rfl, hi, p⟩
  by_cases hlt : i < n
  · obtain ⟨g, t⟩ := hs i acc H hlt p
    exact .inr ⟨g, Pv (i + 1), fun acc' H' p' => ⟨n - (i + 1), by omega, rfl, hlt, p'⟩, t⟩
  · have e : i = n := by omega
    subst e
    exact .inl (hd acc H p)
end Wa
namespace Wa
open PySem PySem.Spec PyProof.Rows L2
/-- a def of the text, as callers use it -/
structure Df (K : PySem.W.Frag) (mg : Str → Option Value) (x : Str) (st : Stmt) (ps : List Str) (f : Addr) (fd : FuncData) : Prop where
  F : Fun K x x st f fd
  b : Binds K fd ps []
  g : mg x = some (.ref f)
theorem tri_nil : TriplesOk (#[] : Array Value).toList := by
  show TriplesOk []
  trivial
def spLaw (K : PySem.W.Frag) (Ps : List Addr) : Sp := fun vs H Q _ => ∃ (a : Addr) (ns : List Int), vs = [.ref a] ∧ SqL K H a (ns.map V.int) ∧ (∀ P ∈ Ps, GxR.TabG H P) ∧ ∀ H', Q (.bl true) H'
theorem iteTB {A B : Prop} {b : Bool} (e : b = true) (h : A) : if b = true then A else B := by
  rw [if_pos e]
  exact h
theorem iteFB {A B : Prop} {b : Bool} (e : b = false) (h : B) : if b = true then A else B := by
  rw [if_neg (by rw [e]; exact Bool.false_ne_true)]
  exact h
end Wa
namespace Wa
open PySem PySem.Spec PyProof.Rows L2
/-- a word of length n with q signs -/
def Wd (q n : Nat) (ds : List Nat) : Prop := ds.length = n ∧ ∀ d ∈ ds, d < q
theorem figs_of {q n : Nat} {ws : List (List Nat)} (hq : q ≤ 3) (h : ∀ w ∈ ws, Wd q n w) : Figs ws := fun w hw d hd => by
  have := (h w hw).2 d hd
  omega
/-- signs and lengths as the document bounds them -/
def QN (q n : Nat) : Prop := (q = 2 ∧ 1 ≤ n ∧ n ≤ 8) ∨ (q = 3 ∧ 1 ≤ n ∧ n ≤ 5)
theorem QN.le {q n : Nat} (h : QN q n) : q ≤ 3 ∧ n ≤ 8 := by
  rcases h with ⟨h1, h2, h3⟩ | ⟨h1, h2, h3⟩ <;> omega
end Wa
namespace Wa
open PySem PySem.Spec PyProof.Rows L2
/-! distances -/
def dist : List Nat → List Nat → Nat
  | x :: a, y :: b => (if x = y then 0 else 1) + dist a b
  | _, _ => 0
theorem dist_le : ∀ (a b : List Nat), dist a b ≤ a.length
  | [], _ => Nat.le_refl _
  | _ :: _, [] => Nat.zero_le _
  | x :: a, y :: b => by
    have := dist_le a b
    show (if x = y then 0 else 1) + dist a b ≤ a.length + 1
    split <;> omega
theorem dist_comm : ∀ (a b : List Nat), dist a b = dist b a
  | [], [] => rfl
  | [], _ :: _ => rfl
  | _ :: _, [] => rfl
  | x :: a, y :: b => by
    show (if x = y then 0 else 1) + dist a b = (if y = x then 0 else 1) + dist b a
    rw [dist_comm a b]
    by_cases e : x = y
    · rw [if_pos e, if_pos e.symm]
    · rw [if_neg e, if_neg fun z => e z.symm]
theorem dist_take : ∀ {a b : List Nat} {i x y : Nat}, a[i]? = some x → b[i]? = some y → dist (a.take (i + 1)) (b.take (i + 1)) = dist (a.take i) (b.take i) + (if x = y then 0 else 1)
  | [], _, _, _, _, h, _ => by simp at h
  | _ :: _, [], _, _, _, _, h => by simp at h
  | u :: a, v :: b, 0, x, y, h1, h2 => by
    cases h1
    cases h2
    show (if u = v then 0 else 1) + dist (a.take 0) (b.take 0) = 0 + _
    rw [List.take_zero, List.take_zero]
    show (if u = v then 0 else 1) + 0 = _
    omega
  | u :: a, v :: b, i + 1, x, y, h1, h2 => by
    have ih := dist_take (a := a) (b := b) (i := i) h1 h2
    show (if u = v then 0 else 1) + dist (a.take (i + 1)) (b.take (i + 1)) = (if u = v then 0 else 1) + dist (a.take i) (b.take i) + _
    rw [ih]
    omega
theorem sign_ne (c d : Nat) : decide ((V.str ⟨#[48 + c]⟩ : V) = V.str ⟨#[48 + d]⟩) = decide (c = d) := by
  by_cases e : c = d
  · rw [e, decide_eq_true rfl, decide_eq_true rfl]
  · rw [decide_eq_false e, decide_eq_false fun z => e (by
      injection z with z
      injection z with z
      have := congrArg (fun l => l.toList) z
      have h : [48 + c] = [48 + d] := this
      injection h with h _
      omega)]
end Wa
namespace Wa
open PySem PySem.Spec PyProof.Rows L2
/-! signs joined to words -/
theorem str_app_assoc (x y z : Str) : x ++ y ++ z = x ++ (y ++ z) := by
  apply str_ext
  rw [str_app, str_app, str_app, str_app, List.append_assoc]
theorem str_app_nil (x : Str) : x ++ ("" : Str) = x := by
  apply str_ext
  rw [str_app]
  have e : ("" : Str).cps.toList = [] := by decide +kernel
  rw [e, List.append_nil]
theorem join_signs : ∀ cs : List Nat, Txt.join ("" : Str) (cs.map fun c => wd [c]) = wd cs := by
  have h : ∀ cs : List Nat, Str.join ("" : Str) (cs.map fun c => wd [c]) = wd cs := by
    intro cs
    induction cs with
    | nil => exact (by decide +kernel : Str.join ("" : Str) [] = wd [])
    | cons c r ih =>
      cases r with
      | nil => rfl
      | cons d r' =>
        show wd [c] ++ ("" : Str) ++ Str.join ("" : Str) ((d :: r').map fun c => wd [c]) = _
        rw [ih, str_app_nil, wd_app]
        rfl
  intro cs
  show Builtin.Str.glued ("" : Str) _ = _
  rw [StrLaws.glued_eq_join]
  exact h cs
theorem joinOk_signs {cs : List Nat} (h : cs.length ≤ 1000) : JoinOk ("" : Str) (cs.map fun c => wd [c]) = true := by
  unfold JoinOk
  rw [StrLaws.joinTotal, Bool.not_eq_true']
  have e0 : ("" : Str).length = 0 := by decide +kernel
  have e1 : ((cs.map fun c => wd [c]).map (·.length)).sum = cs.length := by
    rw [List.map_map]
    have : ((fun x : Str => x.length) ∘ fun c => wd [c]) = fun _ => 1 := by
      funext c
      exact wd_len [c]
    rw [this, List.map_const', List.sum_replicate_nat]
    omega
  rw [e1, e0, Nat.mul_zero, Nat.add_zero]
  exact decide_eq_false (by
    have : sizeLine = 16777216 := by decide
    omega)
theorem int_fig {c : Nat} (h : c < 3) : PySem.intText? (⟨#[48 + c]⟩ : Str) = some ((c : Nat) : Int) := by
  match c, h with
  | 0, _ => decide +kernel
  | 1, _ => decide +kernel
  | 2, _ => decide +kernel
/-- the signs' texts of a list -/
theorem strs_snoc (cs : List Nat) (c : Nat) : (cs.map fun c => V.str (wd [c])) ++ [V.str (wd [c])] = (cs ++ [c]).map fun c => V.str (wd [c]) := by
  rw [List.map_append]
  rfl
def addW (q : Nat) (a b : List Nat) : List Nat := List.zipWith (fun x y => (x + y) % q) a b
def mulW (q t : Nat) (a : List Nat) : List Nat := a.map fun x => x * t % q
def addT (q t : Nat) (a b : List Nat) : List Nat := List.zipWith (fun x y => (x + t * y) % q) a b
theorem zip_take {α β γ : Type} {f : α → β → γ} : ∀ {a : List α} {b : List β} {i : Nat} {x : α} {y : β}, a[i]? = some x → b[i]? = some y → (List.zipWith f a b).take (i + 1) = (List.zipWith f a b).take i ++ [f x y] := fun {a b i x y} h1 h2 => by
  rw [List.take_add_one]
  have e : (List.zipWith f a b)[i]? = some (f x y) := by
    rw [List.getElem?_zipWith, h1, h2]
  rw [e]
  rfl
theorem addW_len {q : Nat} {a b : List Nat} (h : a.length = b.length) : (addW q a b).length = a.length := by
  unfold addW
  rw [List.length_zipWith]
  omega
theorem addT_len {q t : Nat} {a b : List Nat} (h : a.length = b.length) : (addT q t a b).length = a.length := by
  unfold addT
  rw [List.length_zipWith]
  omega
end Wa
namespace Wa
open PySem PySem.Spec PyProof.Rows L2
/-! words add up: the algebra -/
def zer (n : Nat) : List Nat := List.replicate n 0
theorem addW_comm (q : Nat) : ∀ a b : List Nat, addW q a b = addW q b a
  | [], [] => rfl
  | [], _ :: _ => rfl
  | _ :: _, [] => rfl
  | x :: a, y :: b => by
    have ih := addW_comm q a b
    show (x + y) % q :: addW q a b = (y + x) % q :: addW q b a
    rw [ih, Nat.add_comm]
theorem addW_assoc (q : Nat) : ∀ a b c : List Nat, addW q (addW q a b) c = addW q a (addW q b c)
  | [], _, _ => rfl
  | _ :: _, [], _ => rfl
  | _ :: _, _ :: _, [] => rfl
  | x :: a, y :: b, z :: c => by
    have ih := addW_assoc q a b c
    show ((x + y) % q + z) % q :: addW q (addW q a b) c = (x + (y + z) % q) % q :: addW q a (addW q b c)
    rw [ih, Nat.mod_add_mod, Nat.add_mod_mod, Nat.add_assoc]
theorem Wd.tail {q n x : Nat} {a : List Nat} (h : Wd q n (x :: a)) : Wd q (n - 1) a ∧ x < q := ⟨⟨by have := h.1; rw [List.length_cons] at this; omega, fun d hd => h.2 d (List.mem_cons_of_mem _ hd)⟩, h.2 x List.mem_cons_self⟩
theorem addW_zer {q : Nat} : ∀ {n : Nat} {a : List Nat}, Wd q n a → addW q a (zer n) = a
  | n, [], h => by cases n <;> rfl
  | 0, x :: a, h => by have := h.1; rw [List.length_cons] at this; omega
  | n + 1, x :: a, h => by
    have ⟨h1, h2⟩ := h.tail
    have ih := addW_zer (n := n) h1
    show (x + 0) % q :: addW q a (zer n) = x :: a
    rw [ih, Nat.add_zero, Nat.mod_eq_of_lt h2]
theorem addW_lt {q : Nat} (hq : 0 < q) : ∀ (a b : List Nat), ∀ d ∈ addW q a b, d < q
  | [], _, d, h => by cases h
  | _ :: _, [], d, h => by cases h
  | x :: a, y :: b, d, h => by
    have h : d ∈ (x + y) % q :: addW q a b := h
    rcases List.mem_cons.mp h with e | h
    · rw [e]; exact Nat.mod_lt _ hq
    · exact addW_lt hq a b d h
theorem addW_wd {q n : Nat} {a b : List Nat} (hq : 0 < q) (ha : Wd q n a) (hb : Wd q n b) : Wd q n (addW q a b) := ⟨by rw [addW_len (by rw [ha.1, hb.1]), ha.1], addW_lt hq a b⟩
theorem mulW_wd {q n t : Nat} {a : List Nat} (hq : 0 < q) (ha : Wd q n a) : Wd q n (mulW q t a) := ⟨by unfold mulW; rw [List.length_map]; exact ha.1, fun d hd => by
  obtain ⟨x, _, rfl⟩ := List.mem_map.mp hd
  exact Nat.mod_lt _ hq⟩
theorem zer_wd {q n : Nat} (hq : 0 < q) : Wd q n (zer n) := ⟨List.length_replicate, fun d hd => by rw [List.eq_of_mem_replicate hd]; exact hq⟩
theorem mulW_mul (q t u : Nat) : ∀ a : List Nat, addW q (mulW q t a) (mulW q u a) = mulW q ((t + u) % q) a
  | [] => rfl
  | x :: a => by
    have ih := mulW_mul q t u a
    show ((x * t % q) + (x * u % q)) % q :: addW q (mulW q t a) (mulW q u a) = x * ((t + u) % q) % q :: mulW q ((t + u) % q) a
    rw [ih, ← Nat.add_mod, ← Nat.mul_add, Nat.mul_mod_mod]
theorem mulW_zero (q : Nat) : ∀ a : List Nat, mulW q 0 a = zer a.length
  | [] => rfl
  | x :: a => by
    show x * 0 % q :: mulW q 0 a = 0 :: zer a.length
    rw [mulW_zero q a, Nat.mul_zero, Nat.zero_mod]
theorem mulW_one {q : Nat} : ∀ {n : Nat} {a : List Nat}, Wd q n a → mulW q 1 a = a
  | n, [], h => rfl
  | n, x :: a, h => by
    have ⟨h1, h2⟩ := h.tail
    show x * 1 % q :: mulW q 1 a = x :: a
    rw [mulW_one h1, Nat.mul_one, Nat.mod_eq_of_lt h2]
theorem addT_add (q t : Nat) : ∀ a b : List Nat, addT q t a b = addW q a (mulW q t b)
  | [], _ => rfl
  | _ :: _, [] => rfl
  | x :: a, y :: b => by
    show (x + t * y) % q :: addT q t a b = (x + (y * t % q)) % q :: addW q a (mulW q t b)
    rw [addT_add q t a b, Nat.add_mod_mod, Nat.mul_comm]
/-- what is added may be taken off -/
theorem addW_back {q n t : Nat} {a w : List Nat} (ht : t ≤ q) (ha : Wd q n a) (hw : Wd q n w) : addW q (addW q a (mulW q t w)) (mulW q (q - t) w) = a := by
  rw [addW_assoc, mulW_mul]
  have e : (t + (q - t)) % q = 0 := by rw [show t + (q - t) = q by omega, Nat.mod_self]
  rw [e, mulW_zero, hw.1, addW_zer ha]
theorem addW_cancel {q n t : Nat} {a b w : List Nat} (ht : t ≤ q) (ha : Wd q n a) (hb : Wd q n b) (hw : Wd q n w) (e : addW q a (mulW q t w) = addW q b (mulW q t w)) : a = b := by
  rw [← addW_back ht ha hw, e, addW_back ht hb hw]
theorem wd_snoc {q n : Nat} {w : List Nat} (h : Wd q (n + 1) w) : ∃ u s, w = u ++ [s] ∧ Wd q n u ∧ s < q := by
  have hne : w ≠ [] := fun z => by rw [z] at h; cases h.1
  refine ⟨w.dropLast, w.getLast hne, (List.dropLast_concat_getLast hne).symm, ⟨by rw [List.length_dropLast, h.1]; rfl, fun d hd => h.2 d ((List.dropLast_sublist w).subset hd)⟩, h.2 _ (List.getLast_mem hne)⟩
theorem allD_all {q : Nat} : ∀ {n : Nat} {w : List Nat}, Wd q n w → w ∈ allD q n
  | 0, w, h => by
    have e : w = [] := List.eq_nil_of_length_eq_zero h.1
    rw [e]
    exact List.mem_singleton.mpr rfl
  | n + 1, w, h => by
    obtain ⟨u, s, rfl, hu, hs⟩ := wd_snoc h
    exact List.mem_flatMap.mpr ⟨u, allD_all hu, List.mem_map.mpr ⟨s, List.mem_range.mpr hs, rfl⟩⟩
/-- a list of words that is closed -/
structure Sub (q n : Nat) (S : List (List Nat)) : Prop where
  wd : ∀ a ∈ S, Wd q n a
  nd : S.Nodup
  zero : zer n ∈ S
  add : ∀ a ∈ S, ∀ b ∈ S, addW q a b ∈ S
theorem mulW_succ {q n t : Nat} {a : List Nat} (hq : 2 ≤ q) (ha : Wd q n a) : mulW q ((t + 1) % q) a = addW q (mulW q t a) a := by
  have e : a = mulW q 1 a := (mulW_one ha).symm
  have h := mulW_mul q t 1 a
  rw [← e] at h
  exact h.symm
theorem mod_mul (q t : Nat) : ∀ (a : List Nat), mulW q (t % q) a = mulW q t a
  | [] => rfl
  | x :: a => by
    show x * (t % q) % q :: mulW q (t % q) a = x * t % q :: mulW q t a
    rw [mod_mul q t a, Nat.mul_mod_mod]
theorem Sub.mul {q n : Nat} {S : List (List Nat)} (h : Sub q n S) (hq : 2 ≤ q) {a : List Nat} (ha : a ∈ S) : ∀ t, mulW q t a ∈ S
  | 0 => by rw [mulW_zero, (h.wd a ha).1]; exact h.zero
  | t + 1 => by
    rw [← mod_mul, mulW_succ hq (h.wd a ha)]
    exact h.add _ (h.mul hq ha t) _ ha
/-- q is 2 or 3: some times of a word that is in it bring the word in -/
theorem Sub.unmul {q n : Nat} {S : List (List Nat)} (h : Sub q n S) (hq : q = 2 ∨ q = 3) {s : Nat} {w : List Nat} (hw : Wd q n w) (h0 : s % q ≠ 0) (hs : mulW q s w ∈ S) : w ∈ S := by
  have q2 : 2 ≤ q := by omega
  have twice : ∀ t, mulW q (s * t % q) w ∈ S := fun t => by
    induction t with
    | zero => rw [Nat.mul_zero, Nat.zero_mod, mulW_zero, hw.1]; exact h.zero
    | succ t ih =>
      have e : s * (t + 1) % q = ((s * t % q) + s) % q := by rw [Nat.mod_add_mod, Nat.mul_succ]
      rw [e, ← mulW_mul]
      exact h.add _ ih _ hs
  have key : ∃ t, s * t % q = 1 := by
    rcases hq with e | e
    · subst e
      refine ⟨1, ?_⟩
      omega
    · subst e
      rcases (show s % 3 = 1 ∨ s % 3 = 2 by omega) with e | e
      · exact ⟨1, by omega⟩
      · exact ⟨2, by omega⟩
  obtain ⟨t, ht⟩ := key
  have := twice t
  rw [ht, mulW_one hw] at this
  exact this
/-- the list with one word more, as the law makes it -/
def ext (q : Nat) (S : List (List Nat)) (w : List Nat) : List (List Nat) := (List.range q).flatMap fun t => S.map fun a => addW q a (mulW q t w)
theorem mem_ext {q : Nat} {S : List (List Nat)} {w x : List Nat} : x ∈ ext q S w ↔ ∃ t, t < q ∧ ∃ a ∈ S, addW q a (mulW q t w) = x := by
  unfold ext
  rw [List.mem_flatMap]
  constructor
  · rintro ⟨t, ht, hx⟩
    obtain ⟨a, ha, e⟩ := List.mem_map.mp hx
    exact ⟨t, List.mem_range.mp ht, a, ha, e⟩
  · rintro ⟨t, ht, a, ha, e⟩
    exact ⟨t, List.mem_range.mpr ht, List.mem_map.mpr ⟨a, ha, e⟩⟩
theorem ext_apart {q n : Nat} {S : List (List Nat)} (h : Sub q n S) (hq : q = 2 ∨ q = 3) {w : List Nat} (hw : Wd q n w) (hn : w ∉ S) {t u : Nat} (ht : t < q) (hu : u < q) {a b : List Nat} (ha : a ∈ S) (hb : b ∈ S) (e : addW q a (mulW q t w) = addW q b (mulW q u w)) : t = u := by
  refine Classical.byContradiction fun ne => hn ?_
  have q0 : 0 < q := by omega
  have q2 : 2 ≤ q := by omega
  -- a = b + s w
  have e1 : a = addW q b (mulW q ((u + (q - t)) % q) w) := by
    rw [← mulW_mul, ← addW_assoc, ← e, addW_back (by omega) (h.wd a ha) hw]
  have e2 : mulW q ((u + (q - t)) % q) w = addW q a (mulW q (q - 1) b) := by
    have hb' := h.wd b hb
    have hm : Wd q n (mulW q ((u + (q - t)) % q) w) := mulW_wd q0 hw
    have e3 := addW_back (q := q) (n := n) (t := 1) (w := b) (by omega) hm hb'
    rw [mulW_one hb'] at e3
    rw [addW_comm q b] at e1
    rw [← e1] at e3
    exact e3.symm
  refine h.unmul hq (s := (u + (q - t)) % q) hw ?_ ?_
  · rw [Nat.mod_mod]
    rcases Nat.lt_or_gt_of_ne ne with z | z
    · rw [Nat.mod_eq_sub_mod (by omega), Nat.mod_eq_of_lt (by omega)]
      omega
    · rw [Nat.mod_eq_of_lt (by omega)]
      omega
  · rw [e2]
    exact h.add _ ha _ (h.mul q2 hb _)
theorem nodup_map_in {α β : Type} {f : α → β} : ∀ {l : List α}, l.Nodup → (∀ a ∈ l, ∀ b ∈ l, f a = f b → a = b) → (l.map f).Nodup
  | [], _, _ => List.nodup_nil
  | x :: l, h, hi => by
    have h' := List.nodup_cons.mp h
    rw [List.map_cons, List.nodup_cons]
    refine ⟨fun hm => ?_, nodup_map_in h'.2 fun a ha b hb => hi a (List.mem_cons_of_mem _ ha) b (List.mem_cons_of_mem _ hb)⟩
    obtain ⟨y, hy, e⟩ := List.mem_map.mp hm
    have := hi y (List.mem_cons_of_mem _ hy) x List.mem_cons_self e
    rw [this] at hy
    exact h'.1 hy
theorem nodup_flat {α β : Type} {f : α → List β} : ∀ {l : List α}, l.Nodup → (∀ a ∈ l, (f a).Nodup) → (∀ a ∈ l, ∀ b ∈ l, ∀ x, x ∈ f a → x ∈ f b → a = b) → (l.flatMap f).Nodup
  | [], _, _, _ => List.nodup_nil
  | x :: l, h, h1, h2 => by
    have h' := List.nodup_cons.mp h
    rw [List.flatMap_cons, List.nodup_append]
    refine ⟨h1 x List.mem_cons_self, nodup_flat h'.2 (fun a ha => h1 a (List.mem_cons_of_mem _ ha)) fun a ha b hb => h2 a (List.mem_cons_of_mem _ ha) b (List.mem_cons_of_mem _ hb), fun y hy z hz e => ?_⟩
    obtain ⟨b, hb, hzb⟩ := List.mem_flatMap.mp hz
    have := h2 x List.mem_cons_self b (List.mem_cons_of_mem _ hb) y hy (by rw [e]; exact hzb)
    rw [this] at h'
    exact h'.1 hb
theorem ext_sub {q n : Nat} {S : List (List Nat)} (h : Sub q n S) (hq : q = 2 ∨ q = 3) {w : List Nat} (hw : Wd q n w) (hn : w ∉ S) : Sub q n (ext q S w) := by
  have q0 : 0 < q := by omega
  refine ⟨fun x hx => ?_, ?_, ?_, fun x hx y hy => ?_⟩
  · obtain ⟨t, ht, a, ha, rfl⟩ := mem_ext.mp hx
    exact addW_wd q0 (h.wd a ha) (mulW_wd q0 hw)
  · refine nodup_flat List.nodup_range (fun t ht => nodup_map_in h.nd fun a ha b hb e => addW_cancel (Nat.le_of_lt (List.mem_range.mp ht)) (h.wd a ha) (h.wd b hb) hw e) fun t ht u hu x hx hy => ?_
    obtain ⟨a, ha, e1⟩ := List.mem_map.mp hx
    obtain ⟨b, hb, e2⟩ := List.mem_map.mp hy
    exact ext_apart h hq hw hn (List.mem_range.mp ht) (List.mem_range.mp hu) ha hb (e1.trans e2.symm)
  · exact mem_ext.mpr ⟨0, q0, zer n, h.zero, by rw [mulW_zero, hw.1, addW_zer (zer_wd q0)]⟩
  · obtain ⟨t, ht, a, ha, rfl⟩ := mem_ext.mp hx
    obtain ⟨u, hu, b, hb, rfl⟩ := mem_ext.mp hy
    refine mem_ext.mpr ⟨(t + u) % q, Nat.mod_lt _ q0, addW q a b, h.add a ha b hb, ?_⟩
    rw [← mulW_mul, addW_assoc, addW_assoc, ← addW_assoc q b, addW_comm q b, addW_assoc q (mulW q t w)]
theorem ext_old {q n : Nat} {S : List (List Nat)} (h : Sub q n S) (hq : 0 < q) {w : List Nat} (hw : Wd q n w) : ∀ a ∈ S, a ∈ ext q S w := fun a ha => mem_ext.mpr ⟨0, hq, a, ha, by rw [mulW_zero, hw.1, addW_zer (h.wd a ha)]⟩
theorem ext_new {q n : Nat} {S : List (List Nat)} (h : Sub q n S) (hq : 2 ≤ q) {w : List Nat} (hw : Wd q n w) : w ∈ ext q S w := mem_ext.mpr ⟨1, by omega, zer n, h.zero, by rw [mulW_one hw, addW_comm, addW_zer hw]⟩
/-- one word more, where it is not in -/
def stp (q : Nat) (S : List (List Nat)) (w : List Nat) : List (List Nat) := if w ∈ S then S else ext q S w
/-- all sums of a row of words -/
def sums (q n : Nat) (ws : List (List Nat)) : List (List Nat) := ws.foldl (stp q) [zer n]
theorem sub_zero {q n : Nat} (hq : 0 < q) : Sub q n [zer n] := ⟨fun a ha => by rw [List.mem_singleton.mp ha]; exact zer_wd hq, List.nodup_cons.mpr ⟨by simp, List.nodup_nil⟩, List.mem_singleton.mpr rfl, fun a ha b hb => by
  rw [List.mem_singleton.mp ha, List.mem_singleton.mp hb, addW_zer (zer_wd hq)]
  exact List.mem_singleton.mpr rfl⟩
theorem stp_sub {q n : Nat} {S : List (List Nat)} (h : Sub q n S) (hq : q = 2 ∨ q = 3) {w : List Nat} (hw : Wd q n w) : Sub q n (stp q S w) := by
  unfold stp
  split
  · exact h
  · exact ext_sub h hq hw ‹_›
theorem fold_sub {q n : Nat} (hq : q = 2 ∨ q = 3) : ∀ {ws : List (List Nat)} {S : List (List Nat)}, Sub q n S → (∀ w ∈ ws, Wd q n w) → Sub q n (ws.foldl (stp q) S)
  | [], _, h, _ => h
  | w :: ws, S, h, hw => fold_sub hq (ws := ws) (stp_sub h hq (hw w List.mem_cons_self)) fun u hu => hw u (List.mem_cons_of_mem _ hu)
theorem sums_sub {q n : Nat} (hq : q = 2 ∨ q = 3) {ws : List (List Nat)} (hw : ∀ w ∈ ws, Wd q n w) : Sub q n (sums q n ws) := fold_sub hq (sub_zero (by omega)) hw
theorem stp_old {q n : Nat} {S : List (List Nat)} (h : Sub q n S) (hq : q = 2 ∨ q = 3) {w : List Nat} (hw : Wd q n w) : ∀ a ∈ S, a ∈ stp q S w := fun a ha => by
  unfold stp
  split
  · exact ha
  · exact ext_old h (by omega) hw a ha
theorem stp_new {q n : Nat} {S : List (List Nat)} (h : Sub q n S) (hq : q = 2 ∨ q = 3) {w : List Nat} (hw : Wd q n w) : w ∈ stp q S w := by
  unfold stp
  split
  · assumption
  · exact ext_new h (by omega) hw
theorem fold_old {q n : Nat} (hq : q = 2 ∨ q = 3) : ∀ {ws : List (List Nat)} {S : List (List Nat)}, Sub q n S → (∀ w ∈ ws, Wd q n w) → (∀ a ∈ S, a ∈ ws.foldl (stp q) S) ∧ ∀ w ∈ ws, w ∈ ws.foldl (stp q) S
  | [], _, _, _ => ⟨fun _ h => h, fun w h => absurd h (by simp)⟩
  | u :: ws, S, h, hw => by
    have hu := hw u List.mem_cons_self
    obtain ⟨h1, h2⟩ := fold_old hq (ws := ws) (stp_sub h hq hu) fun x hx => hw x (List.mem_cons_of_mem _ hx)
    refine ⟨fun a ha => h1 a (stp_old h hq hu a ha), fun w hm => ?_⟩
    rcases List.mem_cons.mp hm with e | hm
    · rw [e]; exact h1 u (stp_new h hq hu)
    · exact h2 w hm
/-- the least closed list: what holds the words holds their sums -/
theorem fold_least {q n : Nat} (hq : 2 ≤ q) {T : List (List Nat)} (hT : Sub q n T) : ∀ {ws : List (List Nat)} {S : List (List Nat)}, (∀ a ∈ S, a ∈ T) → (∀ w ∈ ws, w ∈ T) → ∀ a ∈ ws.foldl (stp q) S, a ∈ T
  | [], _, h, _ => h
  | w :: ws, S, h, hw => fold_least hq hT (ws := ws) (S := stp q S w) (fun a ha => by
      unfold stp at ha
      split at ha
      · exact h a ha
      · obtain ⟨t, _, b, hb, rfl⟩ := mem_ext.mp ha
        exact hT.add _ (h b hb) _ (hT.mul hq (hw w List.mem_cons_self) t)) fun u hu => hw u (List.mem_cons_of_mem _ hu)
theorem sums_mono {q n : Nat} (hq : q = 2 ∨ q = 3) {ws us : List (List Nat)} (hw : ∀ w ∈ ws, Wd q n w) (hu : ∀ w ∈ us, Wd q n w) (h : ∀ w ∈ us, w ∈ sums q n ws) : ∀ a ∈ sums q n us, a ∈ sums q n ws :=
  fold_least (by omega) (sums_sub hq hw) (fun a ha => by rw [List.mem_singleton.mp ha]; exact (sums_sub hq hw).zero) h
theorem sums_has {q n : Nat} (hq : q = 2 ∨ q = 3) {ws : List (List Nat)} (hw : ∀ w ∈ ws, Wd q n w) : ∀ w ∈ ws, w ∈ sums q n ws := (fold_old hq (sub_zero (by omega)) hw).2
theorem perm_of_same {α : Type} [DecidableEq α] {a b : List α} (ha : a.Nodup) (hb : b.Nodup) (h : ∀ x, x ∈ a ↔ x ∈ b) : a.Perm b := (List.perm_ext_iff_of_nodup ha hb).mpr h
/-- the order of the row does not matter -/
theorem sums_perm {q n : Nat} (hq : q = 2 ∨ q = 3) {ws us : List (List Nat)} (hw : ∀ w ∈ ws, Wd q n w) (h : ∀ w, w ∈ us ↔ w ∈ ws) : (sums q n us).Perm (sums q n ws) := by
  have hu : ∀ w ∈ us, Wd q n w := fun w hm => hw w ((h w).mp hm)
  refine perm_of_same (sums_sub hq hu).nd (sums_sub hq hw).nd fun x => ⟨sums_mono hq hw hu (fun w hm => sums_has hq hw w ((h w).mp hm)) x, sums_mono hq hu hw (fun w hm => sums_has hq hu w ((h w).mpr hm)) x⟩
/-- the list in the program's order -/
theorem ext_split {q n : Nat} {S : List (List Nat)} (h : ∀ a ∈ S, Wd q n a) {w : List Nat} (hw : Wd q n w) {k : Nat} (hq : q = k + 1) : ext q S w = S ++ ((List.range k).map fun t => mulW q (t + 1) w).flatMap fun m => S.map fun a => addW q a m := by
  unfold ext
  rw [hq, List.range_succ_eq_map, List.flatMap_cons]
  have e0 : (S.map fun a => addW (k + 1) a (mulW (k + 1) 0 w)) = S := by
    rw [mulW_zero, hw.1]
    have : ∀ l : List (List Nat), (∀ a ∈ l, Wd q n a) → l.map (fun a => addW (k + 1) a (zer n)) = l := by
      intro l
      induction l with
      | nil => intro _; rfl
      | cons a l ih =>
        intro hl
        rw [List.map_cons, ih fun x hx => hl x (List.mem_cons_of_mem _ hx), ← hq, addW_zer (hl a List.mem_cons_self)]
    exact this S h
  rw [e0, List.flatMap_map, List.flatMap_map]
theorem len_sub {α : Type} [DecidableEq α] : ∀ {a b : List α}, a.Nodup → (∀ x ∈ a, x ∈ b) → a.length ≤ b.length
  | [], _, _, _ => Nat.zero_le _
  | x :: a, b, h, hs => by
    have h' := List.nodup_cons.mp h
    have hx := hs x List.mem_cons_self
    have ih := len_sub (a := a) (b := b.erase x) h'.2 fun y hy => (List.mem_erase_of_ne fun e => h'.1 (by rw [← e]; exact hy)).mpr (hs y (List.mem_cons_of_mem _ hy))
    rw [List.length_erase_of_mem hx] at ih
    have := List.length_pos_of_mem hx
    rw [List.length_cons]
    omega
/-- how many -/
theorem Sub.len_le {q n : Nat} {S : List (List Nat)} (h : Sub q n S) : S.length ≤ q ^ n := by
  have h1 : ∀ a ∈ S, a ∈ allD q n := fun a ha => allD_all (h.wd a ha)
  rw [← allD_len]
  exact len_sub h.nd h1
end Wa
/-! numbers in bits as texts -/
namespace Wa
open PySem PySem.Spec PyProof.Rows L2 Builtin
theorem gives_after_typeNameOfCut {k0 : Nat} {v : Value} {T : String} {k : String → Sem Fin} {m : Made} (hT : ∀ s : Shared, s.TypeIs v T)
    (hn : (Value.type T == Value.type "builtin_function_or_method") = false) (g : ∀ n, Gives (k n) m) : Gives (do let n ← typeNameOfCut k0 v; k n) m := fun prog w A R s hq => by
  unfold typeNameOfCut shownTypeOf
  refine wpAny_bind (wpAny_bind (wpAny_bind (wpAny_typeOf (hT s) ?_)))
  simp only [hn, Bool.false_eq_true, if_false]
  refine wpAny_pure ?_
  show wpAny _ _ (pure _) _ _ s
  exact wpAny_pure (g _ prog w A R s hq)
/-- the bits of a number as a text -/
def bitsS (n : Nat) : Str := ⟨((Nat.toDigits 2 n).map Char.toNat).toArray⟩
theorem field_b {ds : List Nat} (h : ds ≠ []) : (⟨(List.replicate ((-1 : Int) - ((([] : List Nat).length : Int) + (([] : List Nat).length : Int) + (([] : List Nat).length : Int)) - ((if ds.isEmpty = true then [] else List.replicate ((0 : Int).toNat - ds.length) 48 ++ ds).length : Int)).toNat 32 ++ [] ++ [] ++ List.replicate 0 32 ++ (if ds.isEmpty = true then [] else List.replicate ((0 : Int).toNat - ds.length) 48 ++ ds) ++ [] ++ List.replicate 0 32).toArray⟩ : Str) = ⟨ds.toArray⟩ := by
  have e1 : ds.isEmpty = false := by cases ds with
    | nil => exact absurd rfl h
    | cons _ _ => rfl
  rw [e1]
  have e2 : (0 : Int).toNat - ds.length = 0 := by omega
  simp only [Bool.false_eq_true, if_false, e2, List.replicate_zero, List.nil_append, List.append_nil, List.length_nil]
  have e3 : ((-1 : Int) - (((0 : Nat) : Int) + ((0 : Nat) : Int) + ((0 : Nat) : Int)) - (ds.length : Int)).toNat = 0 := by omega
  rw [e3]
  rfl
theorem format_b_eq (n : Nat) (t u : Tok) : «int.__format__» ⟨[.int n t, .str ⟨#[98]⟩ u], []⟩ = (typeNameOf (.str ⟨#[98]⟩ u) >>= fun _ => typeNameOfCut 200 (.int n t) >>= fun _ =>
    retStr ⟨(List.replicate ((-1 : Int) - ((([] : List Nat).length : Int) + (([] : List Nat).length : Int) + (([] : List Nat).length : Int)) - ((if ((Nat.toDigits 2 n).map Char.toNat).isEmpty = true then [] else List.replicate ((0 : Int).toNat - ((Nat.toDigits 2 n).map Char.toNat).length) 48 ++ ((Nat.toDigits 2 n).map Char.toNat)).length : Int)).toNat 32 ++ [] ++ [] ++ List.replicate 0 32 ++ (if ((Nat.toDigits 2 n).map Char.toNat).isEmpty = true then [] else List.replicate ((0 : Int).toNat - ((Nat.toDigits 2 n).map Char.toNat).length) 48 ++ ((Nat.toDigits 2 n).map Char.toNat)) ++ [] ++ List.replicate 0 32).toArray⟩) := by
  kernel_rfl
theorem toDigits_ne (n : Nat) : (Nat.toDigits 2 n).map Char.toNat ≠ [] := fun h => by
  have h1 := List.map_eq_nil_iff.mp h
  have h2 := Nat.length_toDigits_pos (b := 2) (n := n)
  rw [h1] at h2
  exact absurd h2 (by decide)
theorem gives_format_b (n : Nat) (t u : Tok) : Gives («int.__format__» ⟨[.int n t, .str ("b" : Str) u], []⟩) (.str (bitsS n)) := by
  have eb : ("b" : Str) = ⟨#[98]⟩ := by decide +kernel
  rw [eb, format_b_eq]
  refine gives_after_typeNameOf (T := "str") (fun s => typeIs_str s _ _) (by decide) fun _ => ?_
  refine gives_after_typeNameOfCut (T := "int") (fun s => typeIs_int s _ _) (by decide) fun name => ?_
  rw [field_b (toDigits_ne n)]
  exact .of_eq rfl
section
variable {X : Cx}
/-- {x:b} -/
def tFmtB (te : TE) : TE := fun σ H Q => te σ H fun x H1 => ∃ n : Nat, x = .int n ∧ (bitsS n).length ≤ sizeLine ∧ Q (.str (bitsS n)) H1
theorem pe_fmtB {e : Expr} {te : TE} {k : Nat} {p p2 pos : Pos} (he : PE X e te) : PE X (.FormattedValue e (-1) (some (.JoinedStr [.Constant (.str ("b" : Str)) k p] p2)) pos) (tFmtB te) := by
  refine ⟨fun pins s σ H Q I h => ?_⟩
  refine wpAny_FormattedValue_spec (thn (he.run pins s σ H _ I h) fun v s1 hv => ?_)
  obtain ⟨x, H1, I1, r1, n, rfl, hz, q⟩ := hv
  obtain ⟨t, rfl⟩ := r1
  refine thn ((pe_joined1 pe_str).run pins s1 σ H1 (fun y H2 => y = .str ("b" : Str) ∧ H2 = H1) I1 ⟨rfl, rfl⟩) fun v2 s2 hv2 => ?_
  obtain ⟨y, H2, I2, r2, rfl, rfl⟩ := hv2
  obtain ⟨t2, rfl⟩ := r2
  refine ⟨_, t2, rfl, ?_⟩
  exact wpAny_formatField_spec (T := "int") (by decide +kernel) (fun s' => typeIs_int s' _ _) F.slot_int_format F.entry_int_format (fun a b => F.args_int_format_2 a b) (fun u => gives_format_b n t u) ⟨.str (bitsS n), H2, I2.tok _, ⟨_, rfl⟩, q⟩ (by decide +kernel) hz
end
end Wa
namespace Wa
open PySem PySem.Spec PyProof.Rows L2
/-! sorted of texts, any number of them -/
def tv : Value → Str
  | .str x _ => x
  | _ => ⟨#[]⟩
def ltTv (v u : Value) : Bool := decide ((tv v).cps.toList < (tv u).cps.toList)
theorem lex_asymm {a b : List Nat} (h : a < b) : ¬ b < a := fun h' => List.lt_irrefl a (List.lt_trans h h')
theorem swo_text : SrtO.Swo ltTv := by
  refine ⟨fun x y h => decide_eq_false (lex_asymm (of_decide_eq_true h)), fun x y z h1 h2 => ?_⟩
  have a := of_decide_eq_false h1
  have b := of_decide_eq_false h2
  refine decide_eq_false fun hc => ?_
  exact absurd hc (List.not_lt.mpr (List.le_trans (List.not_lt.mp a) (List.not_lt.mp b)))
theorem texts_mem : ∀ {vs : List Value} {ss : List Str}, StrsAre vs ss → ∀ v ∈ vs, ∃ x t, v = Value.str x t
  | _, _, .nil, v, h => absurd h (by simp)
  | _, _, .cons n t r, v, h => by
    rcases List.mem_cons.mp h with e | h
    · exact ⟨n, t, e⟩
    · exact texts_mem r v h
theorem texts_tv : ∀ {vs : List Value}, (∀ v ∈ vs, ∃ x t, v = Value.str x t) → StrsAre vs (vs.map tv)
  | [], _ => .nil
  | v :: vs, h => by
    obtain ⟨x, t, e⟩ := h v List.mem_cons_self
    subst e
    exact .cons x t (texts_tv fun u hu => h u (List.mem_cons_of_mem _ hu))
theorem tv_texts : ∀ {vs : List Value} {ss : List Str}, StrsAre vs ss → vs.map tv = ss
  | _, _, .nil => rfl
  | _, _, .cons n t r => congrArg (n :: ·) (tv_texts r)
section
variable {prog : Program} {w : World} {A : Around} {s : Shared}
theorem text_cmp {vs : List Value} {ss : List Str} (hI : StrsAre vs ss) : SrtO.Cmp prog w A s oneType' (fun p => p.1 ∈ vs) (SrtO.lt2 ltTv) := by
  intro p q hm hm'
  obtain ⟨a, t, e⟩ := texts_mem hI _ hm
  obtain ⟨b, u, e'⟩ := texts_mem hI _ hm'
  show wpAny (model prog w) A (keyLt' oneType' p.1 q.1) (fun r s' => s' = s ∧ r = ltTv p.1 q.1) (fun _ _ => False) s
  rw [e, e', keyLt'_oneType]
  exact oneLt_str ⟨rfl, rfl⟩
theorem texts_sortable {a : Addr} {vs : List Value} {ss : List Str} (hI : StrsAre vs ss) (h2 : 2 ≤ vs.length) : SrtO.SortableO prog w A s a vs ltTv := by
  intro h' _
  refine ⟨oneType', fun Q E hq => ?_, text_cmp hI⟩
  match vs, hI, h2 with
  | v1 :: v2 :: rest, hI, _ =>
    rw [keyKind_strs hI]
    exact wpAny_pure hq
  | [], _, h => exact absurd h (by decide)
  | [v], _, h => exact absurd h (by simp)
end
/-- rising, by the signs' codes -/
def Rising (ys : List Str) : Prop := ys.Pairwise fun a b => ¬ b.cps.toList < a.cps.toList
def rSortedT (K : PySem.W.Frag) : List V → Hp → VK → Prop := fun vs H Q => ∃ (a : Addr) (xs : List Str), vs = [V.ref a] ∧ SqL K H a (xs.map V.str) ∧ ∀ (ys : List Str) (p : Addr), ys.Perm xs → Rising ys → H p = none → Q (.ref p) (upd H p (.lst (ys.map V.str)))
theorem cr_sortedT {X : Cx} : CallR X (.builtin "sorted") (rSortedT X.K) := by
  intro pins s σ H vs us Q I r h
  obtain ⟨a, xs, rfl, hs, q⟩ := h
  obtain ⟨its, rv, hl, hz⟩ := I.list hs
  rw [Vals.ref1 r]
  have hi := rv.strs
  refine SrtO.sorted_ord swo_text hl.isList (by rw [← rv.length]; exact hz) (fun h2 h₁ a' _ _ => texts_sortable hi h2) fun out h1 h2 => ?_
  have k1 : StrsAre out (out.map tv) := texts_tv fun v hv => texts_mem hi v (h2.perm.mem_iff.mp hv)
  have k2 : (out.map tv).Perm xs := by
    have q := h2.perm.map tv
    rw [tv_texts hi] at q
    exact q
  have k3 : Rising (out.map tv) := List.pairwise_map.mpr (h1.imp fun {x y} h => of_decide_eq_false h)
  obtain ⟨ep, he'⟩ := PyProof.Rows.sortedAll_at s.heap its out.toArray
  have hlen : ((out.map tv).map V.str).length ≤ sizeLine := by
    rw [List.length_map, k2.length_eq]
    rw [List.length_map] at hz
    exact hz
  exact ⟨.ref _, upd H (s.heap.objs.size + 1) (.lst ((out.map tv).map V.str)), I.laid (t' := s.toks) (fun _ _ => PyProof.Rows.sortedAll_old) (Nat.le_succ _) ⟨hlen, out, ep, vals_of_strs k1, he'⟩, rfl, q _ _ k2 k3 (I.hok.fresh (Nat.le_succ _))⟩
/-- two rising lists of the same texts are one -/
theorem rising_eq : ∀ {a b : List Str}, Rising a → Rising b → a.Perm b → a = b
  | [], b, _, _, h => (List.Perm.nil_eq h)
  | x :: a, [], _, _, h => by cases h.length_eq
  | x :: a, y :: b, ha, hb, h => by
    have ha' := List.pairwise_cons.mp ha
    have hb' := List.pairwise_cons.mp hb
    have e : x = y := by
      have h1 : x ∈ y :: b := h.mem_iff.mp List.mem_cons_self
      have h2 : y ∈ x :: a := h.mem_iff.mpr List.mem_cons_self
      rcases List.mem_cons.mp h1 with e | h1
      · exact e
      · rcases List.mem_cons.mp h2 with e | h2
        · exact e.symm
        · have c1 := hb'.1 x h1
          have c2 := ha'.1 y h2
          exact str_ext (List.le_antisymm (List.not_lt.mp c2) (List.not_lt.mp c1))
    subst e
    rw [rising_eq ha'.2 hb'.2 (List.Perm.cons_inv h)]
end Wa
namespace Wa
open PySem PySem.Spec PyProof.Rows L2
/-! spans, rising -/
def tws (ws : List (List Nat)) : List Str := ws.map wd
theorem tws_v (ws : List (List Nat)) : (tws ws).map V.str = vws ws := by
  unfold tws vws
  rw [List.map_map]
  rfl
/-- a rising list of the words of S -/
def RisW (R S : List (List Nat)) : Prop := R.Perm S ∧ Rising (tws R)
theorem risW_of {ys : List Str} {S : List (List Nat)} (h : ys.Perm (tws S)) (hr : Rising ys) : ∃ R, ys = tws R ∧ RisW R S := by
  obtain ⟨R, e, hp⟩ : ∃ R, ys = tws R ∧ R.Perm S := by
    have key : ∀ (ys : List Str), (∀ y ∈ ys, ∃ w, y = wd w) → ∃ R, ys = tws R := by
      intro ys
      induction ys with
      | nil => exact fun _ => ⟨[], rfl⟩
      | cons y ys ih =>
        intro hy
        obtain ⟨w, e⟩ := hy y List.mem_cons_self
        obtain ⟨R, e2⟩ := ih fun z hz => hy z (List.mem_cons_of_mem _ hz)
        exact ⟨w :: R, by rw [e, e2]; rfl⟩
    obtain ⟨R, e⟩ := key ys fun y hy => by
      obtain ⟨w, _, e⟩ := List.mem_map.mp (h.mem_iff.mp hy)
      exact ⟨w, e.symm⟩
    refine ⟨R, e, ?_⟩
    rw [e] at h
    rw [List.perm_iff_count]
    intro a
    have := (List.perm_iff_count.mp h) (wd a)
    have cnt : ∀ l : List (List Nat), (tws l).count (wd a) = l.count a := by
      intro l
      induction l with
      | nil => rfl
      | cons x l ih =>
        show (wd x :: tws l).count (wd a) = _
        rw [List.count_cons, List.count_cons, ih]
        by_cases e : x = a
        · rw [e]
          simp
        · have e' : ¬ wd x = wd a := fun z => e (wd_inj z)
          rw [if_neg (by simp [e']), if_neg (by simp [e])]
    rw [cnt, cnt] at this
    exact this
  exact ⟨R, e, hp, by rw [← e]; exact hr⟩
theorem risW_eq {R1 R2 S1 S2 : List (List Nat)} (h1 : RisW R1 S1) (h2 : RisW R2 S2) (hp : S1.Perm S2) : R1 = R2 := by
  have e : tws R1 = tws R2 := rising_eq h1.2 h2.2 (((h1.1.trans hp).trans h2.1.symm).map wd)
  have inj : ∀ a b : List (List Nat), tws a = tws b → a = b := by
    intro a
    induction a with
    | nil => intro b hb; cases b with
      | nil => rfl
      | cons _ _ => cases hb
    | cons x a ih => intro b hb; cases b with
      | nil => cases hb
      | cons y b =>
        have h : wd x :: tws a = wd y :: tws b := hb
        injection h with h1 h2
        rw [wd_inj h1, ih b h2]
  exact inj _ _ e
end Wa
namespace Wa
open PySem PySem.Spec PyProof.Rows L2
/-! turned about -/
def turned (ws : List (List Nat)) (i : Nat) : List (List Nat) := if i = 1 then ws.reverse else ws
theorem turned_mem {ws : List (List Nat)} {i : Nat} : ∀ w, w ∈ turned ws i ↔ w ∈ ws := fun w => by
  unfold turned
  split
  · exact List.mem_reverse
  · exact Iff.rfl
theorem turned_len {ws : List (List Nat)} {i : Nat} : (turned ws i).length = ws.length := by
  unfold turned
  split
  · exact List.length_reverse
  · rfl
theorem vws_rev (ws : List (List Nat)) : (vws ws).reverse = vws ws.reverse := by
  unfold vws
  rw [List.map_reverse]
theorem vws_drop (ws : List (List Nat)) : (vws ws).dropLast = vws ws.dropLast := by
  unfold vws
  rw [List.map_dropLast]
theorem vws_tail (ws : List (List Nat)) : (vws ws).eraseIdx 0 = vws ws.tail := by
  cases ws <;> rfl
end Wa
namespace Wa
open PySem PySem.Spec PyProof.Rows L2
/-! comprehensions by what each turn gives -/
theorem Gr.alst {H H' : Hp} (g : Gr H H') {a : Addr} {xs : List V} (h : H a = some (.lst xs)) : H' a = some (.lst xs) := g.lst h
/-- what an iterator hands out while what stood stands -/
structure Hands (J : It) (H1 : Hp) (n : Nat) (R : Nat → Hp → V → Prop) : Prop where
  go : ∀ i H', i < n → Gr H1 H' → J.go i H'
  yld : ∀ i H' x H'', i < n → Gr H1 H' → J.yld i H' x H'' → Gr H' H'' ∧ R i H'' x
  stop : ∀ H', Gr H1 H' → J.stop n H'
theorem hands_list {K : PySem.W.Frag} {H1 : Hp} {a : Addr} {xs : List V} (h : SqL K H1 a xs) : Hands (Itl K a) H1 xs.length (fun i _ x => xs[i]? = some x) where
  go := fun i H' hi g => itl_go (g.seq h) hi
  yld := fun i H' x H'' hi g y => by
    obtain ⟨rfl, e⟩ := itl_yld (g.seq h) y
    exact ⟨Gr.refl _, e⟩
  stop := fun H' g => itl_stop (g.seq h) rfl
theorem hands_range {H1 : Hp} (lo : Int) (n : Nat) : Hands (Itr lo n) H1 n (fun i _ x => x = .int (lo + i)) where
  go := fun i H' hi g => hi
  yld := fun i H' x H'' hi g y => by
    obtain ⟨rfl, e⟩ := y
    exact ⟨Gr.refl _, e⟩
  stop := fun H' g => Nat.le_refl _
theorem hands_str {H1 : Hp} (ds : List Nat) : Hands (Its (wd ds)) H1 ds.length (fun i _ x => ∃ d, ds[i]? = some d ∧ x = .str (wd [d])) where
  go := fun i H' hi g => by
    show i < (wd ds).cps.size
    have : (wd ds).cps.size = ds.length := wd_len ds
    omega
  yld := fun i H' x H'' hi g y => by
    obtain ⟨rfl, c1, h1, rfl⟩ := y
    obtain ⟨d, e, rfl⟩ := wd_at h1
    exact ⟨Gr.refl _, d, e, rfl⟩
  stop := fun H' g => by
    show (wd ds).cps.size ≤ ds.length
    have : (wd ds).cps.size = ds.length := wd_len ds
    omega
theorem filt_range (p : Nat → Bool) (f : Nat → V) (i : Nat) : ((List.range (i + 1)).filter p).map f = ((List.range i).filter p).map f ++ (if p i = true then [f i] else []) := by
  rw [List.range_succ, List.filter_append, List.map_append]
  congr 1
  by_cases e : p i = true
  · rw [if_pos e, List.filter_cons_of_pos e]
    rfl
  · rw [if_neg e, List.filter_cons_of_neg e]
    rfl
theorem filt_len (p : Nat → Bool) (f : Nat → V) (i : Nat) : (((List.range i).filter p).map f).length ≤ i := by
  rw [List.length_map]
  refine Nat.le_trans (List.length_filter_le _ _) ?_
  rw [List.length_range]
  exact Nat.le_refl _
/-- a comprehension: at each turn a test p i and a value f i -/
theorem lcG {J : It} {H1 : Hp} {n : Nat} {R : Nat → Hp → V → Prop} {g : TG} {tt : TT} {te : TE} {vs : List Nat} {σ : L2.St} {D : Addr} {Qd : Hp → Prop} (hJ : Hands J H1 n R) (p : Nat → Bool) (f : Nat → V) (nD : H1 D = none) (hz : n ≤ 16000000)
    (hs : ∀ i x H' (Y : VK) (N : Hp → Prop), i < n → Gr H1 H' → R i H' x → (p i = true → ∀ H'', Gr H' H'' → Y (f i) H'') → (p i = false → ∀ H'', Gr H' H'' → N H'') →
      g x (wipe σ vs) H' fun σ2 H2 => wipe σ2 vs = wipe σ vs ∧ tt σ2 H2 fun b H3 => if b = true then te σ2 H3 Y else N H3)
    (hd : ∀ H', Gr H1 H' → H' D = some (.lst (((List.range n).filter p).map f)) → Qd H') :
    ∃ W : Nat → Nat → Hp → Prop, (∃ m, W 0 m (upd H1 D (.lst []))) ∧ ∀ i m H, W i m H →
      (J.stop i H ∧ Qd H) ∨ (J.go i H ∧ ∃ Nx : Hp → Prop, (∀ H', Nx H' → ∃ m', m' < m ∧ W (i + 1) m' H') ∧ ∀ x H', J.yld i H x H' → g x (wipe σ vs) H' fun σ2 H2 => wipe σ2 vs = wipe σ vs ∧ tt σ2 H2 fun b H3 =>
        if b = true then te σ2 H3 fun y H4 => ∃ acc, H4 D = some (.lst acc) ∧ acc.length < sizeLine ∧ Nx (upd H4 D (.lst (acc ++ [y]))) else Nx H3) := by
  refine walk_n n (fun i H' => Gr H1 H' ∧ H' D = some (.lst (((List.range i).filter p).map f))) ⟨(Gr.refl H1).new nD, upd_same⟩ (fun i H' hi ⟨i1, i2⟩ => ⟨hJ.go i H' hi i1, fun x H'' y => ?_⟩) (fun H' ⟨i1, i2⟩ => ⟨hJ.stop H' i1, hd H' i1 i2⟩)
  obtain ⟨g1, r1⟩ := hJ.yld i H' x H'' hi i1 y
  have gi := i1.trans g1
  have e := filt_range p f i
  refine hs i x H'' _ _ hi gi r1 (fun hp H3 g3 => ?_) (fun hp H3 g3 => ?_)
  · rw [if_pos hp] at e
    have hl := filt_len p f i
    exact ⟨_, g3.lst (g1.lst i2), sz' (by omega), (gi.trans g3).over nD, by rw [upd_same, e]⟩
  · rw [if_neg (by rw [hp]; exact Bool.false_ne_true), List.append_nil] at e
    exact ⟨gi.trans g3, by rw [e]; exact g3.lst (g1.lst i2)⟩
theorem range_filter_map {α : Type} (l : List α) (p : α → Bool) (f : α → V) (d : α) : ((List.range l.length).filter fun i => p (l.getD i d)).map (fun i => f (l.getD i d)) = (l.filter p).map f := by
  induction l with
  | nil => rfl
  | cons x l ih =>
    rw [List.length_cons, List.range_succ_eq_map, List.filter_cons, List.filter_map]
    have e1 : (fun i => p ((x :: l).getD i d)) ∘ Nat.succ = fun i => p (l.getD i d) := rfl
    rw [e1, List.filter_cons]
    by_cases e : p x = true
    · rw [if_pos (show p ((x :: l).getD 0 d) = true from e), if_pos e, List.map_cons, List.map_cons, List.map_map]
      show f x :: _ = f x :: _
      rw [← ih]
      rfl
    · rw [if_neg (show ¬ p ((x :: l).getD 0 d) = true from e), if_neg e, List.map_map, ← ih]
      rfl
abbrev HandsL {α : Type} (J : It) (H1 : Hp) (l : List α) (φ : α → V) : Prop := Hands J H1 l.length (fun i _ x => ∃ d, l[i]? = some d ∧ x = φ d)
theorem handsL_list {α : Type} {K : PySem.W.Frag} {H1 : Hp} {a : Addr} {l : List α} {φ : α → V} (h : SqL K H1 a (l.map φ)) : HandsL (Itl K a) H1 l φ where
  go := fun i H' hi g => itl_go (g.seq h) (by rw [List.length_map]; exact hi)
  yld := fun i H' x H'' hi g y => by
    obtain ⟨rfl, e⟩ := itl_yld (g.seq h) y
    rw [List.getElem?_map, List.getElem?_eq_getElem hi] at e
    exact ⟨Gr.refl _, l[i], List.getElem?_eq_getElem hi, (Option.some.inj e).symm⟩
  stop := fun H' g => itl_stop (g.seq h) (List.length_map ..)
theorem handsL_str {H1 : Hp} (ds : List Nat) : HandsL (Its (wd ds)) H1 ds (fun d => .str (wd [d])) := hands_str ds
theorem handsL_range {H1 : Hp} (lo : Int) (n : Nat) : HandsL (Itr lo n) H1 (List.range n) (fun i : Nat => .int (lo + i)) where
  go := fun i H' hi g => by
    rw [List.length_range] at hi
    exact hi
  yld := fun i H' x H'' hi g y => by
    rw [List.length_range] at hi
    obtain ⟨rfl, e⟩ := y
    exact ⟨Gr.refl _, i, List.getElem?_range hi, e⟩
  stop := fun H' g => by
    rw [List.length_range]
    exact Nat.le_refl n
/-- .. where what is handed out for d is told by Φ -/
abbrev HandsR {α : Type} (J : It) (H1 : Hp) (l : List α) (Φ : α → Hp → V → Prop) : Prop := Hands J H1 l.length (fun i H x => ∃ d, l[i]? = some d ∧ Φ d H x)
theorem lcRel {α : Type} {J : It} {H1 : Hp} {l : List α} {Φ : α → Hp → V → Prop} {g : TG} {tt : TT} {te : TE} {vs : List Nat} {σ : L2.St} {D : Addr} {Qd : Hp → Prop} (hJ : HandsR J H1 l Φ) (p : α → Bool) (f : α → V) (nD : H1 D = none) (hz : l.length ≤ 16000000)
    (hs : ∀ d x H' (Y : VK) (N : Hp → Prop), d ∈ l → Gr H1 H' → Φ d H' x → (p d = true → ∀ H'', Gr H' H'' → Y (f d) H'') → (p d = false → ∀ H'', Gr H' H'' → N H'') →
      g x (wipe σ vs) H' fun σ2 H2 => wipe σ2 vs = wipe σ vs ∧ tt σ2 H2 fun b H3 => if b = true then te σ2 H3 Y else N H3)
    (hd : ∀ H', Gr H1 H' → H' D = some (.lst ((l.filter p).map f)) → Qd H') :
    ∃ W : Nat → Nat → Hp → Prop, (∃ m, W 0 m (upd H1 D (.lst []))) ∧ ∀ i m H, W i m H →
      (J.stop i H ∧ Qd H) ∨ (J.go i H ∧ ∃ Nx : Hp → Prop, (∀ H', Nx H' → ∃ m', m' < m ∧ W (i + 1) m' H') ∧ ∀ x H', J.yld i H x H' → g x (wipe σ vs) H' fun σ2 H2 => wipe σ2 vs = wipe σ vs ∧ tt σ2 H2 fun b H3 =>
        if b = true then te σ2 H3 fun y H4 => ∃ acc, H4 D = some (.lst acc) ∧ acc.length < sizeLine ∧ Nx (upd H4 D (.lst (acc ++ [y]))) else Nx H3) := by
  cases l with
  | nil => exact lcG hJ (fun _ => false) (fun _ => .non) nD (Nat.zero_le _) (fun i x H' Y N hi => absurd hi (Nat.not_lt_zero i)) fun H' g1 e => hd H' g1 e
  | cons d r =>
    have key := range_filter_map (d :: r) p f d
    generalize hL : (d :: r) = l at *
    refine lcG hJ (fun i => p (l.getD i d)) (fun i => f (l.getD i d)) nD hz (fun i x H' Y N hi g1 ⟨u, eu, ex⟩ hy hn => ?_) fun H' g1 e => hd H' g1 (by rw [key] at e; exact e)
    have ed : l.getD i d = u := by rw [List.getD_eq_getElem?_getD, eu]; rfl
    rw [ed] at hy hn
    exact hs u x H' Y N (List.mem_of_getElem? eu) g1 ex hy hn
/-- a comprehension over a list l, shown as φ x: each x by a test p x and a value f x -/
theorem lcH {α : Type} {J : It} {H1 : Hp} {l : List α} {φ : α → V} {g : TG} {tt : TT} {te : TE} {vs : List Nat} {σ : L2.St} {D : Addr} {Qd : Hp → Prop} (hJ : HandsL J H1 l φ) (p : α → Bool) (f : α → V) (nD : H1 D = none) (hz : l.length ≤ 16000000)
    (hs : ∀ x H' (Y : VK) (N : Hp → Prop), x ∈ l → Gr H1 H' → (p x = true → ∀ H'', Gr H' H'' → Y (f x) H'') → (p x = false → ∀ H'', Gr H' H'' → N H'') →
      g (φ x) (wipe σ vs) H' fun σ2 H2 => wipe σ2 vs = wipe σ vs ∧ tt σ2 H2 fun b H3 => if b = true then te σ2 H3 Y else N H3)
    (hd : ∀ H', Gr H1 H' → H' D = some (.lst ((l.filter p).map f)) → Qd H') :
    ∃ W : Nat → Nat → Hp → Prop, (∃ m, W 0 m (upd H1 D (.lst []))) ∧ ∀ i m H, W i m H →
      (J.stop i H ∧ Qd H) ∨ (J.go i H ∧ ∃ Nx : Hp → Prop, (∀ H', Nx H' → ∃ m', m' < m ∧ W (i + 1) m' H') ∧ ∀ x H', J.yld i H x H' → g x (wipe σ vs) H' fun σ2 H2 => wipe σ2 vs = wipe σ vs ∧ tt σ2 H2 fun b H3 =>
        if b = true then te σ2 H3 fun y H4 => ∃ acc, H4 D = some (.lst acc) ∧ acc.length < sizeLine ∧ Nx (upd H4 D (.lst (acc ++ [y]))) else Nx H3) := lcRel (Φ := fun d _ x => x = φ d) hJ p f nD hz (fun d x H' Y N hm g1 e hy hn => by
    subst e
    exact hs d H' Y N hm g1 hy hn) hd
theorem hands_zip {α β : Type} {K : PySem.W.Frag} {H1 : Hp} {a b : Addr} {l : List α} {m : List β} {φ : α → V} {ψ : β → V} (ha : SqL K H1 a (l.map φ)) (hb : SqL K H1 b (m.map ψ)) :
    HandsR (Itz K a b) H1 (l.zip m) (fun d H x => ∃ T, x = .ref T ∧ H T = some (.tup [φ d.1, ψ d.2])) where
  go := fun i H' hi g => by
    rw [List.length_zip] at hi
    exact ⟨_, _, _, _, g.seq ha, g.seq hb, by rw [List.getElem?_map, List.getElem?_eq_getElem (show i < l.length by omega)]; rfl, by rw [List.getElem?_map, List.getElem?_eq_getElem (show i < m.length by omega)]; rfl⟩
  yld := fun i H' x H'' hi g y => by
    have hi2 := hi
    rw [List.length_zip] at hi2
    obtain ⟨T, u, v, rfl, nT, rfl, h1, h2⟩ := y
    have e1 := h1 _ (g.seq ha)
    have e2 := h2 _ (g.seq hb)
    rw [List.getElem?_map, List.getElem?_eq_getElem (show i < l.length by omega)] at e1
    rw [List.getElem?_map, List.getElem?_eq_getElem (show i < m.length by omega)] at e2
    cases e1
    cases e2
    refine ⟨(Gr.refl _).new nT, (l[i]'(by omega), m[i]'(by omega)), ?_, T, rfl, upd_same⟩
    rw [List.getElem?_eq_getElem hi, List.getElem_zip]
  stop := fun H' g => by
    refine ⟨_, _, g.seq ha, g.seq hb, ?_⟩
    rw [List.length_map, List.length_map, List.length_zip]
    omega
theorem hands_enum {α : Type} {K : PySem.W.Frag} {H1 : Hp} {a : Addr} {l : List α} {φ : α → V} (ha : SqL K H1 a (l.map φ)) :
    HandsR (Ite K a) H1 l.zipIdx (fun d H x => ∃ T, x = .ref T ∧ H T = some (.tup [.int (d.2 : Nat), φ d.1])) where
  go := fun i H' hi g => by
    rw [List.length_zipIdx] at hi
    exact ⟨_, _, g.seq ha, by rw [List.getElem?_map, List.getElem?_eq_getElem hi]; rfl⟩
  yld := fun i H' x H'' hi g y => by
    have hi2 := hi
    rw [List.length_zipIdx] at hi2
    obtain ⟨T, u, rfl, nT, rfl, h1⟩ := y
    have e1 := h1 _ (g.seq ha)
    rw [List.getElem?_map, List.getElem?_eq_getElem hi2] at e1
    cases e1
    refine ⟨(Gr.refl _).new nT, (l[i], i), ?_, T, rfl, upd_same⟩
    rw [List.getElem?_zipIdx, List.getElem?_eq_getElem hi2]
    simp
  stop := fun H' g => by
    refine ⟨_, g.seq ha, ?_⟩
    rw [List.length_map, List.length_zipIdx]
    exact Nat.le_refl _
theorem lcL {α : Type} {K : PySem.W.Frag} {H1 : Hp} {a : Addr} {l : List α} {φ : α → V} {g : TG} {tt : TT} {te : TE} {vs : List Nat} {σ : L2.St} {D : Addr} {Qd : Hp → Prop} (ha : SqL K H1 a (l.map φ)) (p : α → Bool) (f : α → V) (nD : H1 D = none) (hz : l.length ≤ 16000000)
    (hs : ∀ x H' (Y : VK) (N : Hp → Prop), x ∈ l → Gr H1 H' → (p x = true → ∀ H'', Gr H' H'' → Y (f x) H'') → (p x = false → ∀ H'', Gr H' H'' → N H'') →
      g (φ x) (wipe σ vs) H' fun σ2 H2 => wipe σ2 vs = wipe σ vs ∧ tt σ2 H2 fun b H3 => if b = true then te σ2 H3 Y else N H3)
    (hd : ∀ H', Gr H1 H' → H' D = some (.lst ((l.filter p).map f)) → Qd H') :
    ∃ W : Nat → Nat → Hp → Prop, (∃ m, W 0 m (upd H1 D (.lst []))) ∧ ∀ i m H, W i m H →
      ((Itl K a).stop i H ∧ Qd H) ∨ ((Itl K a).go i H ∧ ∃ Nx : Hp → Prop, (∀ H', Nx H' → ∃ m', m' < m ∧ W (i + 1) m' H') ∧ ∀ x H', (Itl K a).yld i H x H' → g x (wipe σ vs) H' fun σ2 H2 => wipe σ2 vs = wipe σ vs ∧ tt σ2 H2 fun b H3 =>
        if b = true then te σ2 H3 fun y H4 => ∃ acc, H4 D = some (.lst acc) ∧ acc.length < sizeLine ∧ Nx (upd H4 D (.lst (acc ++ [y]))) else Nx H3) := lcH (handsL_list ha) p f nD hz hs hd
/-- words: each w of ws by a test and a word -/
theorem lcW {K : PySem.W.Frag} {H1 : Hp} {a : Addr} {ws : List (List Nat)} {g : TG} {tt : TT} {te : TE} {vs : List Nat} {σ : L2.St} {D : Addr} {Qd : Hp → Prop} (ha : SqL K H1 a (vws ws)) (p : List Nat → Bool) (f : List Nat → List Nat) (nD : H1 D = none) (hz : ws.length ≤ 16000000)
    (hs : ∀ w H' (Y : VK) (N : Hp → Prop), w ∈ ws → Gr H1 H' → (p w = true → ∀ H'', Gr H' H'' → Y (.str (wd (f w))) H'') → (p w = false → ∀ H'', Gr H' H'' → N H'') →
      g (.str (wd w)) (wipe σ vs) H' fun σ2 H2 => wipe σ2 vs = wipe σ vs ∧ tt σ2 H2 fun b H3 => if b = true then te σ2 H3 Y else N H3)
    (hd : ∀ H', Gr H1 H' → H' D = some (.lst (vws ((ws.filter p).map f))) → Qd H') :
    ∃ W : Nat → Nat → Hp → Prop, (∃ m, W 0 m (upd H1 D (.lst []))) ∧ ∀ i m H, W i m H →
      ((Itl K a).stop i H ∧ Qd H) ∨ ((Itl K a).go i H ∧ ∃ Nx : Hp → Prop, (∀ H', Nx H' → ∃ m', m' < m ∧ W (i + 1) m' H') ∧ ∀ x H', (Itl K a).yld i H x H' → g x (wipe σ vs) H' fun σ2 H2 => wipe σ2 vs = wipe σ vs ∧ tt σ2 H2 fun b H3 =>
        if b = true then te σ2 H3 fun y H4 => ∃ acc, H4 D = some (.lst acc) ∧ acc.length < sizeLine ∧ Nx (upd H4 D (.lst (acc ++ [y]))) else Nx H3) :=
  lcL (φ := fun w => V.str (wd w)) ha p (fun w => .str (wd (f w))) nD hz hs fun H' g1 e => hd H' g1 (by unfold vws; rw [List.map_map]; exact e)
/-- a comprehension of two lists -/
theorem lc2L {α β : Type} {K : PySem.W.Frag} {H1 : Hp} {a b : Addr} {l : List α} {φ : α → V} {m : List β} {ψ : β → V} {wi1 : TI} {te : TE} {vs vs1 : List Nat} {σ : L2.St} {D : Addr} {Qd : Hp → Prop} {v v1 : Nat} (ha : SqL K H1 a (l.map φ)) (hb : SqL K H1 b (m.map ψ)) (f : α → β → V) (nD : H1 D = none) (hz : l.length * m.length ≤ 16000000)
    (hi : ∀ x H' (Z : It → Hp → Prop), x ∈ l → Gr H1 H' → Z (Itl K b) H' → wi1 ((wipe σ vs).set v (some (φ x))) H' Z)
    (hw : ∀ x, wipe ((wipe σ vs).set v (some (φ x))) vs = wipe σ vs) (hw1 : ∀ x y, wipe ((wipe ((wipe σ vs).set v (some (φ x))) vs1).set v1 (some (ψ y))) vs1 = wipe ((wipe σ vs).set v (some (φ x))) vs1)
    (hs : ∀ x y H' (Y : VK), x ∈ l → y ∈ m → Gr H1 H' → (∀ H'', Gr H' H'' → Y (f x y) H'') → te ((wipe ((wipe σ vs).set v (some (φ x))) vs1).set v1 (some (ψ y))) H' Y)
    (hd : ∀ H', Gr H1 H' → H' D = some (.lst (l.flatMap fun x => m.map (f x))) → Qd H') :
    ∃ W : Nat → Nat → Hp → Prop, (∃ m, W 0 m (upd H1 D (.lst []))) ∧ ∀ i m H, W i m H →
      ((Itl K a).stop i H ∧ Qd H) ∨ ((Itl K a).go i H ∧ ∃ Nx : Hp → Prop, (∀ H', Nx H' → ∃ m', m' < m ∧ W (i + 1) m' H') ∧ ∀ x H', (Itl K a).yld i H x H' → gName v x (wipe σ vs) H' fun σ2 H2 => wipe σ2 vs = wipe σ vs ∧ tYes σ2 H2 fun b H3 =>
        if b = true then wi1 σ2 H3 fun J1 H4 => ∃ W1 : Nat → Nat → Hp → Prop, (∃ m, W1 0 m H4) ∧ ∀ j k H, W1 j k H →
          (J1.stop j H ∧ Nx H) ∨ (J1.go j H ∧ ∃ Nx1 : Hp → Prop, (∀ H', Nx1 H' → ∃ k', k' < k ∧ W1 (j + 1) k' H') ∧ ∀ x H', J1.yld j H x H' → gName v1 x (wipe σ2 vs1) H' fun σ3 H5 => wipe σ3 vs1 = wipe σ2 vs1 ∧ tYes σ3 H5 fun b H6 =>
            if b = true then te σ3 H6 fun y H7 => ∃ acc, H7 D = some (.lst acc) ∧ acc.length < sizeLine ∧ Nx1 (upd H7 D (.lst (acc ++ [y]))) else Nx1 H6)
        else Nx H3) := by
  have ll : (l.map φ).length = l.length := List.length_map ..
  have lm : (m.map ψ).length = m.length := List.length_map ..
  have lf : ∀ (l' : List α), (l'.flatMap fun x => m.map (f x)).length = l'.length * m.length := fun l' => flat_len fun x _ => List.length_map ..
  refine walk_n l.length (fun i H' => Gr H1 H' ∧ H' D = some (.lst ((l.take i).flatMap fun x => m.map (f x)))) ⟨(Gr.refl H1).new nD, upd_same⟩ (fun i H' hi1 ⟨i1, i2⟩ => ⟨itl_go (i1.seq ha) (by rw [ll]; exact hi1), fun x H'' y => ?_⟩) (fun H' ⟨i1, i2⟩ => ⟨itl_stop (i1.seq ha) ll, hd H' i1 (by rw [List.take_length] at i2; exact i2)⟩)
  obtain ⟨rfl, ex⟩ := itl_yld (i1.seq ha) y
  have gi : l[i]? = some l[i] := List.getElem?_eq_getElem hi1
  have hm : l[i] ∈ l := List.getElem_mem hi1
  have e9 := flat_take (f := fun x => m.map (f x)) gi
  rw [List.getElem?_map, gi] at ex
  cases ex
  generalize l[i] = x at gi hm e9
  refine ⟨hw x, yes (iteT ?_)⟩
  refine hi x H'' _ hm i1 ?_
  have lb : ((l.take i).flatMap fun x => m.map (f x)).length + m.length ≤ 16000000 := by
    rw [lf, List.length_take, ← Nat.succ_mul]
    exact Nat.le_trans (Nat.mul_le_mul_right _ (by omega)) hz
  refine walk_n m.length (fun j H2 => Gr H1 H2 ∧ H2 D = some (.lst (((l.take i).flatMap fun x => m.map (f x)) ++ (m.take j).map (f x)))) ⟨i1, by rw [List.take_zero, List.map_nil, List.append_nil]; exact i2⟩ (fun j H2 hj ⟨j1, j2⟩ => ⟨itl_go (j1.seq hb) (by rw [lm]; exact hj), fun z H3 y => ?_⟩) (fun H2 ⟨j1, j2⟩ => ⟨itl_stop (j1.seq hb) lm, j1, ?_⟩)
  · obtain ⟨rfl, ez⟩ := itl_yld (j1.seq hb) y
    have gj : m[j]? = some m[j] := List.getElem?_eq_getElem hj
    have hmj : m[j] ∈ m := List.getElem_mem hj
    rw [List.getElem?_map, gj] at ez
    cases ez
    generalize m[j] = u at gj hmj
    refine ⟨hw1 x u, yes (iteT ?_)⟩
    refine hs x u H3 _ hm hmj j1 fun H4 g4 => ⟨_, g4.lst j2, ?_, (j1.trans g4).over nD, ?_⟩
    · rw [List.length_append, List.length_map, List.length_take]
      exact sz' (by omega)
    · rw [upd_same, List.take_add_one, gj, List.map_append, List.append_assoc]
      rfl
  · rw [List.take_length] at j2
    rw [e9]
    exact j2
theorem sum_cast (w : List Nat) : (w.map fun d : Nat => (d : Int)).sum = ((w.sum : Nat) : Int) := by
  induction w with
  | nil => rfl
  | cons x w ih => rw [List.map_cons, List.sum_cons, ih, List.sum_cons, Int.natCast_add]
theorem filter_yes {α : Type} (l : List α) : l.filter (fun _ => true) = l := List.filter_eq_self.mpr fun _ _ => rfl
end Wa
namespace Wa
open PySem PySem.Spec PyProof.Rows L2
/-! facts about heaps carried on -/
theorem at_same {H H9 : Hp} {l : Addr} {o : HO} (hU : upd H l o = H9) : H9 l = some o := by
  rw [← hU]
  exact upd_same
theorem at_ne {H H9 : Hp} {l a : Addr} {o : HO} {x : Option HO} (hU : upd H l o = H9) (n : a ≠ l) (h : H a = x) : H9 a = x := by
  rw [← hU, upd_ne n]
  exact h
theorem at_oth {H H9 : Hp} {l a : Addr} {x : HO} (hU : Others l H H9) (n : a ≠ l) (h : H a = some x) : H9 a = some x := hU a x n h
theorem at_pop {H H9 : Hp} {l a : Addr} {x : HO} (hU : ∀ b, b ≠ l → ∀ o, H b = some o → H9 b = some o) (n : a ≠ l) (h : H a = some x) : H9 a = some x := hU a n x h
theorem at_gr {H H9 : Hp} {a : Addr} {xs : List V} (g : Gr H H9) (h : H a = some (.lst xs)) : H9 a = some (.lst xs) := g.lst h
theorem at_grT {H H9 : Hp} {a : Addr} {xs : List V} (g : Gr H H9) (h : H a = some (.tup xs)) : H9 a = some (.tup xs) := g.tup h
theorem at_sm {H H9 : Hp} {a : Addr} {x : HO} (g : Same H H9) (h : H a = some x) : H9 a = some x := g a x h
theorem tb_gr {H H9 : Hp} {P : Addr} (g : Gr H H9) (h : GxR.TabG H P) : GxR.TabG H9 P := g.tab P h
theorem tb_sm {H H9 : Hp} {P : Addr} (g : Same H H9) (h : GxR.TabG H P) : GxR.TabG H9 P := (Gr.of g).tab P h
theorem tb_new {H H9 : Hp} {l P : Addr} {o : HO} (hU : upd H l o = H9) (n : H l = none) (h : GxR.TabG H P) : GxR.TabG H9 P := by
  rw [← hU]
  exact ((Gr.refl H).new n).tab P h
theorem tb_ne {H : Hp} {l P : Addr} {xs : List V} (h : GxR.TabG H P) (hl : H l = some (.lst xs)) : P ≠ l := by
  obtain ⟨ps, e, _⟩ := h
  intro z
  rw [z, hl] at e
  cases e
theorem tb_upd {H H9 : Hp} {l P : Addr} {o : HO} {xs : List V} (hU : upd H l o = H9) (hl : H l = some (.lst xs)) (h : GxR.TabG H P) : GxR.TabG H9 P := by
  have n := tb_ne h hl
  obtain ⟨ps, e, t⟩ := h
  exact ⟨ps, at_ne hU n e, t⟩
theorem tb_oth {H H9 : Hp} {l P : Addr} {xs : List V} (hU : Others l H H9) (hl : H l = some (.lst xs)) (h : GxR.TabG H P) : GxR.TabG H9 P := by
  have n := tb_ne h hl
  obtain ⟨ps, e, t⟩ := h
  exact ⟨ps, hU _ _ n e, t⟩
theorem tb_pop {H H9 : Hp} {l P : Addr} {xs : List V} (hU : ∀ b, b ≠ l → ∀ o, H b = some o → H9 b = some o) (hl : H l = some (.lst xs)) (h : GxR.TabG H P) : GxR.TabG H9 P := by
  have n := tb_ne h hl
  obtain ⟨ps, e, t⟩ := h
  exact ⟨ps, hU _ n _ e, t⟩
theorem ne_none {H : Hp} {a b : Addr} {xs : List V} (h' : H b = none) (h : H a = some (.lst xs)) : a ≠ b := ne_of_none h h'
theorem ne_none' {H : Hp} {a b : Addr} {xs : List V} (h' : H a = none) (h : H b = some (.lst xs)) : a ≠ b := (ne_of_none h h').symm
theorem ne_noneT {H : Hp} {a b : Addr} {xs : List V} (h' : H b = none) (h : H a = some (.tup xs)) : a ≠ b := ne_of_none h h'
theorem ne_noneT' {H : Hp} {a b : Addr} {xs : List V} (h' : H a = none) (h : H b = some (.tup xs)) : a ≠ b := (ne_of_none h h').symm
theorem ne_kind {H : Hp} {a b : Addr} {xs ys : List V} (h : H a = some (.tup xs)) (h' : H b = some (.lst ys)) : a ≠ b := fun z => by
  rw [z, h'] at h
  cases h
/-! comparing lists of words, of numbers -/
section
variable {K : PySem.W.Frag} {H : Hp} {a b : Addr} {A B : List (List Nat)} {Q : VK}
theorem eqW (ha : H a = some (.lst (vws A))) (hb : H b = some (.lst (vws B))) (fa : Figs A) (fb : Figs B) (h : Q (.bl (decide (A = B))) H) : rEqD K (.ref a) (.ref b) H Q :=
  ⟨dws A, dws B, .lst (sq ha) (dp_ws _), .lst (sq hb) (dp_ws _), sh_ws fa, sh_ws fb, by rw [eqv_ws]; exact h⟩
theorem neW (ha : H a = some (.lst (vws A))) (hb : H b = some (.lst (vws B))) (fa : Figs A) (fb : Figs B) (h : Q (.bl (!decide (A = B))) H) : rNeD K (.ref a) (.ref b) H Q :=
  ⟨dws A, dws B, .lst (sq ha) (dp_ws _), .lst (sq hb) (dp_ws _), sh_ws fa, sh_ws fb, by rw [eqv_ws]; exact h⟩
theorem eqW1 (ha : H a = some (.lst (vws A))) (hb : H b = some (.lst (vws A))) (fa : Figs A) (h : Q (.bl true) H) : rEqD K (.ref a) (.ref b) H Q := eqW ha hb fa fa (by rw [decide_eq_true rfl]; exact h)
theorem neW1 (ha : H a = some (.lst (vws A))) (hb : H b = some (.lst (vws A))) (fa : Figs A) (h : Q (.bl false) H) : rNeD K (.ref a) (.ref b) H Q := neW ha hb fa fa (by rw [decide_eq_true rfl]; exact h)
end
theorem figs_nil : Figs [] := fun w hw => absurd hw (by simp)
theorem figs_of_mem {q n : Nat} {ws : List (List Nat)} (hq : q ≤ 3) (h : ∀ w ∈ ws, Wd q n w) : Figs ws := figs_of hq h
/-! sorted lists of words -/
def leW (a b : List Nat) : Bool := decide (a ≤ b)
def srt (ws : List (List Nat)) : List (List Nat) := ws.mergeSort leW
theorem srt_perm (ws : List (List Nat)) : (srt ws).Perm ws := List.mergeSort_perm ..
theorem srt_mem {ws : List (List Nat)} {w : List Nat} : w ∈ srt ws ↔ w ∈ ws := (srt_perm ws).mem_iff
theorem srt_len (ws : List (List Nat)) : (srt ws).length = ws.length := (srt_perm ws).length_eq
theorem map_lt : ∀ {a b : List Nat}, a.map (48 + ·) < b.map (48 + ·) ↔ a < b
  | [], [] => by simp
  | [], y :: b => by simp
  | x :: a, [] => by simp
  | x :: a, y :: b => by
    have ih := map_lt (a := a) (b := b)
    rw [List.map_cons, List.map_cons, List.cons_lt_cons_iff, List.cons_lt_cons_iff, ih]
    constructor
    · rintro (h | ⟨h, h'⟩)
      · exact .inl (by omega)
      · exact .inr ⟨by omega, h'⟩
    · rintro (h | ⟨h, h'⟩)
      · exact .inl (by omega)
      · exact .inr ⟨by omega, h'⟩
theorem srt_ris (ws : List (List Nat)) : RisW (srt ws) ws := by
  refine ⟨srt_perm ws, ?_⟩
  have h : (srt ws).Pairwise fun a b => leW a b = true := List.pairwise_mergeSort (le := leW) (fun a b c h1 h2 => decide_eq_true (List.le_trans (of_decide_eq_true h1) (of_decide_eq_true h2)))
    (fun a b => by
      unfold leW
      rw [Bool.or_eq_true, decide_eq_true_eq, decide_eq_true_eq]
      exact List.le_total a b) ws
  show ((srt ws).map wd).Pairwise _
  rw [List.pairwise_map]
  refine h.imp fun {a b} h => ?_
  rw [wd_list, wd_list, map_lt]
  exact List.not_lt.mpr (of_decide_eq_true h)
theorem srt_of {R S : List (List Nat)} (h : RisW R S) : R = srt S := risW_eq h (srt_ris S) (List.Perm.refl _)
theorem srt_congr {S T : List (List Nat)} (h : S.Perm T) : srt S = srt T := risW_eq (srt_ris S) (srt_ris T) h
theorem srt_srt (S : List (List Nat)) : srt (srt S) = srt S := srt_congr (srt_perm S)
theorem Figs.srt {ws : List (List Nat)} (h : Figs ws) : Figs (srt ws) := fun w hw => h w (srt_mem.mp hw)
def rSortW (K : PySem.W.Frag) : List V → Hp → VK → Prop := fun vs H Q => ∃ (a : Addr) (ws : List (List Nat)), vs = [V.ref a] ∧ SqL K H a (vws ws) ∧ ∀ (H' : Hp) (p : Addr), Gr H H' → H p = none → H' p = some (.lst (vws (srt ws))) → Q (.ref p) H'
theorem cr_sortW {X : Cx} : CallR X (.builtin "sorted") (rSortW X.K) := by
  intro pins s σ H vs us Q I r h
  obtain ⟨a, ws, rfl, hs, q⟩ := h
  refine cr_sortedT pins s σ H _ us Q I r ⟨a, tws ws, rfl, by rw [tws_v]; exact hs, fun ys p hp hr np => ?_⟩
  obtain ⟨R, rfl, hR⟩ := risW_of hp hr
  rw [srt_of hR, tws_v]
  exact q _ p ((Gr.refl H).new np) np upd_same
/-- a new object, by what is known of the heap behind it -/
theorem newO {H : Hp} {o : HO} {Q : VK} (h : ∀ H' p, Gr H H' → H p = none → H' p = some o → Q (.ref p) H') : ∀ p, H p = none → Q (.ref p) (upd H p o) := fun p np => h _ p ((Gr.refl H).new np) np upd_same
end Wa
namespace Wa
open PySem PySem.Spec PyProof.Rows L2
/-- two ways that go on alike -/
theorem join {goal : Prop} {C P : Hp → Prop} (main : (∀ Hx, P Hx → C Hx) → goal) (rest : ∀ Hx, P Hx → C Hx) : goal := main rest
/-- the last word of a list goes -/
theorem popW {ws : List (List Nat)} (h : ws ≠ []) : ∃ w, (vws ws)[(vws ws).length - 1]? = some (V.str (wd w)) := by
  have hl : ws.length - 1 < ws.length := by
    have := List.length_pos_iff.mpr h
    omega
  refine ⟨ws[ws.length - 1], ?_⟩
  rw [vws_len, vws_get, List.getElem?_eq_getElem hl]
  rfl
end Wa
namespace Wa
open PySem PySem.Spec PyProof.Rows L2
/-! data of several layers compared -/
def Nice (n : Nat) (d : PyData) : Prop := d.canLay0 = true ∧ d.depth ≤ n
theorem nice_all {n : Nat} : ∀ {ds : List PyData}, (∀ d ∈ ds, Nice n d) → PyData.canLayAll0 ds = true ∧ PyData.depthAll ds ≤ n
  | [], _ => ⟨rfl, Nat.zero_le _⟩
  | d :: r, h => by
    obtain ⟨i1, i2⟩ := nice_all fun x hx => h x (List.mem_cons_of_mem _ hx)
    obtain ⟨j1, j2⟩ := h d List.mem_cons_self
    refine ⟨?_, ?_⟩
    · show (d.canLay0 && PyData.canLayAll0 r) = true
      rw [i1, j1]
      rfl
    · show max d.depth (PyData.depthAll r) ≤ n
      omega
theorem nice_list {n : Nat} {ds : List PyData} (h : ∀ d ∈ ds, Nice n d) : Nice (n + 1) (.list ds) := ⟨(nice_all h).1, by
  have := (nice_all h).2
  show PyData.depthAll ds + 1 ≤ n + 1
  omega⟩
theorem nice_tup {n : Nat} {ds : List PyData} (h : ∀ d ∈ ds, Nice n d) : Nice (n + 1) (.tuple ds) := ⟨(nice_all h).1, by
  have := (nice_all h).2
  show PyData.depthAll ds + 1 ≤ n + 1
  omega⟩
theorem Nice.mono {n m : Nat} {d : PyData} (h : Nice n d) (hm : n ≤ m) : Nice m d := ⟨h.1, Nat.le_trans h.2 hm⟩
theorem nice_int (n : Nat) (i : Int) : Nice n (.int i) := ⟨rfl, Nat.zero_le _⟩
theorem nice_str (n : Nat) {w : List Nat} (h : ∀ d ∈ w, d < 10) : Nice n (.str (wd w)) := ⟨wd_ok h, Nat.zero_le _⟩
theorem nice_ws {A : List (List Nat)} (h : Figs A) : Nice 1 (dws A) := nice_list fun d hd => by
  obtain ⟨w, hw, rfl⟩ := List.mem_map.mp hd
  exact nice_str 0 (h w hw)
theorem nice_ns (A : List Int) : Nice 1 (dns A) := nice_list fun d hd => by
  obtain ⟨w, hw, rfl⟩ := List.mem_map.mp hd
  exact nice_int 0 w
theorem Nice.shaped {n : Nat} {d : PyData} (h : Nice n d) (hn : n ≤ 64) : SeqAt.shaped d = true := by
  unfold SeqAt.shaped
  rw [Bool.and_eq_true]
  exact ⟨h.1, decide_eq_true (Nat.le_trans h.2 hn)⟩
section
variable {K : PySem.W.Frag} {H : Hp} {x y : V} {d : PyData} {Q : VK} {n : Nat}
theorem eqD1 (hx : Dp K H x d) (hy : Dp K H y d) (hn : Nice n d) (h64 : n ≤ 64) (h : Q (.bl true) H) : rEqD K x y H Q := ⟨d, d, hx, hy, hn.shaped h64, hn.shaped h64, by rw [SeqAt.eqv_refl d hn.1]; exact h⟩
theorem neD1 (hx : Dp K H x d) (hy : Dp K H y d) (hn : Nice n d) (h64 : n ≤ 64) (h : Q (.bl false) H) : rNeD K x y H Q := ⟨d, d, hx, hy, hn.shaped h64, hn.shaped h64, by rw [SeqAt.eqv_refl d hn.1]; exact h⟩
end
theorem dpW {K : PySem.W.Frag} {H : Hp} {a : Addr} {A : List (List Nat)} (h : H a = some (.lst (vws A))) : Dp K H (.ref a) (dws A) := .lst (sq h) (dp_ws _)
theorem dpN {K : PySem.W.Frag} {H : Hp} {a : Addr} {A : List Int} (h : H a = some (.lst (A.map V.int))) : Dp K H (.ref a) (dns A) := .lst (sq h) (dp_ns _)
theorem dpL2 {K : PySem.W.Frag} {H : Hp} {a : Addr} {x y : V} {d e : PyData} (h : H a = some (.lst [x, y])) (hx : Dp K H x d) (hy : Dp K H y e) : Dp K H (.ref a) (.list [d, e]) := .lst (sq h) (.cons hx (.cons hy .nil))
theorem dpT2 {K : PySem.W.Frag} {H : Hp} {a : Addr} {x y : V} {d e : PyData} (h : H a = some (.tup [x, y])) (hx : Dp K H x d) (hy : Dp K H y e) : Dp K H (.ref a) (.tuple [d, e]) := .tup (.inl (.inl h)) (.cons hx (.cons hy .nil))
theorem nice_l2 {n : Nat} {d e : PyData} (h1 : Nice n d) (h2 : Nice n e) : Nice (n + 1) (.list [d, e]) := nice_list fun x hx => by
  rcases List.mem_cons.mp hx with z | z
  · rw [z]; exact h1
  · rw [List.mem_singleton.mp z]; exact h2
theorem nice_t2 {n : Nat} {d e : PyData} (h1 : Nice n d) (h2 : Nice n e) : Nice (n + 1) (.tuple [d, e]) := nice_tup fun x hx => by
  rcases List.mem_cons.mp hx with z | z
  · rw [z]; exact h1
  · rw [List.mem_singleton.mp z]; exact h2
end Wa
namespace Wa
open PySem PySem.Spec PyProof.Rows L2
/-! len, list, by a named question -/
def rLen (K : PySem.W.Frag) : List V → Hp → VK → Prop := fun xs H Q => ∃ p ys, xs = [.ref p] ∧ (SqL K H p ys ∨ SqT K H p ys) ∧ Q (.int ys.length) H
theorem call_lenK {X : Cx} : CallR X (.builtin "len") (rLen X.K) := call_len_seq
def rListOf (K : PySem.W.Frag) : List V → Hp → VK → Prop := fun xs H Q => ∃ p ys, xs = [.ref p] ∧ (SqL K H p ys ∨ SqT K H p ys) ∧ ∀ l, H l = none → Q (.ref l) (upd H l (.lst ys))
theorem call_listK {X : Cx} : CallR X (.type "list") (rListOf X.K) := call_list_of
end Wa
namespace Wa
open PySem PySem.Spec PyProof.Rows L2
/-! sizes by drawn numbers -/
/-- how long words may be -/
def cap (q : Nat) : Nat := if q = 2 then 8 else 5
theorem cap_pos (q : Nat) : 0 < cap q := by
  unfold cap
  split <;> decide
theorem cap_at {q : Nat} (h : q = 2 ∨ q = 3) : atI [V.int 8, V.int 5] ((q : Int) - 2) = some (.int (cap q : Nat)) := by
  rcases h with h | h <;> rw [h] <;> rfl
theorem two_three (x : Int) : ∃ q : Nat, 2 + x % 2 = (q : Int) ∧ (q = 2 ∨ q = 3) := ⟨(2 + x % 2).toNat, by omega, by omega⟩
theorem len_qn {q : Nat} (h : q = 2 ∨ q = 3) (y : Int) : ∃ n : Nat, 1 + y % ((cap q : Nat) : Int) = (n : Int) ∧ QN q n := by
  have h0 := cap_pos q
  have e1 := Int.emod_nonneg y (show ((cap q : Nat) : Int) ≠ 0 by omega)
  have e2 := Int.emod_lt_of_pos y (show (0 : Int) < ((cap q : Nat) : Int) by omega)
  refine ⟨(1 + y % ((cap q : Nat) : Int)).toNat, by omega, ?_⟩
  rcases h with h | h
  · subst h
    have : cap 2 = 8 := rfl
    exact .inl ⟨rfl, by omega, by omega⟩
  · subst h
    have : cap 3 = 5 := rfl
    exact .inr ⟨rfl, by omega, by omega⟩
theorem two_of {a b : Nat} (k : Bool) : ∃ m : Nat, (m = a ∨ m = b) ∧ atI [V.int (a : Int), V.int (b : Int)] (if k = true then 1 else 0) = some (.int (m : Int)) := by
  cases k
  · exact ⟨a, .inl rfl, rfl⟩
  · exact ⟨b, .inr rfl, rfl⟩
end Wa
namespace Wa
open PySem PySem.Spec PyProof.Rows L2
/-! operators, the value renamed -/
section
variable {x y z : Int} {H : Hp} {Q : VK}
theorem rdAdd (e : x + y = z) (h : Q (.int z) H) : rI0 (fun i j => V.int (i + j)) (.int x) (.int y) H Q := ⟨x, y, rfl, rfl, by rw [← e] at h; exact h⟩
theorem rdSub (e : x - y = z) (h : Q (.int z) H) : rI0 (fun i j => V.int (i - j)) (.int x) (.int y) H Q := ⟨x, y, rfl, rfl, by rw [← e] at h; exact h⟩
theorem rdMod (h0 : 0 < y) (e : x % y = z) (h : Q (.int z) H) : rI (fun _ j => 0 < j) (fun i j => V.int (i % j)) (.int x) (.int y) H Q := ⟨x, y, rfl, rfl, h0, by rw [← e] at h; exact h⟩
theorem rdDiv (h0 : CDiv x y) (e : x / y = z) (h : Q (.int z) H) : rI CDiv (fun i j => V.int (i / j)) (.int x) (.int y) H Q := ⟨x, y, rfl, rfl, h0, by rw [← e] at h; exact h⟩
end
end Wa
namespace Wa
open PySem PySem.Spec PyProof.Rows L2
theorem join2 {α : Type} {goal : Prop} {C P : α → Hp → Prop} (main : (∀ x Hx, P x Hx → C x Hx) → goal) (rest : ∀ x Hx, P x Hx → C x Hx) : goal := main rest
end Wa
namespace Wa
open PySem PySem.Spec PyProof.Rows L2
/-- what stood stands but for what is at a; tables may have grown -/
structure OG (a : Addr) (H H' : Hp) : Prop where
  keep : ∀ b o, b ≠ a → H b = some o → (∀ ps, o ≠ .tbl ps) → H' b = some o
  tab : ∀ b, b ≠ a → GxR.TabG H b → GxR.TabG H' b
  there : ∀ b o, H b = some o → ∃ o', H' b = some o'
theorem OG.gr {a : Addr} {H H' : Hp} (g : Gr H H') : OG a H H' := ⟨fun b o _ e n => g.keep b o e n, fun b _ h => g.tab b h, g.there⟩
theorem OG.trans {a : Addr} {H H1 H2 : Hp} (x : OG a H H1) (y : OG a H1 H2) : OG a H H2 := ⟨fun b o n e t => y.keep b o n (x.keep b o n e t) t, fun b n h => y.tab b n (x.tab b n h), fun b o e => by
  obtain ⟨o1, e1⟩ := x.there b o e
  exact y.there b o1 e1⟩
theorem OG.pop {a : Addr} {H H' : Hp} (h : ∀ b, b ≠ a → ∀ o, H b = some o → H' b = some o) (ha : ∃ o, H' a = some o) : OG a H H' := ⟨fun b o n e _ => h b n o e, fun b n t => by
  obtain ⟨ps, e, q⟩ := t
  exact ⟨ps, h b n _ e, q⟩, fun b o e => by
  by_cases hb : b = a
  · rw [hb]; exact ha
  · exact ⟨o, h b hb o e⟩⟩
theorem OG.others {a : Addr} {H H' : Hp} (h : Others a H H') (ha : ∃ o, H' a = some o) : OG a H H' := OG.pop (fun b n o e => h b o n e) ha
theorem OG.over {a p : Addr} {H H1 : Hp} {o : HO} (g : OG a H H1) (h : H p = none) : OG a H (upd H1 p o) where
  keep := fun b u n e t => by
    rw [upd_ne (ne_of_none e h)]
    exact g.keep b u n e t
  tab := fun b n hb => by
    obtain ⟨ps, e, q⟩ := g.tab b n hb
    obtain ⟨ps0, e0, _⟩ := hb
    exact ⟨ps, by rw [upd_ne (ne_of_none e0 h)]; exact e, q⟩
  there := fun b u e => by
    rw [upd_ne (ne_of_none e h)]
    exact g.there b u e
theorem OG.free {a l : Addr} {H H' : Hp} (g : OG a H H') (h : H' l = none) : H l = none := by
  cases q : H l with
  | none => rfl
  | some o =>
    obtain ⟨o', e⟩ := g.there l o q
    rw [e] at h
    cases h
theorem at_og {H H9 : Hp} {l a : Addr} {xs : List V} (g : OG l H H9) (n : a ≠ l) (h : H a = some (.lst xs)) : H9 a = some (.lst xs) := g.keep a _ n h fun _ z => by cases z
theorem at_ogT {H H9 : Hp} {l a : Addr} {xs : List V} (g : OG l H H9) (n : a ≠ l) (h : H a = some (.tup xs)) : H9 a = some (.tup xs) := g.keep a _ n h fun _ z => by cases z
theorem tb_og {H H9 : Hp} {l P : Addr} {xs : List V} (g : OG l H H9) (hl : H l = some (.lst xs)) (h : GxR.TabG H P) : GxR.TabG H9 P := g.tab P (tb_ne h hl) h
end Wa
namespace Wa
open PySem PySem.Spec PyProof.Rows L2
theorem flat_vws (S : List (List Nat)) : (vws S).all flatV = true := by
  rw [List.all_eq_true]
  intro x hx
  obtain ⟨w, _, rfl⟩ := List.mem_map.mp hx
  rfl
theorem in_wsv (w : List Nat) (S : List (List Nat)) : inV (.str (wd w)) (vws S) = decide (w ∈ S) := by
  have key : inV (.str (wd w)) (vws S) = true ↔ w ∈ S := by
    unfold inV vws
    rw [List.any_map, List.any_eq_true]
    constructor
    · rintro ⟨u, hu, e⟩
      have e : (wd u == wd w) = true := e
      rw [← wd_inj (beq_iff_eq.mp e)]
      exact hu
    · intro h
      exact ⟨w, h, by show (wd w == wd w) = true; exact beq_self_eq_true _⟩
  by_cases h : w ∈ S
  · rw [decide_eq_true h]; exact key.mpr h
  · rw [decide_eq_false h, Bool.eq_false_iff]; exact fun z => h (key.mp z)
theorem inW {K : PySem.W.Frag} {H : Hp} {a : Addr} {S : List (List Nat)} {w : List Nat} {Q : VK} (ha : H a = some (.lst (vws S))) (h : Q (.bl (decide (w ∈ S))) H) : rIn K false (.str (wd w)) (.ref a) H Q :=
  ⟨a, _, rfl, .inl (sq ha), rfl, flat_vws S, by rw [in_wsv]; exact h⟩
theorem notInW {K : PySem.W.Frag} {H : Hp} {a : Addr} {S : List (List Nat)} {w : List Nat} {Q : VK} (ha : H a = some (.lst (vws S))) (h : Q (.bl (!decide (w ∈ S))) H) : rIn K true (.str (wd w)) (.ref a) H Q :=
  ⟨a, _, rfl, .inl (sq ha), rfl, flat_vws S, by rw [in_wsv]; exact h⟩
end Wa
namespace Wa
open PySem PySem.Spec PyProof.Rows L2
def topS (i : Nat) : Stmt := PySem.Challenge.pw_wordsapart_k16_whole_none_can_be_put_in.main.body.getD i (.Pass ⟨0, 0, 0, 0⟩)
abbrev sAllWords : Stmt := topS 2
abbrev sMarks : Stmt := topS 3
abbrev sGap : Stmt := topS 4
abbrev sNear : Stmt := topS 5
abbrev sKeeps : Stmt := topS 6
abbrev sFarAll : Stmt := topS 8
abbrev sInOrder : Stmt := topS 9
abbrev sTakenOn : Stmt := topS 10
abbrev sReach : Stmt := topS 11
abbrev sDraws : Stmt := topS 13
abbrev sPop : Stmt := topS 14
abbrev sSize : Stmt := topS 15
abbrev sWord : Stmt := topS 16
abbrev sFar : Stmt := topS 17
abbrev sList : Stmt := topS 18
abbrev sFull : Stmt := topS 19
abbrev sLaw : Stmt := topS 20
end Wa
namespace Wa
open PySem PySem.Spec PyProof.Rows L2
/-! marks, and the distance by them -/
/-- how many bits are one -/
def ones (n : Nat) : Nat := (Nat.toDigits 2 n).count '1'
theorem ones_step {n d : Nat} (hd : d < 2) : ones (2 * n + d) = ones n + d := by
  have h1 : ones d = d := by
    rcases (show d = 0 ∨ d = 1 by omega) with e | e <;> rw [e] <;> decide
  by_cases h0 : n = 0
  · subst h0
    rw [Nat.mul_zero, Nat.zero_add, h1]
    have : ones 0 = 0 := by decide
    omega
  · have := Nat.toDigits_append_toDigits (b := 2) (n := n) (d := d) (by decide) (by omega) hd
    have e : ones (2 * n + d) = ones n + ones d := by
      unfold ones
      rw [← this, List.count_append]
    rw [e, h1]
theorem ones_eight {n x : Nat} (hx : x < 8) : ones (8 * n + x) = ones n + ones x := by
  have e1 : 8 * n + x = 2 * (2 * (2 * n + x / 4) + x / 2 % 2) + x % 2 := by omega
  have e2 : x = 2 * (2 * (2 * 0 + x / 4) + x / 2 % 2) + x % 2 := by omega
  have h1 : ones (8 * n + x) = ones n + x / 4 + x / 2 % 2 + x % 2 := by rw [e1, ones_step (by omega), ones_step (by omega), ones_step (by omega)]
  have h2 : ones x = ones 0 + x / 4 + x / 2 % 2 + x % 2 := by
    have := ones_step (n := 2 * (2 * 0 + x / 4) + x / 2 % 2) (d := x % 2) (by omega)
    rw [← e2, ones_step (by omega), ones_step (by omega)] at this
    exact this
  have h3 : ones 0 = 0 := by decide
  omega
theorem xor_eight {a b x y : Nat} (hx : x < 8) (hy : y < 8) : (8 * a + x) ^^^ (8 * b + y) = 8 * (a ^^^ b) + (x ^^^ y) := by
  have hm : ((8 * a + x) ^^^ (8 * b + y)) % 2 ^ 3 = x ^^^ y := by
    rw [Nat.xor_mod_two_pow]
    have e1 : (8 * a + x) % 2 ^ 3 = x := by show (8 * a + x) % 8 = x; omega
    have e2 : (8 * b + y) % 2 ^ 3 = y := by show (8 * b + y) % 8 = y; omega
    rw [e1, e2]
  have hd : ((8 * a + x) ^^^ (8 * b + y)) / 2 ^ 3 = a ^^^ b := by
    rw [Nat.xor_div_two_pow]
    have e1 : (8 * a + x) / 2 ^ 3 = a := by show (8 * a + x) / 8 = a; omega
    have e2 : (8 * b + y) / 2 ^ 3 = b := by show (8 * b + y) / 8 = b; omega
    rw [e1, e2]
  have hm' : ((8 * a + x) ^^^ (8 * b + y)) % 8 = x ^^^ y := hm
  have hd' : ((8 * a + x) ^^^ (8 * b + y)) / 8 = a ^^^ b := hd
  omega
def mk (m : Nat) (w : List Nat) : Nat := w.foldl (fun n s => 8 * n + 2 ^ s) m
theorem mk_snoc (m : Nat) (w : List Nat) (s : Nat) : mk m (w ++ [s]) = 8 * mk m w + 2 ^ s := by
  unfold mk
  rw [List.foldl_append]
  rfl
theorem mk_lt : ∀ (w : List Nat), (∀ d ∈ w, d < 3) → mk 0 w < 8 ^ w.length := by
  have key : ∀ (w : List Nat) (m k : Nat), (∀ d ∈ w, d < 3) → m < 8 ^ k → mk m w < 8 ^ (k + w.length) := by
    intro w
    induction w with
    | nil => exact fun m k _ h => h
    | cons x w ih =>
      intro m k hw hm
      have hx := hw x List.mem_cons_self
      have h2 : 2 ^ x ≤ 4 := by
        rcases (show x = 0 ∨ x = 1 ∨ x = 2 by omega) with e | e | e <;> rw [e] <;> decide
      have := ih (8 * m + 2 ^ x) (k + 1) (fun d h => hw d (List.mem_cons_of_mem _ h)) (by rw [Nat.pow_succ]; omega)
      rw [List.length_cons, show k + (w.length + 1) = k + 1 + w.length by omega]
      exact this
  intro w hw
  have := key w 0 0 hw (by decide)
  rw [Nat.zero_add] at this
  exact this
theorem ones_two {x y : Nat} (hx : x < 3) (hy : y < 3) : 2 ^ x ^^^ 2 ^ y < 8 ∧ ones (2 ^ x ^^^ 2 ^ y) = 2 * (if x = y then 0 else 1) := by
  rcases (show x = 0 ∨ x = 1 ∨ x = 2 by omega) with e | e | e <;> rcases (show y = 0 ∨ y = 1 ∨ y = 2 by omega) with e' | e' | e' <;> rw [e, e'] <;> decide
theorem gap_eq : ∀ (a b : List Nat) (m k : Nat), a.length = b.length → (∀ d ∈ a, d < 3) → (∀ d ∈ b, d < 3) → ones (mk m a ^^^ mk k b) = ones (m ^^^ k) + 2 * dist a b
  | [], [], m, k, _, _, _ => rfl
  | [], _ :: _, _, _, h, _, _ => by cases h
  | _ :: _, [], _, _, h, _, _ => by cases h
  | x :: a, y :: b, m, k, h, ha, hb => by
    have hx := ha x List.mem_cons_self
    have hy := hb y List.mem_cons_self
    have ih := gap_eq a b (8 * m + 2 ^ x) (8 * k + 2 ^ y) (by injection h) (fun d h => ha d (List.mem_cons_of_mem _ h)) (fun d h => hb d (List.mem_cons_of_mem _ h))
    have p8 : ∀ z, z < 3 → 2 ^ z < 8 := fun z hz => by
      rcases (show z = 0 ∨ z = 1 ∨ z = 2 by omega) with e | e | e <;> rw [e] <;> decide
    obtain ⟨l1, l2⟩ := ones_two hx hy
    rw [xor_eight (p8 x hx) (p8 y hy), ones_eight l1, l2] at ih
    show ones (mk (8 * m + 2 ^ x) a ^^^ mk (8 * k + 2 ^ y) b) = ones (m ^^^ k) + 2 * ((if x = y then 0 else 1) + dist a b)
    rw [ih]
    omega
theorem gap_dist {a b : List Nat} (h : a.length = b.length) (ha : ∀ d ∈ a, d < 3) (hb : ∀ d ∈ b, d < 3) : ones (mk 0 a ^^^ mk 0 b) = 2 * dist a b := by
  rw [gap_eq a b 0 0 h ha hb]
  have : ones (0 ^^^ 0) = 0 := by decide
  omega
theorem bits_count (n : Nat) : Txt.count (bitsS n) ("1" : Str) = (ones n : Int) := by
  have e0 : ("1" : Str) = ⟨#[49]⟩ := by decide +kernel
  rw [e0, count_sign]
  congr 1
  show ((Nat.toDigits 2 n).map Char.toNat).count 49 = _
  unfold ones
  have key : ∀ l : List Char, (l.map Char.toNat).count 49 = l.count '1' := by
    intro l
    induction l with
    | nil => rfl
    | cons c l ih =>
      rw [List.map_cons, List.count_cons, List.count_cons, ih]
      by_cases e : c = '1'
      · rw [e]
        rfl
      · rw [if_neg (by
          intro z
          have h : c.toNat = 49 := beq_iff_eq.mp z
          exact e (Char.toNat_inj.mp h)), if_neg (by intro z; exact e (beq_iff_eq.mp z))]
  exact key _
theorem bits_len {n k : Nat} (h : n < 2 ^ k) (hk : 0 < k) : (bitsS n).length ≤ k := by
  show ((Nat.toDigits 2 n).map Char.toNat).toArray.size ≤ k
  rw [List.size_toArray, List.length_map]
  exact (Nat.length_toDigits_le_iff (by decide) hk).mpr h
end Wa
namespace Wa
open PySem PySem.Spec PyProof.Rows L2
/-! lists of marks -/
def mks (ws : List (List Nat)) : List Int := ws.map fun w => ((mk 0 w : Nat) : Int)
theorem mks_get {ws : List (List Nat)} {i : Nat} {w : List Nat} (h : ws[i]? = some w) : ((mks ws).map V.int)[i]? = some (.int (mk 0 w : Nat)) := by
  unfold mks
  rw [List.getElem?_map, List.getElem?_map, h]
  rfl
theorem mks_len (ws : List (List Nat)) : ((mks ws).map V.int).length = ws.length := by
  unfold mks
  rw [List.length_map, List.length_map]
theorem mks_snoc (ws : List (List Nat)) (w : List Nat) : (mks (ws ++ [w])).map V.int = (mks ws).map V.int ++ [V.int (mk 0 w : Nat)] := by
  unfold mks
  rw [List.map_append, List.map_append]
  rfl
end Wa
namespace Wa
open PySem PySem.Spec PyProof.Rows L2
/-! the least distance -/
def IsMin (m : Nat) (l : List Nat) : Prop := m ∈ l ∧ ∀ y ∈ l, m ≤ y
theorem IsMin.eq {m k : Nat} {l l' : List Nat} (h : IsMin m l) (h' : IsMin k l') (e : ∀ y, y ∈ l ↔ y ∈ l') : m = k := by
  have h1 := h.2 k ((e k).mpr h'.1)
  have h2 := h'.2 m ((e m).mp h.1)
  omega
/-- the distances to the words ahead -/
def ahd (ws : List (List Nat)) (k : Nat) : List Nat := match ws[k]? with | some w => (ws.take k).map (dist w) | none => []
theorem ahd_some {ws : List (List Nat)} {k : Nat} {w : List Nat} (h : ws[k]? = some w) : ahd ws k = (ws.take k).map (dist w) := by
  unfold ahd
  rw [h]
def gps (ws : List (List Nat)) : List Nat := (List.range ws.length).flatMap (ahd ws)
theorem mem_gps {ws : List (List Nat)} {y : Nat} : y ∈ gps ws ↔ ∃ (i j : Nat) (u v : List Nat), i < j ∧ ws[i]? = some u ∧ ws[j]? = some v ∧ dist v u = y := by
  unfold gps
  rw [List.mem_flatMap]
  constructor
  · rintro ⟨j, hj, hy⟩
    have hj := List.mem_range.mp hj
    have gj : ws[j]? = some ws[j] := List.getElem?_eq_getElem hj
    rw [ahd_some gj] at hy
    obtain ⟨u, hu, e⟩ := List.mem_map.mp hy
    obtain ⟨i, hi, ei⟩ := List.getElem_of_mem hu
    rw [List.length_take] at hi
    refine ⟨i, j, u, ws[j], by omega, ?_, gj, e⟩
    rw [List.getElem_take] at ei
    rw [List.getElem?_eq_getElem (by omega), ei]
  · rintro ⟨i, j, u, v, hij, gi, gj, e⟩
    have hj : j < ws.length := (List.getElem?_eq_some_iff.mp gj).1
    refine ⟨j, List.mem_range.mpr hj, ?_⟩
    rw [ahd_some gj]
    refine List.mem_map.mpr ⟨u, ?_, e⟩
    refine List.mem_of_getElem? (i := i) ?_
    rw [List.getElem?_take, if_pos hij]
    exact gi
theorem gps_rev (ws : List (List Nat)) : ∀ y, y ∈ gps ws.reverse ↔ y ∈ gps ws := by
  have key : ∀ (ws : List (List Nat)) y, y ∈ gps ws → y ∈ gps ws.reverse := by
    intro ws y h
    obtain ⟨i, j, u, v, hij, gi, gj, e⟩ := mem_gps.mp h
    have hj : j < ws.length := (List.getElem?_eq_some_iff.mp gj).1
    refine mem_gps.mpr ⟨ws.length - 1 - j, ws.length - 1 - i, v, u, by omega, ?_, ?_, by rw [dist_comm]; exact e⟩
    · rw [List.getElem?_reverse (by omega), show ws.length - 1 - (ws.length - 1 - j) = j by omega]
      exact gj
    · rw [List.getElem?_reverse (by omega), show ws.length - 1 - (ws.length - 1 - i) = i by omega]
      exact gi
  intro y
  refine ⟨fun h => ?_, key ws y⟩
  have := key _ y h
  rw [List.reverse_reverse] at this
  exact this
theorem gps_nil {ws : List (List Nat)} : gps ws = [] ↔ ws.length < 2 := by
  constructor
  · intro h
    apply Classical.byContradiction
    intro z
    have : dist ws[1] ws[0] ∈ gps ws := mem_gps.mpr ⟨0, 1, ws[0], ws[1], by decide, List.getElem?_eq_getElem (by omega), List.getElem?_eq_getElem (by omega), rfl⟩
    rw [h] at this
    cases this
  · intro h
    rw [List.eq_nil_iff_forall_not_mem]
    intro y hy
    obtain ⟨i, j, u, v, hij, gi, gj, e⟩ := mem_gps.mp hy
    have hj : j < ws.length := (List.getElem?_eq_some_iff.mp gj).1
    omega
/-- the least of what each has ahead of it is the least of all -/
theorem min_all {ws : List (List Nat)} {ms : List Nat} (hl : ms.length + 1 = ws.length) (h : ∀ i m, ms[i]? = some m → IsMin m (ahd ws (i + 1))) {m : Nat} (hm : m ∈ ms) (hle : ∀ y ∈ ms, m ≤ y) : IsMin m (gps ws) := by
  obtain ⟨i, hi, ei⟩ := List.getElem_of_mem hm
  have gi : ms[i]? = some m := by rw [List.getElem?_eq_getElem hi, ei]
  refine ⟨List.mem_flatMap.mpr ⟨i + 1, List.mem_range.mpr (by omega), (h i m gi).1⟩, fun y hy => ?_⟩
  obtain ⟨k, hk, hy⟩ := List.mem_flatMap.mp hy
  have hk := List.mem_range.mp hk
  cases k with
  | zero =>
    rw [ahd_some (List.getElem?_eq_getElem hk), List.take_zero] at hy
    cases hy
  | succ k =>
    have gk : ms[k]? = some ms[k] := List.getElem?_eq_getElem (by omega)
    exact Nat.le_trans (hle _ (List.mem_of_getElem? gk)) ((h k _ gk).2 y hy)
def vns (ds : List Nat) : List V := ds.map fun d : Nat => V.int (d : Int)
def ins (ds : List Nat) : List Int := ds.map fun d : Nat => (d : Int)
theorem vns_ins (ds : List Nat) : (ins ds).map V.int = vns ds := by
  unfold ins vns
  rw [List.map_map]
  rfl
theorem vns_len (ds : List Nat) : (vns ds).length = ds.length := List.length_map ..
theorem vns_snoc (ds : List Nat) (d : Nat) : vns (ds ++ [d]) = vns ds ++ [V.int (d : Int)] := List.map_append ..
theorem min_ins {ds : List Nat} {m : Int} (hm : m ∈ ins ds) (hl : ∀ y ∈ ins ds, m ≤ y) : ∃ k : Nat, m = k ∧ IsMin k ds := by
  obtain ⟨k, hk, e⟩ := List.mem_map.mp hm
  refine ⟨k, e.symm, hk, fun y hy => ?_⟩
  have := hl y (List.mem_map.mpr ⟨y, hy, rfl⟩)
  omega
def Ws (ws : List (List Nat)) : Prop := ∃ q n, q ≤ 3 ∧ n ≤ 16 ∧ ∀ w ∈ ws, Wd q n w
theorem cut_mks (ws : List (List Nat)) (k : Nat) (h : k ≤ ws.length) : cutV ((mks ws).map V.int) none (some (k : Int)) = (mks (ws.take k)).map V.int := by
  unfold cutV
  rw [HT.sIx_none, List.drop_zero, Nat.sub_zero]
  have e : HT.sIx ((mks ws).map V.int).length ((mks ws).map V.int).length (some (k : Int)) = k := by
    rw [mks_len, HT.sIx_nat]
    exact Nat.min_eq_left h
  rw [e]
  unfold mks
  rw [List.map_take, List.map_take]
end Wa
namespace Wa
open PySem PySem.Spec PyProof.Rows L2
/-! all, sum over generator expressions, by what each turn gives -/
theorem allG {α : Type} {J : It} {H1 : Hp} {l : List α} {Φ : α → Hp → V → Prop} {g : TG} {te : TE} {vs : List Nat} {σ : L2.St} {Q : VK} (hJ : HandsR J H1 l Φ) (p : α → Bool)
    (hs : ∀ d x H' (Y : VK) (N : Hp → Prop), d ∈ l → Gr H1 H' → Φ d H' x → (∀ H'', Gr H' H'' → Y (.bl (p d)) H'') → g x (wipe σ vs) H' fun σ2 H2 => wipe σ2 vs = wipe σ vs ∧ tYes σ2 H2 fun b H3 => if b = true then te σ2 H3 Y else N H3)
    (hd : ∀ H', Gr H1 H' → Q (.bl (l.all p)) H') : ∃ W : Nat → Nat → List V → Hp → Prop, (∃ m, W 0 m [] H1) ∧ Gx.Turns J g tYes te vs σ (Gx.onAll Q) (Gx.finAll Q) W := by
  refine turns_n l.length (fun i acc H' => Gr H1 H' ∧ ∀ d ∈ l.take i, p d = true) ⟨Gr.refl _, fun d h => absurd h (by simp)⟩ (fun i acc H' hi ⟨i1, i2⟩ => ⟨hJ.go i H' hi i1, fun x H'' y => ?_⟩) (fun acc H' ⟨i1, i2⟩ => ⟨hJ.stop H' i1, ?_⟩)
  · obtain ⟨g1, d, ed, ex⟩ := hJ.yld i H' x H'' hi i1 y
    have hm := List.mem_of_getElem? ed
    refine hs d x H'' _ _ hm (i1.trans g1) ex fun H3 g3 => ⟨p d, rfl, ?_⟩
    have gg := i1.trans (g1.trans g3)
    by_cases e : p d = true
    · rw [if_pos e]
      refine ⟨gg, fun u hu => ?_⟩
      rw [List.take_add_one, ed] at hu
      rcases List.mem_append.mp hu with z | z
      · exact i2 u z
      · rw [List.mem_singleton.mp z]
        exact e
    · rw [if_neg e]
      have ef : l.all p = false := by
        rw [Bool.eq_false_iff]
        intro z
        exact e (List.all_eq_true.mp z d hm)
      have := hd H3 gg
      rw [ef] at this
      exact this
  · rw [List.take_length] at i2
    have := hd H' i1
    rw [List.all_eq_true.mpr i2] at this
    exact this
theorem isum_app (a : List V) (i : Int) : Gx.isum (a ++ [.int i]) = Gx.isum a + i := by
  induction a with
  | nil => show i + 0 = 0 + i; omega
  | cons x a ih =>
    cases x <;> show _ = _ <;> first | exact ih | skip
    rename_i j
    show j + Gx.isum (a ++ [.int i]) = j + Gx.isum a + i
    omega
/-! the least, the greatest -/
def mnL : List Nat → Nat
  | [] => 0
  | [x] => x
  | x :: y :: r => min x (mnL (y :: r))
theorem mnL_is : ∀ {l : List Nat}, l ≠ [] → IsMin (mnL l) l
  | [], h => absurd rfl h
  | [x], _ => ⟨List.mem_singleton.mpr rfl, fun y hy => by rw [List.mem_singleton.mp hy]; exact Nat.le_refl x⟩
  | x :: y :: r, _ => by
    obtain ⟨h1, h2⟩ := mnL_is (l := y :: r) (by simp)
    show IsMin (min x (mnL (y :: r))) _
    refine ⟨?_, fun z hz => ?_⟩
    · by_cases h : x ≤ mnL (y :: r)
      · rw [Nat.min_eq_left h]
        exact List.mem_cons_self
      · rw [Nat.min_eq_right (by omega)]
        exact List.mem_cons_of_mem _ h1
    · rcases List.mem_cons.mp hz with e | hz
      · rw [e]
        exact Nat.min_le_left ..
      · exact Nat.le_trans (Nat.min_le_right ..) (h2 z hz)
theorem mnL_eq {l : List Nat} {m : Nat} (h : IsMin m l) : m = mnL l := by
  have hne : l ≠ [] := fun z => by
    have := h.1
    rw [z] at this
    cases this
  exact h.eq (mnL_is hne) fun y => Iff.rfl
def mxL (l : List Nat) : Nat := l.foldl max 0
theorem foldl_max : ∀ (l : List Nat) (a : Nat), a ≤ l.foldl max a ∧ (∀ y ∈ l, y ≤ l.foldl max a) ∧ (l.foldl max a = a ∨ l.foldl max a ∈ l)
  | [], a => ⟨Nat.le_refl _, fun y h => absurd h (by simp), .inl rfl⟩
  | x :: l, a => by
    obtain ⟨h1, h2, h3⟩ := foldl_max l (max a x)
    show a ≤ l.foldl max (max a x) ∧ _
    refine ⟨by omega, fun y hy => ?_, ?_⟩
    · show y ≤ l.foldl max (max a x)
      rcases List.mem_cons.mp hy with e | hy
      · rw [e]; omega
      · exact h2 y hy
    · show l.foldl max (max a x) = a ∨ l.foldl max (max a x) ∈ x :: l
      rcases h3 with e | h3
      · by_cases h : a ≤ x
        · rw [e, Nat.max_eq_right h]
          exact .inr List.mem_cons_self
        · exact .inl (by omega)
      · exact .inr (List.mem_cons_of_mem _ h3)
theorem mxL_ge {l : List Nat} : ∀ y ∈ l, y ≤ mxL l := (foldl_max l 0).2.1
theorem mxL_eq {l : List Nat} {m : Nat} (hm : m ∈ l) (h : ∀ y ∈ l, y ≤ m) : m = mxL l := by
  have h1 := mxL_ge m hm
  rcases (foldl_max l 0).2.2 with e | e
  · have : mxL l = 0 := e
    omega
  · have := h _ e
    have : mxL l ≤ m := this
    omega
theorem mxL_mem {l : List Nat} (h : l ≠ []) : mxL l ∈ l := by
  rcases (foldl_max l 0).2.2 with e | e
  · obtain ⟨x, r, rfl⟩ := List.exists_cons_of_ne_nil h
    have h1 := mxL_ge (l := x :: r) x List.mem_cons_self
    have e : mxL (x :: r) = 0 := e
    have : x = 0 := by omega
    rw [e]
    rw [← this]
    exact List.mem_cons_self
  · exact e
end Wa
namespace Wa
open PySem PySem.Spec PyProof.Rows L2
/-! lists taken in order -/
def farA (d : Int) (u : List Nat) (C : List (List Nat)) : Bool := C.all fun w => decide (d ≤ (dist u w : Int))
def gstep (d : Int) (C : List (List Nat)) (w : List Nat) : List (List Nat) := if farA d w C = true then C ++ [w] else C
theorem gstep_pos {d : Int} {C : List (List Nat)} {w : List Nat} (h : farA d w C = true) : gstep d C w = C ++ [w] := by
  unfold gstep
  rw [if_pos h]
theorem gstep_neg {d : Int} {C : List (List Nat)} {w : List Nat} (h : ¬ farA d w C = true) : gstep d C w = C := by
  unfold gstep
  rw [if_neg h]
def grd (q n : Nat) (d : Int) (C : List (List Nat)) : List (List Nat) := (allD q n).foldl (gstep d) C
theorem gfold_mem {d : Int} : ∀ (L C : List (List Nat)), ∀ w ∈ L.foldl (gstep d) C, w ∈ C ∨ w ∈ L
  | [], _, w, h => .inl h
  | x :: L, C, w, h => by
    rcases gfold_mem L (gstep d C x) w h with z | z
    · unfold gstep at z
      split at z
      · rcases List.mem_append.mp z with z | z
        · exact .inl z
        · exact .inr (by rw [List.mem_singleton.mp z]; exact List.mem_cons_self)
      · exact .inl z
    · exact .inr (List.mem_cons_of_mem _ z)
theorem gfold_len {d : Int} : ∀ (L C : List (List Nat)), (L.foldl (gstep d) C).length ≤ C.length + L.length
  | [], _ => Nat.le_refl _
  | x :: L, C => by
    have := gfold_len (d := d) L (gstep d C x)
    have h2 : (gstep d C x).length ≤ C.length + 1 := by
      unfold gstep
      split
      · rw [List.length_append]; exact Nat.le_refl _
      · omega
    show (L.foldl (gstep d) (gstep d C x)).length ≤ C.length + (L.length + 1)
    omega
theorem gfold_take {d : Int} {L C : List (List Nat)} {i : Nat} {w : List Nat} (h : L[i]? = some w) : (L.take (i + 1)).foldl (gstep d) C = gstep d ((L.take i).foldl (gstep d) C) w := by
  rw [List.take_add_one, h, List.foldl_append]
  rfl
theorem allD_wd {q n : Nat} : ∀ w ∈ allD q n, Wd q n w := fun w h => ⟨(allD_mem h).1, (allD_mem h).2⟩
theorem grd_wd {q n : Nat} {d : Int} {C : List (List Nat)} (h : ∀ w ∈ C, Wd q n w) : ∀ w ∈ grd q n d C, Wd q n w := fun w hw => by
  rcases gfold_mem _ _ w hw with z | z
  · exact h w z
  · exact allD_wd w z
theorem near_nil {d : Int} {C : List (List Nat)} {u : List Nat} : (C.filter fun w => decide ((dist w u : Int) < d)) = [] ↔ farA d u C = true := by
  unfold farA
  rw [List.filter_eq_nil_iff, List.all_eq_true]
  constructor
  · intro h w hw
    have := h w hw
    rw [dist_comm u w]
    exact decide_eq_true (by
      have h2 : ¬ (dist w u : Int) < d := fun z => this (decide_eq_true z)
      omega)
  · intro h w hw z
    have h1 := of_decide_eq_true (h w hw)
    have h2 := of_decide_eq_true z
    rw [dist_comm u w] at h1
    omega
/-- no two nearer than that -/
def Apt (d : Int) (ws : List (List Nat)) : Prop := ws.Pairwise fun a b => d ≤ (dist a b : Int)
theorem apt_snoc {d : Int} {ws : List (List Nat)} {w : List Nat} (h : Apt d ws) (hw : ∀ u ∈ ws, d ≤ (dist u w : Int)) : Apt d (ws ++ [w]) := List.pairwise_append.mpr ⟨h, List.pairwise_singleton .., fun a ha b hb => by rw [List.mem_singleton.mp hb]; exact hw a ha⟩
theorem gfold_apt {d : Int} : ∀ (L C : List (List Nat)), Apt d C → Apt d (L.foldl (gstep d) C)
  | [], _, h => h
  | x :: L, C, h => by
    refine gfold_apt L (gstep d C x) ?_
    unfold gstep
    split
    · rename_i e
      refine apt_snoc h fun u hu => ?_
      have := of_decide_eq_true (List.all_eq_true.mp e u hu)
      rw [dist_comm]
      exact this
    · exact h
theorem gfold_sub {d : Int} : ∀ (L C : List (List Nat)), ∀ w ∈ C, w ∈ L.foldl (gstep d) C
  | [], _, w, h => h
  | x :: L, C, w, h => by
    refine gfold_sub L (gstep d C x) w ?_
    unfold gstep
    split
    · exact List.mem_append_left _ h
    · exact h
theorem far_not {d : Int} {C : List (List Nat)} {u : List Nat} (h : ¬ farA d u C = true) : ∃ c ∈ C, (dist c u : Int) < d := by
  apply Classical.byContradiction
  intro z
  refine h (List.all_eq_true.mpr fun c hc => decide_eq_true ?_)
  apply Classical.byContradiction
  intro y
  exact z ⟨c, hc, by rw [dist_comm]; omega⟩
theorem gfold_cover {d : Int} : ∀ (L C : List (List Nat)), ∀ w ∈ L, w ∈ L.foldl (gstep d) C ∨ ∃ c ∈ L.foldl (gstep d) C, (dist c w : Int) < d
  | [], _, w, h => absurd h (by simp)
  | x :: L, C, w, h => by
    rcases List.mem_cons.mp h with e | h
    · subst e
      by_cases e : farA d w C = true
      · exact .inl (gfold_sub L _ w (by rw [gstep_pos e]; exact List.mem_append_right _ (List.mem_singleton.mpr rfl)))
      · obtain ⟨c, hc, hd⟩ := far_not e
        exact .inr ⟨c, gfold_sub L _ c (by rw [gstep_neg e]; exact hc), hd⟩
    · exact gfold_cover L (gstep d C x) w h
theorem gfold_stay {d : Int} : ∀ (L C : List (List Nat)), (∀ w ∈ L, ¬ farA d w C = true) → L.foldl (gstep d) C = C
  | [], _, _ => rfl
  | x :: L, C, h => by
    show L.foldl (gstep d) (gstep d C x) = C
    rw [gstep_neg (h x List.mem_cons_self)]
    exact gfold_stay L C fun w hw => h w (List.mem_cons_of_mem _ hw)
theorem dist_self : ∀ (a : List Nat), dist a a = 0
  | [] => rfl
  | x :: a => by
    show (if x = x then 0 else 1) + dist a a = 0
    rw [if_pos rfl, dist_self a]
/-- every word is near one of it -/
def Cov (q n : Nat) (d : Int) (C : List (List Nat)) : Prop := ∀ w ∈ allD q n, w ∈ C ∨ ∃ c ∈ C, (dist c w : Int) < d
theorem grd_cov {q n : Nat} {d : Int} {C : List (List Nat)} : Cov q n d (srt (grd q n d C)) := fun w hw => by
  rcases gfold_cover (d := d) (allD q n) C w hw with h | ⟨c, hc, h⟩
  · exact .inl (srt_mem.mpr h)
  · exact .inr ⟨c, srt_mem.mpr hc, h⟩
theorem cov_near {q n : Nat} {d : Int} {C : List (List Nat)} (hd : 1 ≤ d) (h : Cov q n d C) {w : List Nat} (hw : w ∈ allD q n) : ∃ c ∈ C, (dist c w : Int) < d := by
  rcases h w hw with h | h
  · exact ⟨w, h, by rw [dist_self]; show (0 : Int) < d; omega⟩
  · exact h
theorem cov_stay {q n : Nat} {d : Int} {C : List (List Nat)} (hd : 1 ≤ d) (h : Cov q n d C) : grd q n d C = C := gfold_stay _ _ fun w hw e => by
  obtain ⟨c, hc, hl⟩ := cov_near hd h hw
  have := of_decide_eq_true (List.all_eq_true.mp e c hc)
  rw [dist_comm] at this
  omega
theorem apt_srt {d : Int} {C : List (List Nat)} (h : Apt d C) : Apt d (srt C) := ((srt_perm C).pairwise_iff fun {x y} h => by rw [dist_comm]; exact h).mpr h
theorem allD_head {q : Nat} (hq : 1 ≤ q) : ∀ n, ∃ r, allD q n = List.replicate n 0 :: r
  | 0 => ⟨[], rfl⟩
  | n + 1 => by
    obtain ⟨r, e⟩ := allD_head hq n
    obtain ⟨k, rfl⟩ : ∃ k, q = k + 1 := ⟨q - 1, by omega⟩
    refine ⟨((List.range k).map Nat.succ).map (fun s => List.replicate n 0 ++ [s]) ++ r.flatMap fun w => (List.range (k + 1)).map fun s => w ++ [s], ?_⟩
    show (allD (k + 1) n).flatMap (fun w => (List.range (k + 1)).map fun s => w ++ [s]) = _
    rw [e, List.flatMap_cons, List.range_succ_eq_map, List.map_cons, List.replicate_succ', List.cons_append]
theorem grd_zero {q n : Nat} {d : Int} (hq : 1 ≤ q) : List.replicate n 0 ∈ grd q n d [] := by
  obtain ⟨r, e⟩ := allD_head hq n
  unfold grd
  rw [e]
  exact gfold_sub r _ _ (by rw [gstep_pos (show farA d (List.replicate n 0) [] = true from rfl)]; exact List.mem_singleton.mpr rfl)
def far (ws : List (List Nat)) (d : Int) : Bool := (gps ws).all fun y => decide (d ≤ (y : Int))
theorem far_iff {ws : List (List Nat)} {d : Int} : far ws d = true ↔ ∀ y ∈ gps ws, d ≤ (y : Int) := by
  unfold far
  rw [List.all_eq_true]
  exact ⟨fun h y hy => of_decide_eq_true (h y hy), fun h y hy => decide_eq_true (h y hy)⟩
theorem far_of_apt {ws : List (List Nat)} {d : Int} (h : Apt d ws) : far ws d = true := far_iff.mpr fun y hy => by
  obtain ⟨i, j, u, v, hij, gi, gj, e⟩ := mem_gps.mp hy
  obtain ⟨h1, e1⟩ := List.getElem?_eq_some_iff.mp gi
  obtain ⟨h2, e2⟩ := List.getElem?_eq_some_iff.mp gj
  have := List.pairwise_iff_getElem.mp h i j h1 h2 hij
  rw [e1, e2, dist_comm, e] at this
  exact this
end Wa
namespace Wa
open PySem PySem.Spec PyProof.Rows L2
/-! the nearest words, and the reach -/
/-- the distance of the nearest words -/
def nst (ws : List (List Nat)) (u : List Nat) : Nat := mnL (ws.map (dist u))
def rch (q n : Nat) (ws : List (List Nat)) : Nat := mxL ((allD q n).map (nst ws))
theorem ints_min {l : List Nat} {m : Int} (hm : m ∈ ins l) (h : ∀ y ∈ ins l, m ≤ y) : m = ((mnL l : Nat) : Int) := by
  obtain ⟨k, rfl, hk⟩ := min_ins hm h
  rw [mnL_eq hk]
theorem ints_max {l : List Nat} {m : Int} (hm : m ∈ ins l) (h : ∀ y ∈ ins l, y ≤ m) : m = ((mxL l : Nat) : Int) := by
  obtain ⟨k, hk, rfl⟩ := List.mem_map.mp hm
  rw [mxL_eq hk fun y hy => by
    have := h y (List.mem_map.mpr ⟨y, hy, rfl⟩)
    omega]
theorem ins_v {α : Type} (l : List α) (f : α → Nat) : (l.map fun x => V.int (f x : Nat)) = (ins (l.map f)).map V.int := by
  unfold ins
  rw [List.map_map, List.map_map]
  rfl
theorem ins_len (l : List Nat) : (ins l).length = l.length := List.length_map ..
end Wa
namespace Wa
open PySem PySem.Spec PyProof.Rows L2
/-! weights -/
def wt (a : List Nat) : Nat := dist a (List.replicate a.length 0)
theorem wt_cons (x : Nat) (a : List Nat) : wt (x :: a) = (if x = 0 then 0 else 1) + wt a := rfl
theorem wt_count : ∀ a : List Nat, wt a + (a.map (48 + ·)).count 48 = a.length
  | [] => rfl
  | x :: a => by
    have ih := wt_count a
    rw [wt_cons, List.map_cons, List.count_cons, List.length_cons]
    by_cases e : x = 0
    · subst e
      rw [if_pos rfl, if_pos (by rfl)]
      omega
    · rw [if_neg e, if_neg (by
        intro z
        have : 48 + x = 48 := beq_iff_eq.mp z
        omega)]
      omega
theorem count_noughts (w : List Nat) : (w.length : Int) - Txt.count (wd w) ("0" : Str) = ((wt w : Nat) : Int) := by
  have e0 : ("0" : Str) = ⟨#[48]⟩ := by decide +kernel
  rw [e0, count_sign, wd_list]
  have := wt_count w
  omega
end Wa
/-! min and max of a list of numbers with a number as default; max and min of a few numbers -/
namespace Wa
open PySem PySem.Spec PyProof.Rows L2
theorem minOf_leastE (x : Int) : ∀ xs : List Int, PySem.W.minOf x xs ∈ x :: xs ∧ ∀ y ∈ x :: xs, PySem.W.minOf x xs ≤ y := by
  intro xs
  unfold PySem.W.minOf
  induction xs generalizing x with
  | nil => exact ⟨List.mem_cons_self, fun y hy => by rw [List.mem_singleton.mp hy]; exact Int.le_refl _⟩
  | cons z zs ih =>
    rw [List.foldl_cons]
    by_cases h : PySem.W.DatumOrd.lt z x = true
    · rw [if_pos h]
      have hl : z < x := of_decide_eq_true h
      obtain ⟨i1, i2⟩ := ih z
      refine ⟨List.mem_cons_of_mem _ i1, fun y hy => ?_⟩
      rcases List.mem_cons.mp hy with e | e
      · have := i2 z List.mem_cons_self
        omega
      · exact i2 y e
    · rw [if_neg h]
      have hl : ¬ z < x := fun q => h (decide_eq_true q)
      obtain ⟨i1, i2⟩ := ih x
      refine ⟨?_, fun y hy => ?_⟩
      · rcases List.mem_cons.mp i1 with e | e
        · rw [e]; exact List.mem_cons_self
        · exact List.mem_cons_of_mem _ (List.mem_cons_of_mem _ e)
      · have hx := i2 x List.mem_cons_self
        rcases List.mem_cons.mp hy with e | e
        · rw [e]; exact hx
        · rcases List.mem_cons.mp e with e | e
          · rw [e]; omega
          · exact i2 y (List.mem_cons_of_mem _ e)
theorem maxOf_mostE (x : Int) : ∀ xs : List Int, PySem.W.maxOf x xs ∈ x :: xs ∧ ∀ y ∈ x :: xs, y ≤ PySem.W.maxOf x xs := by
  intro xs
  unfold PySem.W.maxOf
  induction xs generalizing x with
  | nil => exact ⟨List.mem_cons_self, fun y hy => by rw [List.mem_singleton.mp hy]; exact Int.le_refl _⟩
  | cons z zs ih =>
    rw [List.foldl_cons]
    by_cases h : PySem.W.DatumOrd.lt x z = true
    · rw [if_pos h]
      have hl : x < z := of_decide_eq_true h
      obtain ⟨i1, i2⟩ := ih z
      refine ⟨List.mem_cons_of_mem _ i1, fun y hy => ?_⟩
      rcases List.mem_cons.mp hy with e | e
      · have := i2 z List.mem_cons_self
        omega
      · exact i2 y e
    · rw [if_neg h]
      have hl : ¬ x < z := fun q => h (decide_eq_true q)
      obtain ⟨i1, i2⟩ := ih x
      refine ⟨?_, fun y hy => ?_⟩
      · rcases List.mem_cons.mp i1 with e | e
        · rw [e]; exact List.mem_cons_self
        · exact List.mem_cons_of_mem _ (List.mem_cons_of_mem _ e)
      · have hx := i2 x List.mem_cons_self
        rcases List.mem_cons.mp hy with e | e
        · rw [e]; exact hx
        · rcases List.mem_cons.mp e with e | e
          · rw [e]; omega
          · exact i2 y (List.mem_cons_of_mem _ e)
section
variable {X : Cx}
/-- min(xs, default=k), xs not empty -/
theorem pe_minE {e : Expr} {ta : TA} {p p2 kp pos : Pos} {k : Nat} {i : Int} (hc : X.calm = true) (hu : X.A.units + 64 < cLine) (hg : Gl X "min") (hm : X.mg "min" = none) (ha : PA X [e] ta)
    (he : backTo pos (starEach [e] X.env) = (false, eval e X.env) :: backTo pos (starEach [] X.env) := by rfl) :
    PE X (.Call (.Name "min" p) [e] [⟨some ("default" : Str), .Constant (.int i) k p2, kp⟩] pos) (tCB (rMin X.K) ta) := by
  refine ⟨fun pins s σ H Q I h => ?_⟩
  refine wpAny_Call_Name_kw (ld_blt I hg hm (u := .builtin "min") (by first | rfl | decide +kernel) ?_ (by first | decide +kernel | decide) (by first | decide +kernel | decide))
  refine PyProof.Rows.callWith_kw (thn (ha.run pos pins s σ H _ I h) fun us s1 ⟨vs, H1, I1, r, a, ns, ev, hs, q0, q1⟩ => ?_) he (by rw [he]; rfl)
  subst ev
  rw [Vals.ref1 r]
  refine thn ((pk_cons (nm := some ("default" : Str)) (kpos := kp) pe_int pk_nil).run pos pins s1 σ H1 (fun zs H2 => zs = [.int i] ∧ H2 = H1) I1 ⟨rfl, rfl⟩) fun ws s2 ⟨zs, H2, I2, rz, ez, eh⟩ => ?_
  subst ez
  subst eh
  obtain ⟨t, ews⟩ : ∃ t, ws = [Value.int i t] := by
    cases rz with
    | cons r t =>
      cases t
      obtain ⟨t, rfl⟩ := r
      exact ⟨t, rfl⟩
  subst ews
  obtain ⟨its, rv, hl, _⟩ := I2.list hs
  show wpAny _ _ (call (.builtin "min") [.ref a] [(("default" : Str), .int i t)]) _ _ s2
  refine PySem.W.min_list_datum_default (xs := ns) (I2.ok.hd hc) hl.isList (PySem.W.HoldAll.of_ints rv.ints) (show X.A.units + 1 + 0 < cLine by omega) (fun e h' tk hk => ?_) fun y ys i v h' tk e hi hv hk => ?_
  · rw [e] at q0
    exact absurd q0 (by decide)
  · obtain ⟨as, hv⟩ := hv
    obtain ⟨l1, l2⟩ := minOf_leastE y ys
    obtain ⟨t, rfl⟩ : ∃ t, v = Value.int (PySem.W.minOf y ys) t := by
      cases hv
      exact ⟨_, rfl⟩
    exact ⟨.int (PySem.W.minOf y ys), H2, I2.kept hk, ⟨t, rfl⟩, q1 _ (by rw [e]; exact l1) (by rw [e]; exact l2)⟩
/-- max(xs, default=k), xs not empty -/
theorem pe_maxE {e : Expr} {ta : TA} {p p2 kp pos : Pos} {k : Nat} {i : Int} (hc : X.calm = true) (hu : X.A.units + 64 < cLine) (hg : Gl X "max") (hm : X.mg "max" = none) (ha : PA X [e] ta)
    (he : backTo pos (starEach [e] X.env) = (false, eval e X.env) :: backTo pos (starEach [] X.env) := by rfl) :
    PE X (.Call (.Name "max" p) [e] [⟨some ("default" : Str), .Constant (.int i) k p2, kp⟩] pos) (tCB (rMax X.K) ta) := by
  refine ⟨fun pins s σ H Q I h => ?_⟩
  refine wpAny_Call_Name_kw (ld_blt I hg hm (u := .builtin "max") (by first | rfl | decide +kernel) ?_ (by first | decide +kernel | decide) (by first | decide +kernel | decide))
  refine PyProof.Rows.callWith_kw (thn (ha.run pos pins s σ H _ I h) fun us s1 ⟨vs, H1, I1, r, a, ns, ev, hs, q0, q1⟩ => ?_) he (by rw [he]; rfl)
  subst ev
  rw [Vals.ref1 r]
  refine thn ((pk_cons (nm := some ("default" : Str)) (kpos := kp) pe_int pk_nil).run pos pins s1 σ H1 (fun zs H2 => zs = [.int i] ∧ H2 = H1) I1 ⟨rfl, rfl⟩) fun ws s2 ⟨zs, H2, I2, rz, ez, eh⟩ => ?_
  subst ez
  subst eh
  obtain ⟨t, ews⟩ : ∃ t, ws = [Value.int i t] := by
    cases rz with
    | cons r t =>
      cases t
      obtain ⟨t, rfl⟩ := r
      exact ⟨t, rfl⟩
  subst ews
  obtain ⟨its, rv, hl, _⟩ := I2.list hs
  show wpAny _ _ (call (.builtin "max") [.ref a] [(("default" : Str), .int i t)]) _ _ s2
  refine PySem.W.max_list_datum_default (xs := ns) (I2.ok.hd hc) hl.isList (PySem.W.HoldAll.of_ints rv.ints) (show X.A.units + 1 + 0 < cLine by omega) (fun e h' tk hk => ?_) fun y ys i v h' tk e hi hv hk => ?_
  · rw [e] at q0
    exact absurd q0 (by decide)
  · obtain ⟨as, hv⟩ := hv
    obtain ⟨l1, l2⟩ := maxOf_mostE y ys
    obtain ⟨t, rfl⟩ : ∃ t, v = Value.int (PySem.W.maxOf y ys) t := by
      cases hv
      exact ⟨_, rfl⟩
    exact ⟨.int (PySem.W.maxOf y ys), H2, I2.kept hk, ⟨t, rfl⟩, q1 _ (by rw [e]; exact l1) (by rw [e]; exact l2)⟩
end
end Wa
namespace Wa
open PySem PySem.Spec PyProof.Rows L2
theorem scMarks : FnScope ["word", "number", "sign"] ["word"] (defScope sMarks) := ⟨rfl, rfl, rfl, by decide +kernel, rfl, by decide +kernel, by decide +kernel⟩
def spMarks : Sp := fun vs H Q _ => ∃ (a : List Nat), vs = [.str (wd a)] ∧ a.length ≤ 16 ∧ (∀ d ∈ a, d < 3) ∧ Q (.int (mk 0 a : Nat)) H
section
variable {P : Program} {w : World} {K : PySem.W.Frag} {mg : Str → Option Value} {base : Heap}
theorem ok_marks {f : Addr} {fd : FuncData} {k : Nat} (D : Df K mg "marks" sMarks ["word"] f fd) {tk : Tok} (ms : mg "SIGNS" = some (.str ("012" : Str) tk)) (ml : mg "len" = none) (mi : mg "int" = none) : FnOk P w K mg base CX0 (k + 1) f fd ["word"] spMarks := by
  refine D.F.ok scMarks (fun vs H Q E h => ?_) (fun cdv A outer s H vs Q E hr h => ?_)
  · obtain ⟨a, rfl, _⟩ := h
    rfl
  · obtain ⟨a, rfl, hl, hf, ret⟩ := h
    refine ⟨_, pss_cons (ps_set (i := 1) scMarks.nd rfl (.inl rfl) pe_int)
      (pss_cons (ps_for PassesOwn.never rfl (pi_str (pv 0)) (pg_name (i := 2) scMarks.nd rfl (.inl rfl))
        (pss_one (ps_set (i := 1) scMarks.nd rfl (.inl rfl) (pe_op op_add (pe_op op_shl (pv 1) (pe_callB call_len_str (by rfl) ml PySem.boot_len (pa_cons (pe_glob (v := .str ("012" : Str)) rfl ms ⟨tk, rfl⟩) pa_nil)))
          (pe_op op_shl pe_int (pe_callTy call_int_str (by rfl) mi (by decide +kernel) (pa_cons (pv 2) pa_nil)))))))
      (pss_one (ps_ret (pv 1)))), ?_⟩
    have la : (wd a).cps.size = a.length := wd_len a
    have l3 : (("012" : Str).length : Int) = 3 := by decide +kernel
    refine ⟨_, rfl, wd a, rfl, ?_⟩
    refine walk_f a.length (fun i σ H' => ∃ (y2 : Option V), σ = [some (.str (wd a)), some (.int (mk 0 (a.take i) : Nat)), y2] ∧ H' = H) ⟨none, by rw [List.take_zero]; rfl, rfl⟩ (fun i σ H' hi hp => ?_) (fun σ H' hp => ?_)
    · obtain ⟨y2, rfl, rfl⟩ := hp
      refine ⟨by show i < (wd a).cps.size; omega, fun x H'' y => ?_⟩
      obtain ⟨rfl, c1, h1, rfl⟩ := y
      obtain ⟨d1, e1, rfl⟩ := wd_at h1
      have ld : d1 < 3 := hf d1 (List.mem_of_getElem? e1)
      have lm := mk_lt (a.take i) fun d h => hf d (List.mem_of_mem_take h)
      have lm2 : mk 0 (a.take i) < 2 ^ 64 := Nat.lt_of_lt_of_le lm (Nat.le_trans (Nat.pow_le_pow_right (by decide) (show (a.take i).length ≤ 16 by rw [List.length_take]; omega)) (by decide))
      have e2 : mk 0 (a.take (i + 1)) = 8 * mk 0 (a.take i) + 2 ^ d1 := by
        rw [List.take_add_one, e1]
        exact mk_snoc 0 _ d1
      refine ⟨_, rfl, ("012" : Str), rfl, by decide +kernel, _, _, rfl, rfl, ⟨by rw [l3]; decide, by rw [l3]; decide, by rw [Int.natAbs_natCast]; exact lm2⟩, _, rfl, _, (d1 : Int), rfl, int_fig (by omega), (show 1 ≤ 640 by decide), 1, (d1 : Int), rfl, rfl, ⟨by omega, by omega, by decide⟩, _, _, rfl, rfl, ?_⟩
      refine ⟨some (.str ⟨#[48 + d1]⟩), ?_, rfl⟩
      have e3 : ((mk 0 (a.take i) : Nat) : Int) * 2 ^ ((("012" : Str).length : Int)).toNat + 1 * 2 ^ ((d1 : Int)).toNat = ((mk 0 (a.take (i + 1)) : Nat) : Int) := by
        rw [l3, e2, Int.toNat_natCast, Int.natCast_add, Int.natCast_mul, Int.natCast_pow, Int.one_mul, Int.mul_comm]
        rfl
      show [some (V.str (wd a)), some (V.int (((mk 0 (a.take i) : Nat) : Int) * 2 ^ ((("012" : Str).length : Int)).toNat + 1 * 2 ^ ((d1 : Int)).toNat)), some (.str ⟨#[48 + d1]⟩)] = _
      rw [e3]
    · obtain ⟨y2, rfl, rfl⟩ := hp
      rw [List.take_length]
      exact ⟨by show (wd a).cps.size ≤ a.length; omega, _, rfl, ret⟩
end
theorem scGap : FnScope ["one", "other", "unlike"] ["one", "other"] (defScope sGap) := ⟨rfl, rfl, rfl, by decide +kernel, rfl, by decide +kernel, by decide +kernel⟩
def spGap : Sp := fun vs H Q _ => ∃ (a b : List Nat), vs = [.int (mk 0 a : Nat), .int (mk 0 b : Nat)] ∧ a.length = b.length ∧ a.length ≤ 16 ∧ (∀ d ∈ a, d < 3) ∧ (∀ d ∈ b, d < 3) ∧ Q (.int (dist a b)) H
section
variable {P : Program} {w : World} {K : PySem.W.Frag} {mg : Str → Option Value} {base : Heap}
theorem ok_gap {f : Addr} {fd : FuncData} {k : Nat} (D : Df K mg "gap" sGap ["one", "other"] f fd) : FnOk P w K mg base CX0 (k + 1) f fd ["one", "other"] spGap := by
  refine D.F.ok scGap (fun vs H Q E h => ?_) (fun cdv A outer s H vs Q E hr h => ?_)
  · obtain ⟨a, b, rfl, _⟩ := h
    rfl
  · obtain ⟨a, b, rfl, hl, hl2, fa, fb, ret⟩ := h
    refine ⟨_, pss_cons (ps_set (i := 2) scGap.nd rfl (.inl rfl) (pe_joined1 (pe_fmtB (pe_op op_xor (pv 0) (pv 1)))))
      (pss_one (ps_ret (pe_op op_fdiv (pe_m1 PySem.F.slot_str_count PySem.F.type_str_count mt_count (pv 2) pe_str) pe_int))), ?_⟩
    have ex : Builtin.bitXor ((mk 0 a : Nat) : Int) ((mk 0 b : Nat) : Int) = ((mk 0 a ^^^ mk 0 b : Nat) : Int) := by
      rw [Bits.bitXor_pp (by omega) (by omega), Int.toNat_natCast, Int.toNat_natCast]
    have la : mk 0 a < 2 ^ 64 := Nat.lt_of_lt_of_le (mk_lt a fa) (Nat.le_trans (Nat.pow_le_pow_right (by decide) hl2) (by decide))
    have lb : mk 0 b < 2 ^ 64 := Nat.lt_of_lt_of_le (mk_lt b fb) (Nat.le_trans (Nat.pow_le_pow_right (by decide) (show b.length ≤ 16 by omega)) (by decide))
    have lx : mk 0 a ^^^ mk 0 b < 2 ^ 64 := Nat.xor_lt_two_pow la lb
    refine ⟨_, rfl, _, rfl, _, _, rfl, rfl, mk 0 a ^^^ mk 0 b, congrArg V.int ex, Nat.le_trans (bits_len lx (by decide)) (sz (by decide)), ?_⟩
    refine ⟨_, rfl, ⟨_, rfl⟩, _, ("1" : Str), rfl, rfl, _, 2, rfl, rfl, ⟨by decide, by decide⟩, ?_⟩
    have e2 : Txt.count (bitsS (mk 0 a ^^^ mk 0 b)) ("1" : Str) / 2 = (dist a b : Int) := by
      rw [bits_count, gap_dist hl fa fb]
      omega
    show Q (.int (Txt.count (bitsS (mk 0 a ^^^ mk 0 b)) ("1" : Str) / 2)) H
    rw [e2]
    exact ret
end
end Wa
namespace Wa
open PySem PySem.Spec PyProof.Rows L2
abbrev nNear : List Str := ["marked", "at", "other"]
theorem scNear : FnScope nNear ["marked", "at"] (defScope sNear) := ⟨rfl, rfl, rfl, by decide +kernel, rfl, by decide +kernel, by decide +kernel⟩
def spNear : Sp := fun vs H Q _ => ∃ (a : Addr) (ws : List (List Nat)) (at_ : Nat), vs = [.ref a, .int at_] ∧ Ws ws ∧ 1 ≤ at_ ∧ at_ < ws.length ∧ ws.length ≤ 10000 ∧ H a = some (.lst ((mks ws).map V.int)) ∧
  ∀ H' m, Same H H' → IsMin m (ahd ws at_) → Q (.int (m : Int)) H'
section
variable {P : Program} {w : World} {K : PySem.W.Frag} {mg : Str → Option Value} {base : Heap}
theorem ok_near {f f1 : Addr} {fd fd1 : FuncData} {k : Nat} (D : Df K mg "nearest_ahead" sNear ["marked", "at"] f fd) (D1 : Df K mg "gap" sGap ["one", "other"] f1 fd1) (G1 : FnOk P w K mg base CX0 k f1 fd1 ["one", "other"] spGap) (mmi : mg "min" = none) :
    FnOk P w K mg base CX0 (k + 1) f fd ["marked", "at"] spNear := by
  refine D.F.ok scNear (fun vs H Q E h => ?_) (fun cdv A outer s H vs Q E hr h => ?_)
  · obtain ⟨a, ws, at_, rfl, _⟩ := h
    rfl
  · obtain ⟨a, ws, at_, rfl, ⟨q, n, hq3, hn, hw⟩, h1, h2, hl, ha, ret⟩ := h
    refine ⟨_, pss_one (ps_ret (pe_callB (cr_min rfl) (by rfl) mmi (by decide +kernel) (pa_cons (pe_lc (own := [("other", 2)]) (g := gName 2) (tt := tYes) (te := tCall spGap [] _ (tCons (tOp (rIxL K) (tVar 0) (tVar 1)) (tCons (tVar 2) tNil))) rfl scNear.nd (pi_list (pe_slice sl_list (pv 0) po_none (po_some (pv 1))))
      (blkOk_by (own := [("other", 2)]) (N := nNear) (sc := defScope sNear) (by decide +kernel)) (fun _ _ _ _ _ => pg_name (i := 2) scNear.nd rfl (.inl rfl)) (fun _ _ _ _ _ => pts_nil)
      (fun _ _ _ _ _ => pe_call G1 hr (by rfl) D1.g D1.F.kp D1.b .nil pass0 (pa_cons (pe_ix ix_list (pv 0) (pv 1) (fun _ _ => rfl)) (pa_cons (pv 2) pa_nil)))) pa_nil))), ?_⟩
    have w3 : ∀ w ∈ ws, ∀ d ∈ w, d < 3 := fun w h d hd => Nat.lt_of_lt_of_le ((hw w h).2 d hd) hq3
    have gu : ws[at_]? = some ws[at_] := List.getElem?_eq_getElem h2
    have hu : ws[at_] ∈ ws := List.getElem_mem h2
    have eA := ahd_some gu
    rw [eA] at ret
    generalize ws[at_] = u at gu hu ret
    refine ⟨_, rfl, _, rfl, _, rfl, a, _, rfl, sq ha, fun p np => ?_⟩
    rw [cut_mks ws at_ (by omega)]
    refine ⟨p, rfl, ⟨_, sq upd_same⟩, fun D0 nD => ?_⟩
    have s1 : Same H (upd H p (.lst ((mks (ws.take at_)).map V.int))) := same_upd np
    have e1 : (upd H p (.lst ((mks (ws.take at_)).map V.int))) p = some (.lst ((mks (ws.take at_)).map V.int)) := upd_same
    generalize (upd H p (.lst ((mks (ws.take at_)).map V.int))) = H1 at s1 e1 nD ⊢
    have lt : (ws.take at_).length = at_ := by rw [List.length_take]; omega
    refine walk_n at_ (fun j H2 => Same H1 H2 ∧ H2 D0 = some (.lst (vns (((ws.take at_).take j).map (dist u))))) ⟨same_upd nD, upd_same⟩
      (fun j H2 hj ⟨j1, j2⟩ => ⟨itl_go (sq (j1 _ _ e1)) (by rw [mks_len, lt]; exact hj), fun x H3 y => ?_⟩) (fun H2 ⟨j1, j2⟩ => ⟨itl_stop (sq (j1 _ _ e1)) (by rw [mks_len, lt]), ?_⟩)
    · obtain ⟨rfl, ex⟩ := itl_yld (sq (j1 _ _ e1)) y
      have gj : (ws.take at_)[j]? = some (ws.take at_)[j] := List.getElem?_eq_getElem (by omega)
      have hm : (ws.take at_)[j] ∈ ws := List.mem_of_mem_take (List.getElem_mem _)
      rw [mks_get gj] at ex
      cases ex
      generalize (ws.take at_)[j] = v at gj hm
      have lu := (hw u hu).1
      have lv := (hw v hm).1
      refine ⟨rfl, yes (iteT ?_)⟩
      refine ⟨_, rfl, _, rfl, a, _, _, _, rfl, rfl, sq (j1 _ _ (s1 _ _ ha)), atI_nat (mks_get gu), _, rfl, u, v, rfl, by omega, by omega, w3 u hu, w3 v hm, _, j2, by rw [vns_len, List.length_map, List.length_take]; exact sz' (by omega), same_over j1 nD, ?_⟩
      rw [upd_same, List.take_add_one, gj, List.map_append]
      exact congrArg (fun z => some (HO.lst z)) (vns_snoc _ _).symm
    · rw [List.take_of_length_le (by omega)] at j2
      refine ⟨D0, ins ((ws.take at_).map (dist u)), rfl, by rw [vns_ins]; exact sq j2, ?_, fun m hm hle => ?_⟩
      · unfold ins
        rw [List.length_map, List.length_map, lt]
        omega
      · obtain ⟨m', rfl, hmin⟩ := min_ins hm hle
        exact ret _ m' (s1.trans j1) hmin
end
end Wa
namespace Wa
open PySem PySem.Spec PyProof.Rows L2
abbrev nKeeps : List Str := ["words", "d", "marked", "word", "at"]
theorem scKeeps : FnScope nKeeps ["words", "d"] (defScope sKeeps) := ⟨rfl, rfl, rfl, by decide +kernel, rfl, by decide +kernel, by decide +kernel⟩
def spKeeps (K : PySem.W.Frag) (p : Addr) : Sp := fun vs H Q _ => ∃ (a : Addr) (ws : List (List Nat)) (d : Int), vs = [.ref a, .int d] ∧ Ws ws ∧ ws.length ≤ 10000 ∧ SqL K H a (vws ws) ∧ GxR.TabG H p ∧
  (∀ H', Gr H H' → Q (.bl (far ws d)) H')
section
variable {P : Program} {w : World} {K : PySem.W.Frag} {mg : Str → Option Value} {base : Heap}
theorem ok_keeps {f f1 f2 c p : Addr} {fd fd1 fd2 : FuncData} {k : Nat} (D : Df K mg "keeps" sKeeps ["words", "d"] f fd) (hc : fd.code = .ref c) (TB : GxR.TabB base mg c p) (D1 : Df K mg "marks" sMarks ["word"] f1 fd1) (D2 : Df K mg "nearest_ahead" sNear ["marked", "at"] f2 fd2)
    (G1 : FnOk P w K mg base CX0 (k + 3) f1 fd1 ["word"] spMarks) (G2 : FnOk P w K mg base CX0 k f2 fd2 ["marked", "at"] spNear) (mr : mg "range" = none) (ml : mg "len" = none) (mal : mg "all" = none) :
    FnOk P w K mg base CX0 (k + 4) f fd ["words", "d"] (spKeeps K p) := by
  refine okC D.F hc scKeeps (fun vs H Q E h => ?_) (fun A outer s H vs Q E hr h => ?_)
  · obtain ⟨a, ws, d, rfl, _⟩ := h
    rfl
  · obtain ⟨a, ws, d, rfl, hW, hl, ha, hT, ret⟩ := h
    obtain ⟨q, n, hq3, hn, hw⟩ := _root_.id hW
    refine ⟨_, pss_cons (ps_set (i := 2) scKeeps.nd rfl (.inr rfl) (pe_lc (own := [("word", 3)]) (g := gName 3) (tt := tYes) rfl scKeeps.nd (pi_list (pv 0)) (blkOk_by (own := [("word", 3)]) (N := nKeeps) (sc := defScope sKeeps) (by decide +kernel))
        (fun _ _ _ _ _ => pg_name (i := 3) scKeeps.nd rfl (.inl rfl)) (fun _ _ _ _ _ => pts_nil) (fun _ _ _ _ _ => pe_call G1 hr (by rfl) D1.g D1.F.kp D1.b .nil pass0 (pa_cons (pv 3) pa_nil))))
      (pss_one (ps_ret (Gx.pe_allG (k := k) (own := [("at", 4)]) (g := gName 4) (tt := tYes) hr (by rfl) mal
        (by exact ⟨TB, rfl, rfl, blkOk_by (own := [("at", 4)]) (N := nKeeps) (sc := defScope sKeeps) (by decide +kernel), by decide +kernel, by decide +kernel, rfl, scKeeps.nd,
          fun _ _ _ _ _ _ _ => pg_name (i := 4) scKeeps.nd rfl (.inl rfl), fun _ _ _ _ _ _ _ _ => pts_nil,
          fun _ _ _ _ _ _ _ hr2 => pe_cmpR op_ge (pe_call G2 hr2 (by rfl) D2.g D2.F.kp D2.b .nil pass0 (pa_cons (pv 2) (pa_cons (pv 4) pa_nil))) (pv 1) (nomark _)⟩)
        (pi_range2 rfl mr (pa_cons pe_int (pa_cons (pe_callB call_len_seq (by rfl) ml PySem.boot_len (pa_cons (pv 2) pa_nil)) pa_nil)))))), ?_⟩
    refine ⟨_, rfl, a, rfl, ⟨_, ha⟩, fun M0 nM => ?_⟩
    have w3 : ∀ w ∈ ws, ∀ d ∈ w, d < 3 := fun w h d hd => Nat.lt_of_lt_of_le ((hw w h).2 d hd) hq3
    refine walk_n ws.length (fun i H' => Same H H' ∧ H' M0 = some (.lst ((mks (ws.take i)).map V.int))) ⟨same_upd nM, upd_same⟩
      (fun i H' hi ⟨i1, i2⟩ => ⟨itl_go (i1.seq ha) (by rw [vws_len]; exact hi), fun x H'' y => ?_⟩) (fun H' ⟨i1, i2⟩ => ⟨itl_stop (i1.seq ha) (vws_len _), ?_⟩)
    · obtain ⟨rfl, ex⟩ := itl_yld (i1.seq ha) y
      have gi : ws[i]? = some ws[i] := List.getElem?_eq_getElem hi
      have hm : ws[i] ∈ ws := List.getElem_mem hi
      rw [vws_get, gi] at ex
      cases ex
      generalize ws[i] = u at gi hm
      refine ⟨rfl, yes (iteT ⟨_, rfl, u, rfl, by rw [(hw u hm).1]; exact hn, w3 u hm, _, i2, by rw [mks_len, List.length_take]; exact sz' (by omega), same_over i1 nM, ?_⟩)⟩
      rw [upd_same, List.take_add_one, gi]
      exact congrArg (fun z => some (HO.lst z)) (mks_snoc _ u).symm
    · rw [List.take_length] at i2
      have t1 := (Gr.of i1).tab _ hT
      have lm : (((mks ws).map V.int).length : Int) = (ws.length : Int) := by rw [mks_len]
      refine ⟨_, rfl, M0, _, rfl, .inl (sq i2), 1, _, rfl, ⟨by decide, by decide, by omega, by omega⟩, t1, fun H2 hH2 => ?_⟩
      have g2 : Gr H H2 := (Gr.of i1).trans (Gr.tabbed t1 hH2)
      have m2 : H2 M0 = some (.lst ((mks ws).map V.int)) := (Gr.tabbed t1 hH2).lst i2
      refine turns_n (ws.length - 1) (fun i acc H3 => Gr H H3 ∧ H3 M0 = some (.lst ((mks ws).map V.int)) ∧ ∀ j, 1 ≤ j → j ≤ i → ∀ y ∈ ahd ws j, d ≤ (y : Int)) ⟨g2, m2, fun j a b => by omega⟩
        (fun i acc H3 hi ⟨j1, j2, j3⟩ => ⟨?_, fun x H4 y => ?_⟩) (fun acc H3 ⟨j1, j2, j3⟩ => ⟨?_, ?_⟩)
      · show i < (((mks ws).map V.int).length - 1 : Int).toNat
        omega
      · obtain ⟨rfl, rfl⟩ := y
        refine ⟨rfl, yes (iteT ?_)⟩
        have ei : (1 : Int) + (i : Int) = ((i + 1 : Nat) : Int) := by omega
        rw [ei]
        refine ⟨_, rfl, _, rfl, M0, ws, i + 1, rfl, hW, by omega, by omega, hl, j2, fun H5 m s5 hm => ?_⟩
        refine ⟨_, rfl, _, _, rfl, rfl, _, rfl, ite2 (fun e => ?_) (fun e => ?_)⟩
        · have e' := of_decide_eq_true e
          refine ⟨j1.trans (Gr.of s5), s5 _ _ j2, fun j a b y hy => ?_⟩
          by_cases hj : j ≤ i
          · exact j3 j a hj y hy
          · have ej : j = i + 1 := by omega
            rw [ej] at hy
            have := hm.2 y hy
            omega
        · have e' : ¬ d ≤ (m : Int) := fun z => e (decide_eq_true z)
          have ef : far ws d = false := by
            rw [Bool.eq_false_iff]
            intro z
            exact e' (far_iff.mp z m (List.mem_flatMap.mpr ⟨i + 1, List.mem_range.mpr (by omega), hm.1⟩))
          rw [ef] at ret
          exact ret _ (j1.trans (Gr.of s5))
      · show (((mks ws).map V.int).length - 1 : Int).toNat ≤ ws.length - 1
        omega
      · have ef : far ws d = true := far_iff.mpr fun y hy => by
          obtain ⟨j, hj, hy⟩ := List.mem_flatMap.mp hy
          have hj := List.mem_range.mp hj
          cases j with
          | zero =>
            rw [ahd_some (List.getElem?_eq_getElem hj), List.take_zero] at hy
            cases hy
          | succ j => exact j3 (j + 1) (by omega) (by omega) y hy
        rw [ef] at ret
        exact ret _ j1
end
end Wa
namespace Wa
open PySem PySem.Spec PyProof.Rows L2
/-! all_words -/
abbrev nAW : List Str := ["q", "n", "words", "place", "word", "sign"]
theorem scAW : FnScope nAW ["q", "n"] (defScope sAllWords) := ⟨rfl, rfl, rfl, by decide +kernel, rfl, by decide +kernel, by decide +kernel⟩
theorem signs_cut {q : Nat} (h : q ≤ 3) : cutS ("012" : Str) none (some (q : Int)) = wd (List.range q) := by
  match q, h with
  | 0, _ => decide +kernel
  | 1, _ => decide +kernel
  | 2, _ => decide +kernel
  | 3, _ => decide +kernel
section
variable {P : Program} {w : World} {K : PySem.W.Frag} {mg : Str → Option Value} {base : Heap}
theorem ok_allwords {f : Addr} {fd : FuncData} {k : Nat} (F : Fun K "all_words" "all_words" sAllWords f fd) (mr : mg "range" = none) {tk : Tok} (ms : mg "SIGNS" = some (.str ("012" : Str) tk)) : FnOk P w K mg base CX0 (k + 1) f fd ["q", "n"] spAW := by
  refine F.ok scAW (fun vs H Q E h => ?_) (fun cdv A outer s H vs Q E hr h => ?_)
  · obtain ⟨q, n, rfl, _⟩ := h
    rfl
  · obtain ⟨q, n, rfl, hq, hn, ret⟩ := h
    refine ⟨_, pss_cons (ps_set (i := 2) scAW.nd rfl (.inl rfl) (pe_lst (pa_cons pe_str pa_nil)))
      (pss_cons (ps_for PassesOwn.never rfl (pi_range1 rfl mr (pa_cons (pv 1) pa_nil)) (pg_name (i := 3) scAW.nd rfl (.inl rfl))
        (pss_one (ps_setLc2 (i := 2) (own := [("word", 4), ("sign", 5)]) (vs1 := [5]) (g := gName 4) (tt := tYes) (g1 := gName 5) (tt1 := tYes) rfl scAW.nd rfl rfl (sw_true rfl rfl rfl (by decide +kernel)) (pi_list (pv 2))
          (blkOk_by (own := [("word", 4), ("sign", 5)]) (N := nAW) (sc := defScope sAllWords) (by decide +kernel)) (by decide)
          (fun _ _ _ _ _ => pg_name (i := 4) scAW.nd rfl (Or.inl rfl)) (fun _ _ _ _ _ => pts_nil)
          (fun _ _ _ _ _ => pi_str (pe_slice sl_str (pe_glob (v := .str ("012" : Str)) rfl ms ⟨tk, rfl⟩) po_none (po_some (pv 0))))
          (fun _ _ _ _ _ => pg_name (i := 5) scAW.nd rfl (Or.inl rfl)) (fun _ _ _ _ _ => pts_nil) (fun _ _ _ _ _ => pe_op op_add_str (pv 4) (pv 5)))))
      (pss_one (ps_ret (pv 2)))), ?_⟩
    refine ⟨(show 1 ≤ sizeLine by decide), fun p0 np0 => ?_⟩
    refine ⟨.int n, rfl, (n : Int), rfl, by omega, by omega, ?_⟩
    refine walk_f n (fun i σ H' => ∃ (p : Addr) (y3 : Option V), σ = [some (.int q), some (.int n), some (.ref p), y3, none, none] ∧ Same H H' ∧ H p = none ∧ H' p = some (.lst (vws (allD q i)))) ⟨p0, none, rfl, same_upd np0, np0, upd_same⟩ (fun i σ H' hi hp => ?_) (fun σ H' hp => ?_)
    · obtain ⟨p, y3, rfl, i1, i2, i3⟩ := hp
      refine ⟨by show i < (n : Int).toNat; omega, fun x H'' y => ?_⟩
      obtain ⟨rfl, rfl⟩ := y
      -- the comprehension
      refine ⟨.ref p, rfl, p, rfl, ⟨_, sq i3⟩, fun D nD => ?_⟩
      have nHD : H D = none := i1.free nD
      have npD : p ≠ D := ne_of_none i3 nD
      have hlen : (allD q i).length ≤ 6561 := by rw [allD_len]; exact pow_bound hq (by omega)
      refine walk_n (allD q i).length (fun j H5 => Same H H5 ∧ H5 p = some (.lst (vws (allD q i))) ∧ H5 D = some (.lst (vws (((allD q i).take j).flatMap fun w => (List.range q).map fun s => w ++ [s]))))
        ⟨same_over i1 nHD, by rw [upd_ne npD]; exact i3, upd_same⟩ (fun j H5 hj ⟨j1, j2, j3⟩ => ⟨itl_go (sq j2) (by rw [vws_len]; exact hj), fun x H6 y => ?_⟩) (fun H5 ⟨j1, j2, j3⟩ => ⟨itl_stop (sq j2) (vws_len _), ?_⟩)
      · obtain ⟨rfl, ex⟩ := itl_yld (sq j2) y
        have gj : (allD q i)[j]? = some (allD q i)[j] := List.getElem?_eq_getElem hj
        have wl : (allD q i)[j].length = i := (allD_mem (List.getElem_mem hj)).1
        rw [vws_get, gj] at ex
        cases ex
        generalize (allD q i)[j] = u at gj wl
        refine ⟨rfl, yes (iteT ?_)⟩
        refine ⟨_, rfl, _, rfl, ("012" : Str), rfl, by decide, cutS ("012" : Str) none (some (q : Int)), rfl, ?_⟩
        rw [signs_cut hq]
        have hb : (((allD q i).take j).flatMap fun w => (List.range q).map fun s => w ++ [s]).length ≤ 6561 * 3 := by
          rw [flat_len (q := q) (fun x _ => by rw [List.length_map, List.length_range]), List.length_take]
          exact Nat.mul_le_mul (by omega) hq
        refine walk_n q (fun c H7 => Same H H7 ∧ H7 p = some (.lst (vws (allD q i))) ∧ H7 D = some (.lst (vws ((((allD q i).take j).flatMap fun w => (List.range q).map fun s => w ++ [s]) ++ (((List.range q).take c).map fun s => u ++ [s])))))
          ⟨j1, j2, by rw [List.take_zero, List.map_nil, List.append_nil]; exact j3⟩ (fun c H7 hc ⟨k1, k2, k3⟩ => ⟨?_, fun x H8 y => ?_⟩) (fun H7 ⟨k1, k2, k3⟩ => ⟨?_, k1, k2, ?_⟩)
        · show c < (((List.range q).map (48 + ·)).toArray).size
          rw [List.size_toArray, List.length_map, List.length_range]
          exact hc
        · obtain ⟨rfl, cc, ec, rfl⟩ := y
          obtain ⟨d, ed, rfl⟩ := wd_at ec
          rw [List.getElem?_range hc] at ed
          cases ed
          refine ⟨rfl, yes (iteT ?_)⟩
          refine ⟨_, rfl, _, rfl, wd u, ⟨#[48 + c]⟩, rfl, rfl, ?_, _, k3, ?_, ?_⟩
          · rw [wd_len, wl]
            exact sz (by show i + 1 ≤ 16000000; omega)
          · rw [vws_len, List.length_append, List.length_map, List.length_take]
            exact sz' (by rw [List.length_range]; omega)
          · refine ⟨same_over k1 nHD, by rw [upd_ne npD]; exact k2, ?_⟩
            rw [upd_same, range_take hc, List.map_append, ← List.append_assoc]
            show some (HO.lst (_ ++ [V.str (wd u ++ wd [c])])) = _
            rw [wd_app]
            exact congrArg (fun z => some (HO.lst z)) (vws_snoc _ _).symm
        · show (((List.range q).map (48 + ·)).toArray).size ≤ q
          rw [List.size_toArray, List.length_map, List.length_range]
          exact Nat.le_refl _
        · rw [flat_take gj]
          have e : (List.range q).take q = List.range q := List.take_of_length_le (by rw [List.length_range]; exact Nat.le_refl _)
          rw [e] at k3
          exact k3
      · rw [List.take_length] at j3
        exact ⟨D, _, rfl, j1, nHD, j3⟩
    · obtain ⟨p, y3, rfl, i1, i2, i3⟩ := hp
      exact ⟨by show (n : Int).toNat ≤ n; omega, .ref p, rfl, ret _ p i1 i2 i3⟩
end
end Wa
namespace Wa
open PySem PySem.Spec PyProof.Rows L2
abbrev nFarAll : List Str := ["d", "mark", "marked", "held"]
theorem scFarAll : FnScope nFarAll ["d", "mark", "marked"] (defScope sFarAll) := ⟨rfl, rfl, rfl, by decide +kernel, rfl, by decide +kernel, by decide +kernel⟩
def spFarAll (K : PySem.W.Frag) (P : Addr) : Sp := fun vs H Q _ => ∃ (d : Int) (u : List Nat) (a : Addr) (C : List (List Nat)) (q n : Nat), vs = [.int d, .int (mk 0 u : Nat), .ref a] ∧ q ≤ 3 ∧ n ≤ 16 ∧ Wd q n u ∧ (∀ w ∈ C, Wd q n w) ∧ SqL K H a ((mks C).map V.int) ∧ GxR.TabG H P ∧
  ∀ H', Gr H H' → Q (.bl (farA d u C)) H'
section
variable {P : Program} {w : World} {K : PySem.W.Frag} {mg : Str → Option Value} {base : Heap}
theorem ok_FarAll {fFarAll  fGap  pFarAll  cFarAll : Addr} {fdFarAll fdGap : FuncData} {k : Nat} (dFarAll : Df K mg "far_from_all" sFarAll ["d", "mark", "marked"] fFarAll fdFarAll) (hcFarAll : fdFarAll.code = .ref cFarAll) (tbFarAll : GxR.TabB base mg cFarAll pFarAll)
    (dGap : Df K mg "gap" sGap ["one", "other"] fGap fdGap) (gGap : FnOk P w K mg base CX0 k fGap fdGap ["one", "other"] (spGap))
     (mall : mg "all" = none) :
    FnOk P w K mg base CX0 (k + 4) fFarAll fdFarAll ["d", "mark", "marked"] (spFarAll K pFarAll) := by
  refine okC dFarAll.F hcFarAll scFarAll (fun vs H Q E h => ?_) (fun A outer s H vs Q E hr h => ?_)
  · obtain ⟨d, u, a, C, q, n, rfl, _⟩ := h
    rfl
  · obtain ⟨d, u, a, C, q, n, rfl, hq3, hn, hu, hC, ha, hT, ret⟩ := h
    have TB := tbFarAll
    refine ⟨_, pss_one (ps_ret (Gx.pe_allG (k := k) (own := [("held", 3)]) (g := gName 3) (tt := tYes) hr (by rfl) mall (by exact ⟨TB, rfl, rfl, blkOk_by (own := [("held", 3)]) (N := nFarAll) (sc := defScope sFarAll) (by decide +kernel), by decide +kernel, by decide +kernel, rfl, scFarAll.nd, fun _ _ _ _ _ _ _ => pg_name (i := 3) scFarAll.nd rfl (.inl rfl), fun _ _ _ _ _ _ _ hr2 => pts_nil, fun _ _ _ _ _ _ _ hr2 => pe_cmpR op_ge (pe_call gGap hr2 (by rfl) dGap.g dGap.F.kp dGap.b .nil pass0 (pa_cons (pv 1) (pa_cons (pv 3) pa_nil))) (pv 0) (nomark _)⟩) (pi_list (pv 2)))), ?_⟩
    refine ⟨_, rfl, a, rfl, ⟨_, ha⟩, hT, fun H2 hH2 => ?_⟩
    have g2 : Gr H H2 := Gr.tabbed hT hH2
    have ha2 : SqL K H2 a (C.map fun w => V.int (mk 0 w : Nat)) := by
      have := g2.seq ha
      unfold mks at this
      rw [List.map_map] at this
      exact this
    refine allG (Φ := fun w _ x => x = V.int (mk 0 w : Nat)) (handsL_list ha2) (fun w => decide (d ≤ (dist u w : Int))) (fun w x H' Y N hm g ex hy => ?_) (fun H' g => ret H' (g2.trans g))
    subst ex
    have hw := hC w hm
    exact ⟨rfl, yes (iteT ⟨_, rfl, _, rfl, u, w, rfl, by rw [hu.1, hw.1], by rw [hu.1]; exact hn, fun x hx => Nat.lt_of_lt_of_le (hu.2 x hx) hq3, fun x hx => Nat.lt_of_lt_of_le (hw.2 x hx) hq3, _, rfl, _, _, rfl, rfl, hy H' (Gr.refl _)⟩)⟩
end
abbrev nTakenOn : List Str := ["q", "n", "d", "words", "chosen", "marked", "word", "mark"]
theorem scTakenOn : FnScope nTakenOn ["q", "n", "d", "words"] (defScope sTakenOn) := ⟨rfl, rfl, rfl, by decide +kernel, rfl, by decide +kernel, by decide +kernel⟩
def spTakenOn (K : PySem.W.Frag) (P : Addr) : Sp := fun vs H Q _ => ∃ (q n : Nat) (d : Int) (a : Addr) (C : List (List Nat)), vs = [.int q, .int n, .int d, .ref a] ∧ q ≤ 3 ∧ n ≤ 8 ∧ (∀ w ∈ C, Wd q n w) ∧ C.length ≤ 10000 ∧ SqL K H a (vws C) ∧ GxR.TabG H P ∧
  ∀ H' p, Gr H H' → H p = none → H' p = some (.lst (vws (srt (grd q n d C)))) → Q (.ref p) H'
section
variable {P : Program} {w : World} {K : PySem.W.Frag} {mg : Str → Option Value} {base : Heap}
theorem ok_TakenOn {fTakenOn  fAllWords  fMarks  fFarAll  pFarAll : Addr} {fdTakenOn fdAllWords fdMarks fdFarAll : FuncData} {k : Nat} (dTakenOn : Df K mg "taken_on" sTakenOn ["q", "n", "d", "words"] fTakenOn fdTakenOn)
    (dAllWords : Df K mg "all_words" sAllWords ["q", "n"] fAllWords fdAllWords) (gAllWords : FnOk P w K mg base CX0 k fAllWords fdAllWords ["q", "n"] (spAW))
    (dMarks : Df K mg "marks" sMarks ["word"] fMarks fdMarks) (gMarks : FnOk P w K mg base CX0 k fMarks fdMarks ["word"] (spMarks))
    (dFarAll : Df K mg "far_from_all" sFarAll ["d", "mark", "marked"] fFarAll fdFarAll) (gFarAll : FnOk P w K mg base CX0 k fFarAll fdFarAll ["d", "mark", "marked"] (spFarAll K pFarAll))
     (mls : mg "list" = none) (mso : mg "sorted" = none) :
    FnOk P w K mg base CX0 (k + 1) fTakenOn fdTakenOn ["q", "n", "d", "words"] (spTakenOn K pFarAll) := by
  refine dTakenOn.F.ok scTakenOn (fun vs H Q E h => ?_) (fun cdv A outer s H vs Q E hr h => ?_)
  · obtain ⟨q, n, d, a, C, rfl, _⟩ := h
    rfl
  · obtain ⟨q, n, d, a, C, rfl, hq3, hn, hC, lC, ha, hT, ret⟩ := h
    refine ⟨_, pss_cons (ps_set (i := 4) scTakenOn.nd rfl (.inl rfl) (pe_callTy call_listK (by rfl) mls (by decide +kernel) (pa_cons (pv 3) pa_nil)))
      (pss_cons (ps_setLc (i := 5) (own := [("word", 6)]) (g := gName 6) (tt := tYes) (te := tCall (spMarks) [] _ (tCons (tVar 6) (tNil))) rfl scTakenOn.nd rfl rfl (sw_true rfl rfl rfl (by decide +kernel)) (pi_list (pv 3)) (blkOk_by (own := [("word", 6)]) (N := nTakenOn) (sc := defScope sTakenOn) (by decide +kernel)) (fun _ _ _ _ _ => pg_name (i := 6) scTakenOn.nd rfl (.inl rfl)) (fun _ _ _ _ _ => pts_nil) (fun _ _ _ _ _ => pe_call gMarks hr (by rfl) dMarks.g dMarks.F.kp dMarks.b .nil pass0 (pa_cons (pv 6) pa_nil)))
      (pss_cons (ps_for PassesOwn.never rfl (pi_list (pe_call gAllWords hr (by rfl) dAllWords.g dAllWords.F.kp dAllWords.b .nil pass0 (pa_cons (pv 0) (pa_cons (pv 1) pa_nil)))) (pg_name (i := 6) scTakenOn.nd rfl (.inl rfl))
        (pss_cons (ps_set (i := 7) scTakenOn.nd rfl (.inl rfl) (pe_call gMarks hr (by rfl) dMarks.g dMarks.F.kp dMarks.b .nil pass0 (pa_cons (pv 6) pa_nil)))
        (pss_one (ps_if (pt_val (pe_call gFarAll hr (by rfl) dFarAll.g dFarAll.F.kp dFarAll.b .nil pass0 (pa_cons (pv 2) (pa_cons (pv 7) (pa_cons (pv 5) pa_nil))))) (pss_cons (ps_expr (pe_bm PySem.F.plainAttrs_list PySem.F.slot_list_append PySem.F.type_list_append mt_append (pv 4) (pa_cons (pv 6) pa_nil)))
          (pss_one (ps_expr (pe_bm PySem.F.plainAttrs_list PySem.F.slot_list_append PySem.F.type_list_append mt_append (pv 5) (pa_cons (pv 7) pa_nil))))) pss_nil))))
      (pss_one (ps_ret (pe_callB (id := "sorted") (r := rSortW K) cr_sortW (by rfl) mso (by decide +kernel) (pa_cons (pv 4) pa_nil)))))), ?_⟩
    refine ⟨_, rfl, a, _, rfl, .inl ha, fun c0 nc => ?_⟩
    generalize hU1 : upd _ _ _ = H1
    have g1 : Gr H H1 := by rw [← hU1]; exact (Gr.refl _).new nc
    refine ⟨_, rfl, a, rfl, ⟨_, g1.seq ha⟩, fun M0 nM => ?_⟩
    have w3 : ∀ w, Wd q n w → ∀ x ∈ w, x < 3 := fun w h x hx => Nat.lt_of_lt_of_le (h.2 x hx) hq3
    refine lcL (φ := fun w => V.str (wd w)) (g1.seq ha) (fun _ => true) (fun w => V.int (mk 0 w : Nat)) nM (by omega) (fun w H' Y N hm g hy _ => ⟨rfl, yes (iteT ⟨_, rfl, w, rfl, by rw [(hC w hm).1]; omega, w3 w (hC w hm), hy rfl H' (Gr.refl _)⟩)⟩) (fun H2 g2 e2 => ?_)
    rw [filter_yes] at e2
    have e2 : H2 M0 = some (.lst ((mks C).map V.int)) := by
      rw [e2]
      unfold mks
      rw [List.map_map]
      rfl
    have nMc : M0 ≠ c0 := (ne_of_none (at_same hU1) nM).symm
    refine ⟨_, rfl, _, rfl, q, n, rfl, hq3, hn, fun H3 e0 s3 ne3 ee => ?_⟩
    refine ⟨e0, rfl, ⟨_, sq ee⟩, ?_⟩
    have nHM : H M0 = none := g1.free nM
    have c3 : H3 c0 = some (.lst (vws C)) := s3 _ _ (g2.lst (at_same hU1))
    have m3 : H3 M0 = some (.lst ((mks C).map V.int)) := s3 _ _ e2
    have g3 : Gr H H3 := g1.trans (g2.trans (Gr.of s3))
    have nec : e0 ≠ c0 := (ne_of_none (g2.lst (at_same hU1)) ne3).symm
    have neM : e0 ≠ M0 := (ne_of_none e2 ne3).symm
    have nHe : H e0 = none := g1.free (g2.free ne3)
    have hL : ∀ w ∈ allD q n, Wd q n w := allD_wd
    have lL : (allD q n).length ≤ 6561 := by rw [allD_len]; exact pow_bound hq3 hn
    unfold grd at ret
    generalize allD q n = L at ee hL lL ret
    refine walk_f L.length (fun i σ H' => ∃ (y6 y7 : Option V), σ = [some (.int q), some (.int n), some (.int d), some (.ref a), some (.ref c0), some (.ref M0), y6, y7] ∧ Gr H H' ∧ H' e0 = some (.lst (vws L)) ∧ H' c0 = some (.lst (vws ((L.take i).foldl (gstep d) C))) ∧ H' M0 = some (.lst ((mks ((L.take i).foldl (gstep d) C)).map V.int)))
      ⟨none, none, rfl, g3, ee, c3, m3⟩ (fun i σ H' hi hp => ?_) (fun σ H' hp => ?_)
    · obtain ⟨y6, y7, rfl, i1, i2, i3, i4⟩ := hp
      refine ⟨itl_go (sq i2) (by rw [vws_len]; exact hi), fun x H'' y => ?_⟩
      obtain ⟨rfl, ex⟩ := itl_yld (sq i2) y
      have gi : L[i]? = some L[i] := List.getElem?_eq_getElem hi
      have wu := hL _ (List.getElem_mem hi)
      have ef := gfold_take (d := d) (C := C) gi
      rw [vws_get, gi] at ex
      cases ex
      generalize L[i] = u at gi wu ef
      have hD : ∀ w ∈ (L.take i).foldl (gstep d) C, Wd q n w := fun w hw => by
        rcases gfold_mem _ _ w hw with z | z
        · exact hC w z
        · exact hL w (List.mem_of_mem_take z)
      have lD : ((L.take i).foldl (gstep d) C).length ≤ 20000 := by
        have := gfold_len (d := d) (L.take i) C
        rw [List.length_take] at this
        omega
      generalize (L.take i).foldl (gstep d) C = D at i3 i4 ef hD lD
      refine ⟨_, rfl, u, rfl, by rw [wu.1]; omega, w3 u wu, ?_⟩
      refine ⟨_, rfl, _, rfl, _, rfl, d, u, M0, D, q, n, rfl, hq3, by omega, wu, hD, sq i4, i1.tab _ hT, fun H5 g5 => ⟨farA d u D, rfl, ?_⟩⟩
      by_cases e : farA d u D = true
      · rw [gstep_pos e] at ef
        rw [if_pos e]
        refine ⟨_, rfl, .inl ⟨rfl, _, sq (g5.lst i3)⟩, _, rfl, c0, _, _, rfl, rfl, g5.lst i3, by rw [vws_len]; exact sz' (by omega), ?_⟩
        generalize hU6 : upd _ _ _ = H6
        have m6 : H6 M0 = some (.lst ((mks D).map V.int)) := at_ne hU6 nMc (g5.lst i4)
        refine ⟨_, rfl, .inl ⟨rfl, _, sq m6⟩, _, rfl, M0, _, _, rfl, rfl, m6, by rw [mks_len]; exact sz' (by omega), ?_⟩
        generalize hU7 : upd _ _ _ = H7
        refine ⟨_, _, rfl, ?_, at_ne hU7 neM (at_ne hU6 nec (g5.lst i2)), ?_, ?_⟩
        · rw [← hU7, ← hU6]
          exact ((i1.trans g5).over nc).over nHM
        · rw [at_ne hU7 nMc.symm (at_same hU6), ef, vws_snoc]
        · rw [at_same hU7, ef, mks_snoc]
      · rw [gstep_neg e] at ef
        rw [if_neg e]
        refine ⟨_, _, rfl, i1.trans g5, g5.lst i2, ?_, ?_⟩
        · rw [ef]; exact g5.lst i3
        · rw [ef]; exact g5.lst i4
    · obtain ⟨y6, y7, rfl, i1, i2, i3, i4⟩ := hp
      rw [List.take_length] at i3
      exact ⟨itl_stop (sq i2) (vws_len _), _, rfl, c0, _, rfl, sq i3, fun H5 p g5 n5 e5 => ret H5 p (i1.trans g5) (i1.free n5) e5⟩
end
end Wa
namespace Wa
open PySem PySem.Spec PyProof.Rows L2
abbrev nInOrder : List Str := ["q", "n", "d"]
theorem scInOrder : FnScope nInOrder ["q", "n", "d"] (defScope sInOrder) := ⟨rfl, rfl, rfl, by decide +kernel, rfl, by decide +kernel, by decide +kernel⟩
def spInOrder (P : Addr) : Sp := fun vs H Q _ => ∃ (q n : Nat) (d : Int), vs = [.int q, .int n, .int d] ∧ q ≤ 3 ∧ n ≤ 8 ∧ GxR.TabG H P ∧
  ∀ H' p, Gr H H' → H p = none → H' p = some (.lst (vws (srt (grd q n d [])))) → Q (.ref p) H'
section
variable {P : Program} {w : World} {K : PySem.W.Frag} {mg : Str → Option Value} {base : Heap}
theorem ok_InOrder {fInOrder  fTakenOn  pFarAll : Addr} {fdInOrder fdTakenOn : FuncData} {k : Nat} (dInOrder : Df K mg "in_order" sInOrder ["q", "n", "d"] fInOrder fdInOrder)
    (dTakenOn : Df K mg "taken_on" sTakenOn ["q", "n", "d", "words"] fTakenOn fdTakenOn) (gTakenOn : FnOk P w K mg base CX0 k fTakenOn fdTakenOn ["q", "n", "d", "words"] (spTakenOn K pFarAll))
      :
    FnOk P w K mg base CX0 (k + 1) fInOrder fdInOrder ["q", "n", "d"] (spInOrder pFarAll) := by
  refine dInOrder.F.ok scInOrder (fun vs H Q E h => ?_) (fun cdv A outer s H vs Q E hr h => ?_)
  · obtain ⟨q, n, d, rfl, _⟩ := h
    rfl
  · obtain ⟨q, n, d, rfl, hq3, hn, hT, ret⟩ := h
    refine ⟨_, pss_one (ps_ret (pe_call gTakenOn hr (by rfl) dTakenOn.g dTakenOn.F.kp dTakenOn.b .nil pass0 (pa_cons (pv 0) (pa_cons (pv 1) (pa_cons (pv 2) (pa_cons (pe_lst pa_nil) pa_nil)))))), ?_⟩
    refine ⟨_, rfl, _, rfl, _, rfl, Nat.zero_le _, fun c0 nc => ?_⟩
    generalize hU1 : upd _ _ _ = H1
    have g1 : Gr H H1 := by rw [← hU1]; exact (Gr.refl _).new nc
    exact ⟨q, n, d, c0, [], rfl, hq3, hn, fun w h => absurd h (by simp), by decide, sq (at_same hU1), g1.tab _ hT, fun H5 p g5 n5 e5 => ret H5 p (g1.trans g5) (g1.free n5) e5⟩
end
end Wa
namespace Wa
open PySem PySem.Spec PyProof.Rows L2
abbrev nReach : List Str := ["q", "n", "words", "marked", "everywhere", "word", "mark", "held"]
theorem scReach : FnScope nReach ["q", "n", "words"] (defScope sReach) := ⟨rfl, rfl, rfl, by decide +kernel, rfl, by decide +kernel, by decide +kernel⟩
def spReach (K : PySem.W.Frag) : Sp := fun vs H Q _ => ∃ (q n : Nat) (a : Addr) (C : List (List Nat)), vs = [.int q, .int n, .ref a] ∧ 1 ≤ q ∧ q ≤ 3 ∧ n ≤ 8 ∧ (∀ w ∈ C, Wd q n w) ∧ C ≠ [] ∧ C.length ≤ 10000 ∧ SqL K H a (vws C) ∧
  ∀ H', Gr H H' → Q (.int (rch q n C : Nat)) H'
section
variable {P : Program} {w : World} {K : PySem.W.Frag} {mg : Str → Option Value} {base : Heap}
theorem ok_Reach {fReach  fMarks  fAllWords  fGap : Addr} {fdReach fdMarks fdAllWords fdGap : FuncData} {k : Nat} (dReach : Df K mg "reach" sReach ["q", "n", "words"] fReach fdReach)
    (dMarks : Df K mg "marks" sMarks ["word"] fMarks fdMarks) (gMarks : FnOk P w K mg base CX0 k fMarks fdMarks ["word"] (spMarks))
    (dAllWords : Df K mg "all_words" sAllWords ["q", "n"] fAllWords fdAllWords) (gAllWords : FnOk P w K mg base CX0 k fAllWords fdAllWords ["q", "n"] (spAW))
    (dGap : Df K mg "gap" sGap ["one", "other"] fGap fdGap) (gGap : FnOk P w K mg base CX0 k fGap fdGap ["one", "other"] (spGap))
     (mmax : mg "max" = none) (mmin : mg "min" = none) :
    FnOk P w K mg base CX0 (k + 1) fReach fdReach ["q", "n", "words"] (spReach K) := by
  refine dReach.F.ok scReach (fun vs H Q E h => ?_) (fun cdv A outer s H vs Q E hr h => ?_)
  · obtain ⟨q, n, a, C, rfl, _⟩ := h
    rfl
  · obtain ⟨q, n, a, C, rfl, hq1, hq3, hn, hC, hne, lC, ha, ret⟩ := h
    refine ⟨_, pss_cons (ps_set (i := 3) scReach.nd rfl (.inr rfl) (pe_lc (own := [("word", 5)]) (g := gName 5) (tt := tYes) (te := tCall (spMarks) [] _ (tCons (tVar 5) (tNil))) rfl scReach.nd (pi_list (pv 2)) (blkOk_by (own := [("word", 5)]) (N := nReach) (sc := defScope sReach) (by decide +kernel)) (fun _ _ _ _ _ => pg_name (i := 5) scReach.nd rfl (.inl rfl)) (fun _ _ _ _ _ => pts_nil) (fun _ _ _ _ _ => pe_call gMarks hr (by rfl) dMarks.g dMarks.F.kp dMarks.b .nil pass0 (pa_cons (pv 5) pa_nil))))
      (pss_cons (ps_setLc (i := 4) (own := [("word", 5)]) (g := gName 5) (tt := tYes) (te := tCall (spMarks) [] _ (tCons (tVar 5) (tNil))) rfl scReach.nd rfl rfl (sw_true rfl rfl rfl (by decide +kernel)) (pi_list (pe_call gAllWords hr (by rfl) dAllWords.g dAllWords.F.kp dAllWords.b .nil pass0 (pa_cons (pv 0) (pa_cons (pv 1) pa_nil)))) (blkOk_by (own := [("word", 5)]) (N := nReach) (sc := defScope sReach) (by decide +kernel)) (fun _ _ _ _ _ => pg_name (i := 5) scReach.nd rfl (.inl rfl)) (fun _ _ _ _ _ => pts_nil) (fun _ _ _ _ _ => pe_call gMarks hr (by rfl) dMarks.g dMarks.F.kp dMarks.b .nil pass0 (pa_cons (pv 5) pa_nil)))
      (pss_one (ps_ret (pe_maxE rfl hr.units (by rfl) mmax (pa_cons (pe_lc (own := [("mark", 6)]) (g := gName 6) (tt := tYes) (te := tCB (rMin K) (tCons (tLc (iList K (tVar 3)) (gName 7) (tYes) (tCall (spGap) [] _ (tCons (tVar 6) (tCons (tVar 7) (tNil)))) [7]) (tNil))) rfl scReach.nd (pi_list (pv 4)) (blkOk_by (own := [("mark", 6)]) (N := nReach) (sc := defScope sReach) (by decide +kernel)) (fun _ _ _ _ _ => pg_name (i := 6) scReach.nd rfl (.inr rfl)) (fun _ _ _ _ _ => pts_nil) (fun _ _ _ _ _ => pe_minE rfl hr.units (by rfl) mmin (pa_cons (pe_lc (own := [("held", 7)]) (wi := iList K (tVar 3)) (g := gName 7) (tt := tYes) (te := tCall (spGap) [] _ (tCons (tVar 6) (tCons (tVar 7) (tNil)))) rfl scReach.nd (pi_list (pv 3)) (blkOk_by (own := [("held", 7)]) (N := nReach) (by rfl)) (fun _ _ _ _ _ => pg_name (i := 7) scReach.nd rfl (.inl rfl)) (fun _ _ _ _ _ => pts_nil) (fun _ _ _ _ _ => pe_call gGap hr (by rfl) dGap.g dGap.F.kp dGap.b .nil pass0 (pa_cons (pv 6) (pa_cons (pv 7) pa_nil)))) pa_nil))) pa_nil))))), ?_⟩
    have w3 : ∀ w, Wd q n w → ∀ x ∈ w, x < 3 := fun w h x hx => Nat.lt_of_lt_of_le (h.2 x hx) hq3
    refine ⟨_, rfl, a, rfl, ⟨_, ha⟩, fun M0 nM => ?_⟩
    refine lcL (φ := fun w => V.str (wd w)) ha (fun _ => true) (fun w => V.int (mk 0 w : Nat)) nM (by omega) (fun w H' Y N hm g hy _ => ⟨rfl, yes (iteT ⟨_, rfl, w, rfl, by rw [(hC w hm).1]; omega, w3 w (hC w hm), hy rfl H' (Gr.refl _)⟩)⟩) (fun H1 g1 e1 => ?_)
    rw [filter_yes] at e1
    refine ⟨_, rfl, _, rfl, q, n, rfl, hq3, hn, fun H2 e0 s2 ne2 ee => ⟨e0, rfl, ⟨_, sq ee⟩, fun M1 nM1 => ?_⟩⟩
    have hL : ∀ w ∈ allD q n, Wd q n w := allD_wd
    have lL : (allD q n).length ≤ 6561 := by rw [allD_len]; exact pow_bound hq3 hn
    have hL0 : allD q n ≠ [] := fun z => by
      have h := allD_len q n
      rw [z] at h
      have : 0 < q ^ n := Nat.pow_pos hq1
      rw [← h] at this
      exact absurd this (by decide)
    unfold rch at ret
    generalize allD q n = L at ee hL lL ret hL0
    refine lcL (φ := fun w => V.str (wd w)) (sq ee) (fun _ => true) (fun w => V.int (mk 0 w : Nat)) nM1 (by omega) (fun w H' Y N hm g hy _ => ⟨rfl, yes (iteT ⟨_, rfl, w, rfl, by rw [(hL w hm).1]; omega, w3 w (hL w hm), hy rfl H' (Gr.refl _)⟩)⟩) (fun H3 g3 e3 => ?_)
    rw [filter_yes] at e3
    have m3 : H3 M0 = some (.lst (C.map fun w => V.int (mk 0 w : Nat))) := g3.lst (s2 _ _ e1)
    refine ⟨_, rfl, M1, rfl, ⟨_, sq e3⟩, fun D nD => ?_⟩
    refine lcL (φ := fun w => V.int (mk 0 w : Nat)) (sq e3) (fun _ => true) (fun u => V.int (nst C u : Nat)) nD (by omega) (fun u H' Y N hm g hy _ => ?_) (fun H4 g4 e4 => ?_)
    · have hu := hL u hm
      have m4 := g.lst m3
      refine ⟨rfl, yes (iteT ⟨_, rfl, M0, rfl, ⟨_, sq m4⟩, fun D2 nD2 => ?_⟩)⟩
      refine lcL (φ := fun w => V.int (mk 0 w : Nat)) (sq m4) (fun _ => true) (fun w => V.int (dist u w : Nat)) nD2 (by omega) (fun w H' Y N hm g hy _ => ?_) (fun H5 g5 e5 => ?_)
      · have hw := hC w hm
        exact ⟨rfl, yes (iteT ⟨_, rfl, _, rfl, u, w, rfl, by rw [hu.1, hw.1], by rw [hu.1]; omega, w3 u hu, w3 w hw, hy rfl H' (Gr.refl _)⟩)⟩
      · rw [filter_yes, ins_v C (dist u)] at e5
        refine ⟨D2, _, rfl, sq e5, ?_, fun m h1 h2 => ?_⟩
        · rw [ins_len, List.length_map]
          exact List.length_pos_iff.mpr hne
        · rw [ints_min h1 h2]
          exact hy rfl H5 g5
    · rw [filter_yes, ins_v L (nst C)] at e4
      refine ⟨D, _, rfl, sq e4, ?_, fun m h1 h2 => ?_⟩
      · rw [ins_len, List.length_map]
        exact List.length_pos_iff.mpr hL0
      · rw [ints_max h1 h2]
        exact ret H4 (g1.trans ((Gr.of s2).trans (g3.trans g4)))
end
end Wa
namespace Wa
open PySem PySem.Spec PyProof.Rows L2
/-! the script's draws: popping -/
/-- what pop hands back, and what is left -/
def popV (ds : List Int) : Int := ds.getLast?.getD 0
theorem popV_snoc (r : List Int) (d : Int) : popV (r ++ [d]) = d := by
  unfold popV
  rw [List.getLast?_append]
  rfl
/-- draws: numbers from nought on, below a bound -/
def Drawn (ds : List Int) : Prop := ∀ d ∈ ds, 0 ≤ d ∧ d < 2147483648
theorem Drawn.pop {ds : List Int} (h : Drawn ds) : 0 ≤ popV ds ∧ popV ds < 2147483648 := by
  unfold popV
  cases e : ds.getLast? with
  | none => exact ⟨Int.le_refl _, by decide⟩
  | some d => exact h d (List.mem_of_getLast? e)
theorem Drawn.rest {ds : List Int} (h : Drawn ds) : Drawn ds.dropLast := fun d hd => h d ((List.dropLast_sublist ds).subset hd)
theorem scPop : FnScope ["_law_draws_here"] ["_law_draws_here"] (defScope sPop) := ⟨rfl, rfl, rfl, by decide +kernel, rfl, by decide +kernel, by decide +kernel⟩
def spPop : Sp := fun vs H Q _ => ∃ (a : Addr) (ds : List Int), vs = [.ref a] ∧ H a = some (.lst (ds.map V.int)) ∧ ∀ H', H' a = some (.lst (ds.dropLast.map V.int)) → (∀ b, b ≠ a → ∀ o, H b = some o → H' b = some o) → Q (.int (popV ds)) H'
section
variable {P : Program} {w : World} {K : PySem.W.Frag} {mg : Str → Option Value} {base : Heap}
theorem ok_pop {f : Addr} {fd : FuncData} {k : Nat} (F : Fun K "_law_pop" "_law_pop" sPop f fd) : FnOk P w K mg base CX0 (k + 1) f fd ["_law_draws_here"] spPop := by
  refine F.ok scPop (fun vs H Q E h => ?_) (fun cdv A outer s H vs Q E hr h => ?_)
  · obtain ⟨a, ds, rfl, _⟩ := h
    rfl
  · obtain ⟨a, ds, rfl, ha, q⟩ := h
    refine ⟨_, pss_cons (ps_if (pt_cmpR (op_eqD hr.units) (pv 0) (pe_lst pa_nil) (nomark _)) (pss_one (ps_ret pe_int)) pss_nil)
      (pss_one (ps_ret (pe_bm0 PySem.F.plainAttrs_list PySem.F.slot_list_pop PySem.F.type_list_pop mt_pop (pv 0)))), ?_⟩
    refine ⟨.ref a, rfl, Nat.zero_le _, fun p np => ?_⟩
    have ha' : (upd H p (.lst [])) a = some (.lst (ds.map V.int)) := same_upd np _ _ ha
    refine ⟨dns ds, dns [], .lst (sq ha') (dp_ns ds), .lst (sq upd_same) .nil, sh_ns _, sh_ns _, _, rfl, ?_⟩
    rw [eqv_ns]
    refine ite2 (fun e => ?_) (fun e => ?_)
    · have e0 : ds = [] := of_decide_eq_true e
      subst e0
      exact q _ ha' fun b nb o ho => same_upd np _ _ ho
    · have e0 : ds ≠ [] := fun z => e (decide_eq_true z)
      refine ⟨.ref a, rfl, .inl ⟨rfl, _, sq ha'⟩, a, ds.map V.int, .int (popV ds), rfl, rfl, ha', ?_, ?_⟩
      · rw [List.length_map, List.getElem?_map]
        rw [← List.getLast?_eq_getElem?]
        unfold popV
        cases z : ds.getLast? with
        | none => exact absurd (List.getLast?_eq_none_iff.mp z) e0
        | some d => rfl
      · refine q _ ?_ fun b nb o ho => ?_
        · rw [upd_same, List.map_dropLast]
        · rw [upd_ne nb]
          exact same_upd np _ _ ho
end
end Wa
namespace Wa
open PySem PySem.Spec PyProof.Rows L2
/-! signs and a length -/
theorem scSize : FnScope ["_law_draws_here", "_law_number", "_law_q"] ["_law_draws_here"] (defScope sSize) := ⟨rfl, rfl, rfl, by decide +kernel, rfl, by decide +kernel, by decide +kernel⟩
def spSize : Sp := fun vs H Q _ => ∃ (a : Addr) (ds : List Int), vs = [.ref a] ∧ H a = some (.lst (ds.map V.int)) ∧ Drawn ds ∧
  ∀ H' p q n, QN q n → H p = none → H' p = some (.tup [.int (q : Nat), .int (n : Nat)]) → H' a = some (.lst (ds.dropLast.map V.int)) → Others a H H' → Q (.ref p) H'
section
variable {P : Program} {w : World} {K : PySem.W.Frag} {mg : Str → Option Value} {base : Heap}
theorem ok_size {f fP : Addr} {fd fdP : FuncData} {k : Nat} (F : Fun K "_law_size" "_law_size" sSize f fd) (FP : Fun K "_law_pop" "_law_pop" sPop fP fdP) (bP : Binds K fdP ["_law_draws_here"] []) (gP : mg "_law_pop" = some (.ref fP)) :
    FnOk P w K mg base CX0 (k + 2) f fd ["_law_draws_here"] spSize := by
  have GP : FnOk P w K mg base CX0 (k + 1) fP fdP ["_law_draws_here"] spPop := ok_pop FP
  refine F.ok scSize (fun vs H Q E h => ?_) (fun cdv A outer s H vs Q E hr h => ?_)
  · obtain ⟨a, ds, rfl, _⟩ := h
    rfl
  · obtain ⟨a, ds, rfl, ha, hd, q⟩ := h
    refine ⟨_, pss_cons (ps_set (i := 1) scSize.nd rfl (.inl rfl) (pe_call GP hr (by rfl) gP FP.kp bP .nil pass0 (pa_cons (pv 0) pa_nil)))
      (pss_cons (ps_set (i := 2) scSize.nd rfl (.inl rfl) (pe_op op_add pe_int (pe_op op_mod (pv 1) pe_int)))
      (pss_one (ps_ret (pe_tup (pa_cons (pv 2) (pa_cons (pe_op op_add pe_int (pe_op op_mod (pe_op op_fdiv (pv 1) pe_int) (pe_ix ix_list (pe_lst (pa_cons pe_int (pa_cons pe_int pa_nil))) (pe_op op_sub (pv 2) pe_int) (fun _ _ => rfl)))) pa_nil)))))), ?_⟩
    refine ⟨.ref a, rfl, a, ds, rfl, ha, fun H1 e1 o1 => ?_⟩
    obtain ⟨hp0, hp1⟩ := hd.pop
    generalize popV ds = x at hp0 hp1
    -- q = 2 + x % 2
    refine ⟨.int x, rfl, x, 2, rfl, rfl, (show (0 : Int) < 2 by decide), 2, x % 2, rfl, rfl, ?_⟩
    have hm : x % 2 = 0 ∨ x % 2 = 1 := by omega
    -- the tuple
    refine ⟨.int (2 + x % 2), rfl, .int x, rfl, x, 2, rfl, rfl, ⟨by decide, by decide⟩, by decide, fun p np => ?_⟩
    refine ⟨.int (2 + x % 2), rfl, 2 + x % 2, 2, rfl, rfl, p, [.int 8, .int 5], 2 + x % 2 - 2, .int (if x % 2 = 0 then 8 else 5), rfl, rfl, sq upd_same, ?_, ?_⟩
    · rcases hm with e | e <;> rw [e] <;> rfl
    have hs1 : Same H1 (upd H1 p (.lst [.int 8, .int 5])) := same_upd np
    have nap : a ≠ p := ne_of_none e1 np
    refine ⟨x / 2, if x % 2 = 0 then 8 else 5, rfl, rfl, by split <;> decide, 1, _, rfl, rfl, (show 2 ≤ sizeLine by decide), fun t nt => ?_⟩
    have npt : a ≠ t := ne_of_none (hs1 _ _ e1) nt
    have oth : Others a H (upd (upd H1 p (.lst [.int 8, .int 5])) t (.tup [.int (2 + x % 2), .int (1 + x / 2 % (if x % 2 = 0 then 8 else 5))])) :=
      fun b o nb ho => same_upd nt _ _ (hs1 _ _ (o1 b nb o ho))
    refine q _ t (2 + x % 2).toNat (1 + x / 2 % (if x % 2 = 0 then 8 else 5)).toNat ?_ ?_ ?_ ?_ oth
    · rcases hm with e | e
      · rw [if_pos e, e]
        refine .inl ⟨rfl, by omega, by omega⟩
      · rw [if_neg (by omega), e]
        refine .inr ⟨rfl, by omega, by omega⟩
    · cases z : H t with
      | none => rfl
      | some o =>
        by_cases et : t = a
        · exact absurd et.symm npt
        · have := hs1 _ _ (o1 t et o z)
          rw [this] at nt
          cases nt
    · have e2 : (0 : Int) ≤ x / 2 % (if x % 2 = 0 then 8 else 5) := Int.emod_nonneg _ (by split <;> decide)
      rw [upd_same, Int.toNat_of_nonneg (by omega), Int.toNat_of_nonneg (by omega)]
    · rw [upd_ne npt]
      exact hs1 _ _ e1
end
end Wa
namespace Wa
open PySem PySem.Spec PyProof.Rows L2
/-! the draws of a script -/
theorem scDraws : FnScope ["_law_script", "_law_turn", "_law_many", "_law_cells", "_law_found", "_law_left", "_law_k", "_law_at", "_law_place", "_law_number", "_law_cell"] ["_law_script", "_law_turn", "_law_many"] (defScope sDraws) := ⟨rfl, rfl, rfl, by decide +kernel, rfl, by decide +kernel, by decide +kernel⟩
def spDraws (K : PySem.W.Frag) : Sp := fun vs H Q _ => ∃ (a : Addr) (ns : List Int) (t m : Nat), vs = [.ref a, .int t, .int m] ∧ SqL K H a (ns.map V.int) ∧ t ≤ 1000 ∧ m ≤ 1000 ∧
  ∀ H' p ds, Same H H' → H p = none → ds.length = m → Drawn ds → H' p = some (.lst (ds.map V.int)) → Q (.ref p) H'
theorem cut63 (ns : List Int) : cutV (ns.map V.int) none (some 63) = (ns.take 63).map V.int := by
  unfold cutV
  rw [HT.sIx_none, show HT.sIx (ns.map V.int).length (ns.map V.int).length (some 63) = min 63 (ns.map V.int).length from HT.sIx_nat _ _ 63, List.drop_zero, Nat.sub_zero, List.length_map, ← List.map_take]
  congr 1
  by_cases h : ns.length ≤ 63
  · rw [List.take_of_length_le (by omega), List.take_of_length_le h]
  · rw [show min 63 ns.length = 63 by omega]
theorem drawn_snoc {ds : List Int} {d : Int} (h : Drawn ds) (h0 : 0 ≤ d) (h1 : d < 2147483648) : Drawn (ds ++ [d]) := fun x hx => by
  rcases List.mem_append.mp hx with z | z
  · exact h x z
  · rw [List.mem_singleton.mp z]
    exact ⟨h0, h1⟩
theorem drawn_nil : Drawn [] := fun x hx => absurd hx (by simp)
theorem ixN_at {n : Nat} {k : Int} (h0 : 0 ≤ k) (h : k < n) : ixN n k = some k.toNat := by
  unfold ixN
  rw [if_pos h0, if_pos h]
theorem at_int {xs : List Int} {k : Int} (h0 : 0 ≤ k) (h : k < xs.length) : ∃ d, atI (xs.map V.int) k = some (.int d) := by
  obtain ⟨j, rfl⟩ := Int.eq_ofNat_of_zero_le h0
  have hj : j < xs.length := by omega
  refine ⟨xs[j], atI_nat ?_⟩
  rw [List.getElem?_map, List.getElem?_eq_getElem hj]
  rfl
theorem set_int {xs : List Int} {j : Nat} {d : Int} : (xs.map V.int).set j (.int d) = (xs.set j d).map V.int := List.map_set.symm
section
variable {P : Program} {w : World} {K : PySem.W.Frag} {mg : Str → Option Value} {base : Heap}
theorem ok_draws {f : Addr} {fd : FuncData} {k : Nat} (F : Fun K "_law_draws" "_law_draws" sDraws f fd) (ml : mg "len" = none) (mr : mg "range" = none) : FnOk P w K mg base CX0 (k + 1) f fd ["_law_script", "_law_turn", "_law_many"] (spDraws K) := by
  refine F.ok scDraws (fun vs H Q E h => ?_) (fun cdv A outer s H vs Q E hr h => ?_)
  · obtain ⟨a, ns, t, m, rfl, _⟩ := h
    rfl
  · obtain ⟨a, ns, t, m, rfl, ha, ht, hm, q⟩ := h
    refine ⟨_, pss_cons (ps_set (i := 3) scDraws.nd rfl (.inl rfl) (pe_op op_cat (pe_slice sl_list (pv 0) po_none (po_some pe_int)) (pe_lst (pa_cons (pv 1) pa_nil))))
      (pss_cons (ps_set (i := 4) scDraws.nd rfl (.inl rfl) (pe_lst pa_nil))
      (pss_cons (ps_if (pt_cmpR op_eq (pe_op op_mod (pe_op op_fdivW (pe_ix ix_list (pv 3) pe_int (fun _ _ => rfl)) pe_int) pe_int) pe_int (nomark _))
        (pss_cons (ps_setLc (i := 5) (own := [("_law_cell", 10)]) (g := gName 10) (tt := tYes) rfl scDraws.nd rfl rfl (sw_true rfl rfl rfl (by decide +kernel)) (pi_list (pv 3))
            (blkOk_by (own := [("_law_cell", 10)]) (N := ["_law_script", "_law_turn", "_law_many", "_law_cells", "_law_found", "_law_left", "_law_k", "_law_at", "_law_place", "_law_number", "_law_cell"]) (sc := defScope sDraws) (by decide +kernel))
            (fun _ _ _ _ _ => pg_name (i := 10) scDraws.nd rfl (Or.inl rfl)) (fun _ _ _ _ _ => pts_nil) (fun _ _ _ _ _ => pe_op op_fdivW (pv 10) pe_int))
        (pss_cons (ps_for PassesOwn.never rfl (pi_range1 rfl mr (pa_cons (pe_op op_add (pv 1) (pv 2)) pa_nil)) (pg_name (i := 6) scDraws.nd rfl (.inl rfl))
          (pss_cons (ps_set (i := 7) scDraws.nd rfl (.inl rfl) (pe_op op_mod (pv 6) (pe_callB call_len_seq (by rfl) ml PySem.boot_len (pa_cons (pv 5) pa_nil))))
          (pss_cons (ps_if (pt_cmpR op_ge (pv 6) (pv 1) (nomark _))
            (pss_one (ps_expr (pe_bm PySem.F.plainAttrs_list PySem.F.slot_list_append PySem.F.type_list_append mt_append (pv 4) (pa_cons (pe_op op_mod (pe_ix ix_list (pv 5) (pv 7) (fun _ _ => rfl)) pe_int) pa_nil)))) pss_nil)
          (pss_one (ps_asg (pe_op op_fdivW (pe_ix ix_list (pv 5) (pv 7) (fun _ _ => rfl)) pe_int) (pg_sub (pv 5) (pv 7) set_list))))))
        (pss_one (ps_ret (pv 4))))) pss_nil)
      (pss_cons (ps_for PassesOwn.never rfl (pi_range1 rfl mr (pa_cons (pv 2) pa_nil)) (pg_name (i := 6) scDraws.nd rfl (.inl rfl))
        (pss_cons (ps_set (i := 8) scDraws.nd rfl (.inl rfl) (pe_op op_add (pe_op op_mul (pe_op op_mul (pe_op op_add (pv 6) (pv 1)) (pe_op op_add (pv 6) (pv 1))) pe_int) pe_int))
        (pss_cons (ps_set (i := 9) scDraws.nd rfl (.inl rfl) (pe_op op_mod (pe_op op_mul (pe_op op_add (pe_op op_mod (pe_ix ix_list (pv 3) (pe_op op_mod (pv 6) (pe_callB call_len_seq (by rfl) ml PySem.boot_len (pa_cons (pv 3) pa_nil))) (fun _ _ => rfl)) pe_int) (pv 8)) pe_int) pe_int))
        (pss_cons (ps_set (i := 9) scDraws.nd rfl (.inl rfl) (pe_op op_mod (pe_op op_add (pe_op op_mul (pv 9) (pv 9)) (pe_op op_mul pe_int (pv 6))) pe_int))
        (pss_one (ps_expr (pe_bm PySem.F.plainAttrs_list PySem.F.slot_list_append PySem.F.type_list_append mt_append (pv 4) (pa_cons (pe_op op_mod (pe_op op_mul (pv 9) (pv 9)) pe_int) pa_nil))))))))
      (pss_one (ps_ret (pv 4)))))), ?_⟩
    -- cells
    refine ⟨.ref a, rfl, 63, rfl, a, ns.map V.int, rfl, ha, fun c nc => ?_⟩
    rw [cut63]
    have s1 : Same H (upd H c (.lst ((ns.take 63).map V.int))) := same_upd nc
    refine ⟨.int t, rfl, (show 1 ≤ sizeLine by decide), fun u nu => ?_⟩
    have ncu : c ≠ u := fun e => by
      rw [← e, upd_same] at nu
      cases nu
    have hlen : (ns.take 63).length ≤ 63 := by
      rw [List.length_take]
      omega
    refine ⟨c, u, (ns.take 63).map V.int, [.int t], rfl, rfl, by rw [upd_ne ncu, upd_same], upd_same, by rw [List.length_map]; exact sz (by show (ns.take 63).length + 1 ≤ 16000000; omega), fun l nl => ?_⟩
    have s2 : Same H (upd (upd H c (.lst ((ns.take 63).map V.int))) u (.lst [.int t])) := s1.trans (same_upd nu)
    have s3 := s2.trans (same_upd (o := .lst ((ns.take 63).map V.int ++ [.int t])) nl)
    have ecells : (ns.take 63).map V.int ++ [V.int t] = (ns.take 63 ++ [(t : Int)]).map V.int := by rw [List.map_append]; rfl
    rw [ecells] at s3 ⊢
    have hcl : (ns.take 63 ++ [(t : Int)]).length ≤ 64 ∧ 0 < (ns.take 63 ++ [(t : Int)]).length := by
      rw [List.length_append]
      constructor
      · show _ + 1 ≤ 64
        omega
      · show 0 < _ + 1
        omega
    have hl : (upd (upd (upd H c (.lst ((ns.take 63).map V.int))) u (.lst [.int t])) l (.lst ((ns.take 63 ++ [(t : Int)]).map V.int))) l = some (.lst ((ns.take 63 ++ [(t : Int)]).map V.int)) := upd_same
    generalize (ns.take 63 ++ [(t : Int)]) = cs at s3 hcl hl ⊢
    generalize (upd (upd (upd H c (.lst ((ns.take 63).map V.int))) u (.lst [.int t])) l (.lst (cs.map V.int))) = H3 at s3 hl ⊢
    have nHl : H l = none := s2.free nl
    -- found
    refine ⟨Nat.zero_le _, fun o no => ?_⟩
    have nHo : H o = none := s3.free no
    have nlo : l ≠ o := ne_of_none hl no
    have s4 : Same H (upd H3 o (.lst [])) := s3.trans (same_upd no)
    have hl4 : (upd H3 o (.lst [])) l = some (.lst (cs.map V.int)) := by rw [upd_ne nlo]; exact hl
    have ho4 : (upd H3 o (.lst [])) o = some (.lst (([] : List Int).map V.int)) := upd_same
    generalize (upd H3 o (.lst [])) = H4 at s4 hl4 ho4 ⊢
    obtain ⟨c0, hc0⟩ := at_int (xs := cs) (k := 0) (Int.le_refl _) (by omega)
    refine ⟨.ref l, rfl, l, cs.map V.int, 0, .int c0, rfl, rfl, sq hl4, hc0, c0, 50000, rfl, rfl, wide_div (b := 17) (by decide) (by decide) (by decide) (by decide), _, 2, rfl, rfl, (show (0 : Int) < 2 by decide), rfl, _, rfl, ite2 (fun e => ?_) (fun e => ?_)⟩
    · -- left
      refine ⟨.ref l, rfl, l, rfl, ⟨_, sq hl4⟩, fun D nD => ?_⟩
      have nHD : H D = none := s4.free nD
      have nlD : l ≠ D := ne_of_none hl4 nD
      have noD : o ≠ D := ne_of_none ho4 nD
      refine walk_n cs.length (fun i H' => Same H H' ∧ H' l = some (.lst (cs.map V.int)) ∧ H' o = some (.lst (([] : List Int).map V.int)) ∧ H' D = some (.lst (((cs.take i).map (· / 100000)).map V.int)))
        ⟨same_over s4 nHD, by rw [upd_ne nlD]; exact hl4, by rw [upd_ne noD]; exact ho4, upd_same⟩ (fun i H' hi ⟨i1, i2, i3, i4⟩ => ⟨itl_go (sq i2) (by rw [List.length_map]; exact hi), fun x H'' y => ?_⟩) (fun H' ⟨i1, i2, i3, i4⟩ => ⟨itl_stop (sq i2) (by rw [List.length_map]), ?_⟩)
      · obtain ⟨rfl, ex⟩ := itl_yld (sq i2) y
        rw [List.getElem?_map, List.getElem?_eq_getElem hi] at ex
        cases ex
        refine ⟨rfl, yes (iteT ?_)⟩
        refine ⟨_, rfl, cs[i], 100000, rfl, rfl, wide_div (b := 17) (by decide) (by decide) (by decide) (by decide), _, i4, ?_, ?_⟩
        · rw [List.length_map, List.length_map, List.length_take]
          exact sz' (by omega)
        · refine ⟨same_over i1 nHD, by rw [upd_ne nlD]; exact i2, by rw [upd_ne noD]; exact i3, ?_⟩
          rw [upd_same, List.take_add_one, List.getElem?_eq_getElem hi, List.map_append, List.map_append]
          rfl
      · rw [List.take_length] at i4
        have hll : (cs.map (· / 100000)).length = cs.length := List.length_map ..
        generalize cs.map (· / 100000) = ls0 at i4 hll
        -- the loop
        refine ⟨.int t, rfl, .int m, rfl, t, m, rfl, rfl, (t : Int) + m, rfl, by omega, by omega, ?_⟩
        refine walk_f (t + m) (fun i σ H' => ∃ (ls ds : List Int) (y6 y7 : Option V), σ = [some (.ref a), some (.int t), some (.int m), some (.ref l), some (.ref o), some (.ref D), y6, y7, none, none, none] ∧ Same H H' ∧ H' D = some (.lst (ls.map V.int)) ∧ ls.length = cs.length ∧
            H' o = some (.lst (ds.map V.int)) ∧ ds.length = i - t ∧ Drawn ds) ⟨ls0, [], none, none, rfl, i1, i4, hll, i3, by rw [Nat.zero_sub]; rfl, drawn_nil⟩ (fun i σ H' hi hp => ?_) (fun σ H' hp => ?_)
        · obtain ⟨ls, ds, y6, y7, rfl, j1, j2, j3, j4, j5, j6⟩ := hp
          refine ⟨by show i < ((t : Int) + m).toNat; omega, fun x H'' y => ?_⟩
          obtain ⟨rfl, rfl⟩ := y
          refine ⟨.int (0 + (i : Int)), rfl, .ref D, rfl, D, _, rfl, .inl (sq j2), 0 + (i : Int), _, rfl, rfl, (by rw [List.length_map]; omega), ?_⟩
          have hlp : (0 : Int) < (ls.map V.int).length := by rw [List.length_map]; omega
          have hk0 : 0 ≤ (0 + (i : Int)) % ((ls.map V.int).length : Int) := Int.emod_nonneg _ (by omega)
          have hk1 : (0 + (i : Int)) % ((ls.map V.int).length : Int) < ls.length := by
            have := Int.emod_lt_of_pos (0 + (i : Int)) hlp
            rw [List.length_map] at this ⊢
            exact this
          obtain ⟨kk, ekk⟩ : ∃ kk, kk = (0 + (i : Int)) % ((ls.map V.int).length : Int) := ⟨_, rfl⟩
          rw [← ekk] at hk0 hk1
          obtain ⟨d, hd⟩ := at_int hk0 hk1
          have nDo : D ≠ o := fun z => noD z.symm
          have store : ∀ H5 : Hp, Same H H5 → H5 D = some (.lst (ls.map V.int)) → ∀ ds' : List Int, H5 o = some (.lst (ds'.map V.int)) → ds'.length = (i + 1) - t → Drawn ds' →
              (tAsg (tOp (rI CDivW fun i j => V.int (i / j)) (tOp (rIxL K) (tVar 5) (tVar 7)) (tC (.int 2147483587))) (gSub (tVar 5) (tVar 7) rSetL)) { nx := fun σ H' => ∃ (ls ds : List Int) (y6 y7 : Option V), σ = [some (.ref a), some (.int t), some (.int m), some (.ref l), some (.ref o), some (.ref D), y6, y7, none, none, none] ∧ Same H H' ∧ H' D = some (.lst (ls.map V.int)) ∧ ls.length = cs.length ∧ H' o = some (.lst (ds.map V.int)) ∧ ds.length = (i + 1) - t ∧ Drawn ds, rt := Q } [some (.ref a), some (.int t), some (.int m), some (.ref l), some (.ref o), some (.ref D), some (.int (0 + (i : Int))), some (.int kk), none, none, none] H5 := by
            intro H5 k1 k2 ds' k3 k4 k5
            refine ⟨.ref D, rfl, .int kk, rfl, D, _, kk, _, rfl, rfl, sq k2, hd, d, 2147483587, rfl, rfl, wide_div (b := 32) (by decide) (by decide) (by decide) (by decide), .ref D, rfl, .int kk, rfl, D, _, kk, kk.toNat, rfl, rfl, k2, ?_, ?_⟩
            · rw [List.length_map]
              exact ixN_at hk0 hk1
            · refine ⟨ls.set kk.toNat (d / 2147483587), ds', _, _, rfl, same_over k1 nHD, ?_, by rw [List.length_set]; exact j3, by rw [upd_ne noD]; exact k3, k4, k5⟩
              rw [upd_same, set_int]
          subst ekk
          refine ⟨.int (0 + (i : Int)), rfl, .int t, rfl, _, _, rfl, rfl, _, rfl, ite2 (fun z => ?_) (fun z => ?_)⟩
          · have z' : (t : Int) ≤ 0 + (i : Int) := of_decide_eq_true z
            refine ⟨.ref o, rfl, .inl ⟨rfl, _, sq j4⟩, .ref D, rfl, .int _, rfl, D, _, _, _, rfl, rfl, sq j2, hd, d, 2147483587, rfl, rfl, (show (0 : Int) < 2147483587 by decide), o, _, _, rfl, rfl, j4, ?_, ?_⟩
            · rw [List.length_map]
              exact sz' (by omega)
            · refine store _ (same_over j1 nHo) (by rw [upd_ne nDo]; exact j2) (ds ++ [d % 2147483587]) ?_ ?_ ?_
              · rw [upd_same, List.map_append]
                rfl
              · rw [List.length_append]
                show ds.length + 1 = _
                omega
              · have h1 := Int.emod_nonneg d (show (2147483587 : Int) ≠ 0 by decide)
                have h2 := Int.emod_lt_of_pos d (show (0 : Int) < 2147483587 by decide)
                exact drawn_snoc j6 h1 (by omega)
          · have z' : ¬ (t : Int) ≤ 0 + (i : Int) := fun y => z (decide_eq_true y)
            exact store _ j1 j2 ds j4 (by omega) j6
        · obtain ⟨ls, ds, y6, y7, rfl, j1, j2, j3, j4, j5, j6⟩ := hp
          refine ⟨by show ((t : Int) + m).toNat ≤ t + m; omega, .ref o, rfl, q _ o ds j1 nHo (by omega) j6 j4⟩
    · -- the second way
      refine ⟨.int m, rfl, (m : Int), rfl, by omega, by omega, ?_⟩
      refine walk_f m (fun i σ H' => ∃ (ds : List Int) (y6 y8 y9 : Option V), σ = [some (.ref a), some (.int t), some (.int m), some (.ref l), some (.ref o), none, y6, none, y8, y9, none] ∧ Same H H' ∧ H' l = some (.lst (cs.map V.int)) ∧
            H' o = some (.lst (ds.map V.int)) ∧ ds.length = i ∧ Drawn ds) ⟨[], none, none, none, rfl, s4, hl4, ho4, rfl, drawn_nil⟩ (fun i σ H' hi hp => ?_) (fun σ H' hp => ?_)
      · obtain ⟨ds, y6, y8, y9, rfl, j1, j2, j3, j4, j5⟩ := hp
        refine ⟨by show i < (m : Int).toNat; omega, fun x H'' y => ?_⟩
        obtain ⟨rfl, rfl⟩ := y
        have hi2 : (0 + (i : Int)) = (i : Int) := by omega
        rw [hi2]
        have hsum : (0 : Int) ≤ (i : Int) + t ∧ (i : Int) + t ≤ 2000 := by omega
        -- place
        refine ⟨.int i, rfl, .int t, rfl, _, _, rfl, rfl, .int i, rfl, .int t, rfl, _, _, rfl, rfl, (i : Int) + t, (i : Int) + t, rfl, rfl, .inl ⟨by omega, by omega⟩, _, 7919, rfl, rfl, .inr ⟨by decide, by decide⟩, _, 104729, rfl, rfl, ?_⟩
        have hpl : (0 : Int) ≤ ((i : Int) + t) * ((i : Int) + t) * 7919 + 104729 := by
          have := Int.mul_nonneg hsum.1 hsum.1
          omega
        dsimp only
        generalize ((i : Int) + t) * ((i : Int) + t) * 7919 + 104729 = pl at hpl ⊢
        have hcp : (0 : Int) < (cs.map V.int).length := by rw [List.length_map]; omega
        have hk0 : 0 ≤ (i : Int) % ((cs.map V.int).length : Int) := Int.emod_nonneg _ (by omega)
        have hk1 : (i : Int) % ((cs.map V.int).length : Int) < cs.length := by
          have := Int.emod_lt_of_pos (i : Int) hcp
          rw [List.length_map] at this ⊢
          exact this
        obtain ⟨d, hd⟩ := at_int hk0 hk1
        refine ⟨.ref l, rfl, .int i, rfl, .ref l, rfl, l, _, rfl, .inl (sq j2), _, _, rfl, rfl, hcp, l, _, _, _, rfl, rfl, sq j2, hd, d, 2147483647, rfl, rfl, (show (0 : Int) < 2147483647 by decide), .int pl, rfl, _, pl, rfl, rfl, _, 48271, rfl, rfl, .inr ⟨by decide, by decide⟩, _, 2147483647, rfl, rfl, (show (0 : Int) < 2147483647 by decide), ?_⟩
        have hn0 := Int.emod_nonneg ((d % 2147483647 + pl) * 48271) (show (2147483647 : Int) ≠ 0 by decide)
        have hn1 := Int.emod_lt_of_pos ((d % 2147483647 + pl) * 48271) (show (0 : Int) < 2147483647 by decide)
        dsimp only
        generalize (d % 2147483647 + pl) * 48271 % 2147483647 = nu at hn0 hn1 ⊢
        refine ⟨.int nu, rfl, .int nu, rfl, nu, nu, rfl, rfl, .inl ⟨by omega, by omega⟩, .int i, rfl, 69621, i, rfl, rfl, .inl ⟨by decide, by decide⟩, _, _, rfl, rfl, _, 2147483629, rfl, rfl, (show (0 : Int) < 2147483629 by decide), ?_⟩
        have hm0 := Int.emod_nonneg (nu * nu + 69621 * (i : Int)) (show (2147483629 : Int) ≠ 0 by decide)
        have hm1 := Int.emod_lt_of_pos (nu * nu + 69621 * (i : Int)) (show (0 : Int) < 2147483629 by decide)
        dsimp only
        generalize (nu * nu + 69621 * (i : Int)) % 2147483629 = mu at hm0 hm1 ⊢
        refine ⟨.ref o, rfl, .inl ⟨rfl, _, sq j3⟩, .int mu, rfl, .int mu, rfl, mu, mu, rfl, rfl, .inl ⟨by omega, by omega⟩, _, 2147483587, rfl, rfl, (show (0 : Int) < 2147483587 by decide), o, _, _, rfl, rfl, j3, ?_, ?_⟩
        · rw [List.length_map]
          exact sz' (by omega)
        · have hx0 := Int.emod_nonneg (mu * mu) (show (2147483587 : Int) ≠ 0 by decide)
          have hx1 := Int.emod_lt_of_pos (mu * mu) (show (0 : Int) < 2147483587 by decide)
          refine ⟨ds ++ [mu * mu % 2147483587], _, _, _, rfl, same_over j1 nHo, by rw [upd_ne nlo]; exact j2, ?_, ?_, drawn_snoc j5 hx0 (by omega)⟩
          · rw [upd_same, List.map_append]
            rfl
          · rw [List.length_append, j4]
            rfl
      · obtain ⟨ds, y6, y8, y9, rfl, j1, j2, j3, j4, j5⟩ := hp
        refine ⟨by show (m : Int).toNat ≤ m; omega, .ref o, rfl, q _ o ds j1 nHo j4 j5 j3⟩
end
end Wa
namespace Wa
open PySem PySem.Spec PyProof.Rows L2
/-! a word of a drawn number -/
abbrev nWord : List Str := ["_law_number", "_law_q", "_law_n", "_law_word_here", "_law_k"]
theorem scWord : FnScope nWord ["_law_number", "_law_q", "_law_n"] (defScope sWord) := ⟨rfl, rfl, rfl, by decide +kernel, rfl, by decide +kernel, by decide +kernel⟩
def spWord : Sp := fun vs H Q _ => ∃ (x : Int) (q n : Nat), vs = [.int x, .int q, .int n] ∧ 0 ≤ x ∧ 1 ≤ q ∧ q ≤ 3 ∧ n ≤ 100 ∧ ∀ ds, Wd q n ds → Q (.str (wd ds)) H
section
variable {P : Program} {w : World} {K : PySem.W.Frag} {mg : Str → Option Value} {base : Heap}
theorem ok_word {f : Addr} {fd : FuncData} {k : Nat} (D : Df K mg "_law_word" sWord ["_law_number", "_law_q", "_law_n"] f fd) (mr : mg "range" = none) (mt : mg "str" = none) : FnOk P w K mg base CX0 (k + 1) f fd ["_law_number", "_law_q", "_law_n"] spWord := by
  refine D.F.ok scWord (fun vs H Q E h => ?_) (fun cdv A outer s H vs Q E hr h => ?_)
  · obtain ⟨x, q, n, rfl, _⟩ := h
    rfl
  · obtain ⟨x, q, n, rfl, hx, hq1, hq, hn, ret⟩ := h
    refine ⟨_, pss_cons (ps_set (i := 3) scWord.nd rfl (.inl rfl) pe_str)
      (pss_cons (ps_for PassesOwn.never rfl (pi_range1 rfl mr (pa_cons (pv 2) pa_nil)) (pg_name (i := 4) scWord.nd rfl (.inl rfl))
        (pss_cons (ps_set (i := 3) scWord.nd rfl (.inl rfl) (pe_op op_add_str (pv 3) (pe_callTy call_str_int (by rfl) mt (by decide +kernel) (pa_cons (pe_op op_mod (pv 0) (pv 1)) pa_nil))))
        (pss_one (ps_set (i := 0) scWord.nd rfl (.inl rfl) (pe_op op_fdiv (pv 0) (pv 1))))))
      (pss_one (ps_ret (pv 3)))), ?_⟩
    refine ⟨_, rfl, (n : Int), rfl, by omega, by omega, ?_⟩
    refine walk_f n (fun i σ H' => ∃ (y : Int) (ds : List Nat) (y4 : Option V), σ = [some (.int y), some (.int q), some (.int n), some (.str (wd ds)), y4] ∧ H' = H ∧ 0 ≤ y ∧ Wd q i ds) ⟨x, [], none, rfl, rfl, hx, rfl, fun d hd => absurd hd (by simp)⟩ (fun i σ H' hi hp => ?_) (fun σ H' hp => ?_)
    · obtain ⟨y, ds, y4, rfl, rfl, hy, hw⟩ := hp
      refine ⟨by show i < (n : Int).toNat; omega, fun z H'' yy => ?_⟩
      obtain ⟨rfl, rfl⟩ := yy
      have m0 := Int.emod_nonneg y (show (q : Int) ≠ 0 by omega)
      have m1 := Int.emod_lt_of_pos y (show (0 : Int) < q by omega)
      obtain ⟨s, hs⟩ := Int.eq_ofNat_of_zero_le m0
      have hs3 : s < 3 := by omega
      refine ⟨_, rfl, _, rfl, _, rfl, y, (q : Int), rfl, rfl, (show (0 : Int) < q by omega), _, rfl, ?_, wd ds, _, rfl, rfl, ?_, ?_⟩
      · rw [hs]
        exact small_log hs3
      · rw [hs, str_fig hs3, wd_len, wd_len, hw.1]
        exact sz (by show i + 1 ≤ 16000000; omega)
      · rw [hs, str_fig hs3, wd_app]
        refine ⟨_, rfl, _, rfl, y, (q : Int), rfl, rfl, ⟨by omega, by omega⟩, y / q, ds ++ [s], _, rfl, rfl, Int.ediv_nonneg hy (by omega), ?_, fun d hd => ?_⟩
        · rw [List.length_append, hw.1]
          rfl
        · rcases List.mem_append.mp hd with z | z
          · exact hw.2 d z
          · rw [List.mem_singleton.mp z]
            omega
    · obtain ⟨y, ds, y4, rfl, rfl, hy, hw⟩ := hp
      exact ⟨by show (n : Int).toNat ≤ n; omega, _, rfl, ret ds hw⟩
end
end Wa
namespace Wa
open PySem PySem.Spec PyProof.Rows L2
/-! the law's own distance -/
abbrev nFar : List Str := ["_law_one", "_law_other", "_law_k"]
theorem scFar : FnScope nFar ["_law_one", "_law_other"] (defScope sFar) := ⟨rfl, rfl, rfl, by decide +kernel, rfl, by decide +kernel, by decide +kernel⟩
def spFar : Sp := fun vs H Q _ => ∃ (a b : List Nat), vs = [.str (wd a), .str (wd b)] ∧ a.length = b.length ∧ a.length ≤ 1000 ∧ ∀ H', Same H H' → Q (.int (dist a b)) H'
section
variable {P : Program} {w : World} {K : PySem.W.Frag} {mg : Str → Option Value} {base : Heap}
theorem ok_far {f : Addr} {fd : FuncData} {k : Nat} (D : Df K mg "_law_far" sFar ["_law_one", "_law_other"] f fd) (mr : mg "range" = none) (ml : mg "len" = none) : FnOk P w K mg base CX0 (k + 1) f fd ["_law_one", "_law_other"] spFar := by
  refine D.F.ok scFar (fun vs H Q E h => ?_) (fun cdv A outer s H vs Q E hr h => ?_)
  · obtain ⟨a, b, rfl, _⟩ := h
    rfl
  · obtain ⟨a, b, rfl, hl, hl2, ret⟩ := h
    refine ⟨_, pss_one (ps_ret (pe_callB call_len_seq (by rfl) ml PySem.boot_len (pa_cons (pe_lc (own := [("_law_k", 2)]) (g := gName 2) rfl scFar.nd (pi_range1 rfl mr (pa_cons (pe_callB call_len_str (by rfl) ml PySem.boot_len (pa_cons (pv 0) pa_nil)) pa_nil))
      (blkOk_by (own := [("_law_k", 2)]) (N := nFar) (sc := defScope sFar) (by decide +kernel)) (fun _ _ _ _ _ => pg_name (i := 2) scFar.nd rfl (Or.inl rfl))
      (fun _ _ _ _ _ => pts_one (pt_cmpR op_ne (pe_item_str (pv 0) (pv 2) (fun _ _ => rfl)) (pe_item_str (pv 1) (pv 2) (fun _ _ => rfl)) (nomark _))) (fun _ _ _ _ _ => pv 2)) pa_nil))), ?_⟩
    refine ⟨_, rfl, wd a, rfl, by rw [wd_len]; exact sz (by omega), _, rfl, by omega, ?_, fun D nD => ?_⟩
    · rw [wd_len]
      omega
    · have lt : ((wd a).length : Int).toNat = a.length := by rw [wd_len]; omega
      refine walk_n a.length (fun i H' => Same H H' ∧ ∃ xs : List Int, H' D = some (.lst (xs.map V.int)) ∧ xs.length = dist (a.take i) (b.take i)) ⟨same_upd nD, [], upd_same, by rw [List.take_zero]; rfl⟩
        (fun i H' hi ⟨i1, xs, i2, i3⟩ => ⟨by show i < ((wd a).length : Int).toNat; omega, fun x H'' y => ?_⟩) (fun H' ⟨i1, xs, i2, i3⟩ => ⟨by show ((wd a).length : Int).toNat ≤ a.length; omega, ?_⟩)
      · obtain ⟨rfl, rfl⟩ := y
        have e1 : a[i]? = some a[i] := List.getElem?_eq_getElem hi
        have hib : i < b.length := by omega
        have e2 : b[i]? = some b[i] := List.getElem?_eq_getElem hib
        have ht := dist_take e1 e2
        have hd := dist_le (a.take (i + 1)) (b.take (i + 1))
        rw [List.length_take] at hd
        have ei : (0 + (i : Int)).toNat = i := by omega
        have nHD : H D = none := nD
        refine ⟨rfl, _, rfl, _, rfl, wd a, 0 + (i : Int), 48 + a[i], rfl, rfl, by omega, by omega, by rw [wd_len]; omega, by rw [ei]; exact wd_ix e1, _, rfl, _, rfl, wd b, 0 + (i : Int), 48 + b[i], rfl, rfl, by omega, by omega, by rw [wd_len]; omega, by rw [ei]; exact wd_ix e2, rfl, _, rfl, ?_⟩
        rw [sign_ne]
        by_cases e : a[i] = b[i]
        · rw [decide_eq_true e]
          exact iteF ⟨i1, xs, i2, by rw [ht, if_pos e, i3]; rfl⟩
        · rw [decide_eq_false e]
          rw [if_neg e] at ht
          refine iteT ⟨_, rfl, _, i2, ?_, same_over i1 nHD, xs ++ [0 + (i : Int)], ?_, ?_⟩
          · rw [List.length_map, i3]
            exact sz' (by omega)
          · rw [upd_same, List.map_append]
            rfl
          · rw [List.length_append, i3, ht]
            rfl
      · rw [List.take_length, hl, List.take_length] at i3
        refine ⟨D, _, rfl, .inl (sq i2), ?_⟩
        rw [List.length_map, i3]
        exact ret _ i1
end
end Wa
namespace Wa
open PySem PySem.Spec PyProof.Rows L2
/-! a drawn list, apart as asked -/
abbrev nList : List Str := ["_law_draws_here", "_law_q", "_law_n", "_law_most", "_law_far_here", "_law_found", "_law_k", "_law_word_here", "_law_one"]
theorem scList : FnScope nList ["_law_draws_here", "_law_q", "_law_n", "_law_most", "_law_far_here"] (defScope sList) := ⟨rfl, rfl, rfl, by decide +kernel, rfl, by decide +kernel, by decide +kernel⟩
def spList : Sp := fun vs H Q _ => ∃ (a : Addr) (ds : List Int) (q n m : Nat) (fr : Int), vs = [.ref a, .int q, .int n, .int m, .int fr] ∧ QN q n ∧ m ≤ 200 ∧ H a = some (.lst (ds.map V.int)) ∧ Drawn ds ∧
  ∀ H' p ws ds', H p = none → H' p = some (.lst (vws ws)) → (∀ w ∈ ws, Wd q n w) → ws.length ≤ m → Apt fr ws → Drawn ds' → H' a = some (.lst (ds'.map V.int)) → OG a H H' → Q (.ref p) H'
section
variable {P : Program} {w : World} {K : PySem.W.Frag} {mg : Str → Option Value} {base : Heap}
theorem ok_List {fList  fWord  fPop  fFar : Addr} {fdList fdWord fdPop fdFar : FuncData} {k : Nat} (dList : Df K mg "_law_list" sList ["_law_draws_here", "_law_q", "_law_n", "_law_most", "_law_far_here"] fList fdList)
    (dWord : Df K mg "_law_word" sWord ["_law_number", "_law_q", "_law_n"] fWord fdWord) (gWord : FnOk P w K mg base CX0 k fWord fdWord ["_law_number", "_law_q", "_law_n"] (spWord))
    (dPop : Df K mg "_law_pop" sPop ["_law_draws_here"] fPop fdPop) (gPop : FnOk P w K mg base CX0 k fPop fdPop ["_law_draws_here"] (spPop))
    (dFar : Df K mg "_law_far" sFar ["_law_one", "_law_other"] fFar fdFar) (gFar : FnOk P w K mg base CX0 k fFar fdFar ["_law_one", "_law_other"] (spFar))
     (mr : mg "range" = none) :
    FnOk P w K mg base CX0 (k + 1) fList fdList ["_law_draws_here", "_law_q", "_law_n", "_law_most", "_law_far_here"] (spList) := by
  refine dList.F.ok scList (fun vs H Q E h => ?_) (fun cdv A outer s H vs Q E hr h => ?_)
  · obtain ⟨a, ds, q, n, m, fr, rfl, _⟩ := h
    rfl
  · obtain ⟨a, ds, q, n, m, fr, rfl, hqn, hm, ha, hd, ret⟩ := h
    obtain ⟨hq3, hn8⟩ := hqn.le
    have hq1 : 1 ≤ q := by rcases hqn with ⟨h1, h2, h3⟩ | ⟨h1, h2, h3⟩ <;> omega
    refine ⟨_, pss_cons (ps_set (i := 5) scList.nd rfl (.inl rfl) (pe_lst pa_nil))
      (pss_cons (ps_for PassesOwn.never rfl (pi_range1 rfl mr (pa_cons (pe_op op_mod (pe_call gPop hr (by rfl) dPop.g dPop.F.kp dPop.b .nil pass0 (pa_cons (pv 0) pa_nil)) (pe_op op_add (pv 3) (pe_int))) pa_nil)) (pg_name (i := 6) scList.nd rfl (.inl rfl))
        (pss_cons (ps_set (i := 7) scList.nd rfl (.inr rfl) (pe_call gWord hr (by rfl) dWord.g dWord.F.kp dWord.b .nil pass0 (pa_cons (pe_call gPop hr (by rfl) dPop.g dPop.F.kp dPop.b .nil pass0 (pa_cons (pv 0) pa_nil)) (pa_cons (pv 1) (pa_cons (pv 2) pa_nil)))))
        (pss_one (ps_if (pt_cmpR (op_eqD hr.units) (pe_lc (own := [("_law_one", 8)]) (g := gName 8) (tt := tTest (tOp (_) (tCall (spFar) [] _ (tCons (tVar 8) (tCons (tVar 7) (tNil)))) (tVar 4))) (te := tVar 8) rfl scList.nd (pi_list (pv 5)) (blkOk_by (own := [("_law_one", 8)]) (N := nList) (sc := defScope sList) (by decide +kernel)) (fun _ _ _ _ _ => pg_name (i := 8) scList.nd rfl (.inl rfl)) (fun _ _ _ _ _ => pts_one (pt_cmpR op_lt (pe_call gFar hr (by rfl) dFar.g dFar.F.kp dFar.b .nil pass0 (pa_cons (pv 8) (pa_cons (pv 7) pa_nil))) (pv 4) (nomark _))) (fun _ _ _ _ _ => pv 8)) (pe_lst pa_nil) (nomark _)) (pss_one (ps_expr (pe_bm PySem.F.plainAttrs_list PySem.F.slot_list_append PySem.F.type_list_append mt_append (pv 5) (pa_cons (pv 7) pa_nil)))) pss_nil))))
      (pss_one (ps_ret (pv 5)))), ?_⟩
    refine ⟨Nat.zero_le _, fun F0 nF => ?_⟩
    have naF : a ≠ F0 := ne_of_none ha nF
    have a0 : (upd H F0 (.lst [])) a = some (.lst (ds.map V.int)) := by rw [upd_ne naF]; exact ha
    refine ⟨_, rfl, a, ds, rfl, a0, fun H1 a1 k1 => ?_⟩
    obtain ⟨x0, x1⟩ := hd.pop
    have v0 := Int.emod_nonneg (popV ds) (show ((m : Int) + 1) ≠ 0 by omega)
    have v1 := Int.emod_lt_of_pos (popV ds) (show (0 : Int) < (m : Int) + 1 by omega)
    refine ⟨_, rfl, _, _, rfl, rfl, _, _, rfl, rfl, (show (0 : Int) < (m : Int) + 1 by omega), _, rfl, by omega, by omega, ?_⟩
    obtain ⟨c, ec, hc⟩ : ∃ c : Nat, (popV ds % ((m : Int) + 1)) = c ∧ c ≤ m := ⟨(popV ds % ((m : Int) + 1)).toNat, by omega, by omega⟩
    have f1 : H1 F0 = some (.lst (vws [])) := k1 F0 (fun z => naF z.symm) _ upd_same
    have o1 : OG a H H1 := (OG.gr ((Gr.refl H).new nF)).trans (OG.pop k1 ⟨_, a1⟩)
    refine walk_f c (fun i σ H' => ∃ (y6 y7 : Option V) (ds : List Int) (ws : List (List Nat)), σ = [some (.ref a), some (.int q), some (.int n), some (.int m), some (.int fr), some (.ref F0), y6, y7, none] ∧ OG a H H' ∧ H' a = some (.lst (ds.map V.int)) ∧ Drawn ds ∧ H' F0 = some (.lst (vws ws)) ∧ (∀ w ∈ ws, Wd q n w) ∧ ws.length ≤ i ∧ Apt fr ws)
      ⟨none, none, _, [], rfl, o1, a1, hd.rest, f1, fun w h => absurd h (by simp), Nat.le_refl _, .nil⟩ (fun i σ H' hi hp => ?_) (fun σ H' hp => ?_)
    · obtain ⟨y6, y7, ds, ws, rfl, i1, i2, i3, i4, i5, i6, i7⟩ := hp
      refine ⟨?_, fun x H'' y => ?_⟩
      · show i < (popV _ % ((m : Int) + 1)).toNat
        rw [ec]
        omega
      obtain ⟨rfl, rfl⟩ := y
      refine ⟨_, rfl, a, ds, rfl, i2, fun H5 a5 k5 => ?_⟩
      refine ⟨_, rfl, _, rfl, _, q, n, rfl, i3.pop.1, hq1, hq3, by omega, fun u hu => ?_⟩
      have f5 := k5 F0 (fun z => naF z.symm) _ i4
      have o5 : OG a H H5 := i1.trans (OG.pop k5 ⟨_, a5⟩)
      refine ⟨_, rfl, F0, rfl, ⟨_, sq f5⟩, fun D0 nD => ?_⟩
      refine lcW (sq f5) (fun w => decide ((dist w u : Int) < fr)) (fun w => w) nD (by omega) (fun v H' Y N hm g hy hn => ?_) (fun H6 g6 e6 => ?_)
      · have hv := i5 v hm
        refine ⟨rfl, _, rfl, _, rfl, v, u, rfl, by rw [hv.1, hu.1], by rw [hv.1]; omega, fun H8 s8 => ?_⟩
        refine ⟨_, rfl, _, _, rfl, rfl, _, rfl, ite2 (fun e => ?_) (fun e => ?_)⟩
        · exact ⟨_, rfl, hy e H8 (Gr.of s8)⟩
        · exact hn (by rw [Bool.eq_false_iff]; exact e) H8 (Gr.of s8)
      · rw [List.map_id'] at e6
        refine ⟨Nat.zero_le _, fun z0 nz => ?_⟩
        generalize hU7 : upd _ _ _ = H7
        have g7 : Gr H6 H7 := by rw [← hU7]; exact (Gr.refl _).new nz
        have fu : Figs (ws.filter fun w => decide ((dist w u : Int) < fr)) := figs_of hq3 fun w h => i5 w (List.mem_filter.mp h).1
        refine eqW (B := []) (g7.lst e6) (at_same hU7) fu figs_nil ⟨_, rfl, ?_⟩
        have f7 := g7.lst (g6.lst f5)
        have a7 := g7.lst (g6.lst a5)
        have g57 := g6.trans g7
        by_cases hf : (ws.filter fun w => decide ((dist w u : Int) < fr)) = []
        · refine iteTB (decide_eq_true hf) ?_
          refine ⟨.ref F0, rfl, .inl ⟨rfl, _, sq f7⟩, _, rfl, F0, _, _, rfl, rfl, f7, by rw [vws_len]; exact sz' (by omega), ?_⟩
          generalize hU8 : upd _ _ _ = H8
          have hall : ∀ w ∈ ws, fr ≤ (dist w u : Int) := fun w hw => by
            have := List.filter_eq_nil_iff.mp hf w hw
            have h2 : ¬ (dist w u : Int) < fr := fun z => this (decide_eq_true z)
            omega
          refine ⟨_, _, _, ws ++ [u], rfl, ?_, at_ne hU8 naF a7, i3.rest, by rw [at_same hU8, vws_snoc], fun w h => ?_, by rw [List.length_append]; show ws.length + 1 ≤ _; omega, apt_snoc i7 hall⟩
          · rw [← hU8]
            exact (o5.trans (OG.gr g57)).over nF
          · rcases List.mem_append.mp h with z | z
            · exact i5 w z
            · rw [List.mem_singleton.mp z]; exact hu
        · refine iteFB (decide_eq_false hf) ?_
          exact ⟨_, _, _, ws, rfl, o5.trans (OG.gr g57), a7, i3.rest, f7, i5, by omega, i7⟩
    · obtain ⟨y6, y7, ds, ws, rfl, i1, i2, i3, i4, i5, i6, i7⟩ := hp
      refine ⟨?_, _, rfl, ret _ F0 ws ds nF i4 i5 (by omega) i7 i3 i2 i1⟩
      show (popV _ % ((m : Int) + 1)).toNat ≤ c
      rw [ec]
      omega
end
end Wa
namespace Wa
open PySem PySem.Spec PyProof.Rows L2
abbrev nFull : List Str := ["_law_q", "_law_n", "_law_d", "_law_words", "_law_word_here", "_law_one"]
theorem scFull : FnScope nFull ["_law_q", "_law_n", "_law_d", "_law_words"] (defScope sFull) := ⟨rfl, rfl, rfl, by decide +kernel, rfl, by decide +kernel, by decide +kernel⟩
def spFull (K : PySem.W.Frag) (P : Addr) : Sp := fun vs H Q _ => ∃ (q n : Nat) (d : Int) (a : Addr) (C : List (List Nat)), vs = [.int q, .int n, .int d, .ref a] ∧ q ≤ 3 ∧ n ≤ 8 ∧ (∀ w ∈ C, Wd q n w) ∧ Apt d C ∧ Cov q n d C ∧ C.length ≤ 10000 ∧ SqL K H a (vws C) ∧ GxR.TabG H P ∧
  ∀ H', Gr H H' → Q (.bl true) H'
section
variable {P : Program} {w : World} {K : PySem.W.Frag} {mg : Str → Option Value} {base : Heap}
theorem ok_Full {fFull  fAllWords  fKeeps  fFar  pKeeps : Addr} {fdFull fdAllWords fdKeeps fdFar : FuncData} {k : Nat} (dFull : Df K mg "_law_full" sFull ["_law_q", "_law_n", "_law_d", "_law_words"] fFull fdFull)
    (dAllWords : Df K mg "all_words" sAllWords ["q", "n"] fAllWords fdAllWords) (gAllWords : FnOk P w K mg base CX0 k fAllWords fdAllWords ["q", "n"] (spAW))
    (dKeeps : Df K mg "keeps" sKeeps ["words", "d"] fKeeps fdKeeps) (gKeeps : FnOk P w K mg base CX0 k fKeeps fdKeeps ["words", "d"] (spKeeps K pKeeps))
    (dFar : Df K mg "_law_far" sFar ["_law_one", "_law_other"] fFar fdFar) (gFar : FnOk P w K mg base CX0 k fFar fdFar ["_law_one", "_law_other"] (spFar))
      :
    FnOk P w K mg base CX0 (k + 1) fFull fdFull ["_law_q", "_law_n", "_law_d", "_law_words"] (spFull K pKeeps) := by
  refine dFull.F.ok scFull (fun vs H Q E h => ?_) (fun cdv A outer s H vs Q E hr h => ?_)
  · obtain ⟨q, n, d, a, C, rfl, _⟩ := h
    rfl
  · obtain ⟨q, n, d, a, C, rfl, hq3, hn, hC, hA, hV, lC, ha, hT, ret⟩ := h
    refine ⟨_, pss_cons (ps_if (pt_not (pt_val (pe_call gKeeps hr (by rfl) dKeeps.g dKeeps.F.kp dKeeps.b .nil pass0 (pa_cons (pv 3) (pa_cons (pv 2) pa_nil))))) (pss_one (ps_ret (pe_bl))) pss_nil)
      (pss_cons (ps_for PassesOwn.never rfl (pi_list (pe_call gAllWords hr (by rfl) dAllWords.g dAllWords.F.kp dAllWords.b .nil pass0 (pa_cons (pv 0) (pa_cons (pv 1) pa_nil)))) (pg_name (i := 4) scFull.nd rfl (.inr rfl))
        (pss_one (ps_if (PW.pt (pw_and (pt_cmpR op_notIn_seq (pv 4) (pv 3) (by rfl)) (pw_and1 (pt_cmpR (op_eqD hr.units) (pe_lc (own := [("_law_one", 5)]) (g := gName 5) (tt := tTest (tOp (_) (tCall (spFar) [] _ (tCons (tVar 5) (tCons (tVar 4) (tNil)))) (tVar 2))) (te := tVar 5) rfl scFull.nd (pi_list (pv 3)) (blkOk_by (own := [("_law_one", 5)]) (N := nFull) (sc := defScope sFull) (by decide +kernel)) (fun _ _ _ _ _ => pg_name (i := 5) scFull.nd rfl (.inl rfl)) (fun _ _ _ _ _ => pts_one (pt_cmpR op_lt (pe_call gFar hr (by rfl) dFar.g dFar.F.kp dFar.b .nil pass0 (pa_cons (pv 5) (pa_cons (pv 4) pa_nil))) (pv 2) (nomark _))) (fun _ _ _ _ _ => pv 5)) (pe_lst pa_nil) (nomark _))))) (pss_one (ps_ret (pe_bl))) pss_nil)))
      (pss_one (ps_ret (pe_bl)))), ?_⟩
    refine ⟨_, rfl, _, rfl, a, C, d, rfl, ⟨q, n, hq3, by omega, hC⟩, lC, ha, hT, fun H1 g1 => ⟨_, rfl, ?_⟩⟩
    rw [far_of_apt hA]
    refine iteF ?_
    refine ⟨_, rfl, _, rfl, q, n, rfl, hq3, hn, fun H3 e0 s3 ne3 ee => ?_⟩
    refine ⟨e0, rfl, ⟨_, sq ee⟩, ?_⟩
    have g3 : Gr H H3 := g1.trans (Gr.of s3)
    have hL : ∀ w ∈ allD q n, Wd q n w := allD_wd
    unfold Cov at hV
    generalize allD q n = L at ee hL hV
    refine walk_f L.length (fun i σ H' => ∃ (y4 : Option V), σ = [some (.int q), some (.int n), some (.int d), some (.ref a), y4, none] ∧ Gr H H' ∧ H' e0 = some (.lst (vws L)))
      ⟨none, rfl, g3, ee⟩ (fun i σ H' hi hp => ?_) (fun σ H' hp => ?_)
    · obtain ⟨y4, rfl, i1, i2⟩ := hp
      refine ⟨itl_go (sq i2) (by rw [vws_len]; exact hi), fun x H'' y => ?_⟩
      obtain ⟨rfl, ex⟩ := itl_yld (sq i2) y
      have gi : L[i]? = some L[i] := List.getElem?_eq_getElem hi
      have wu := hL _ (List.getElem_mem hi)
      have vu := hV _ (List.getElem_mem hi)
      rw [vws_get, gi] at ex
      cases ex
      generalize L[i] = u at gi wu vu
      refine ⟨_, rfl, _, rfl, a, _, rfl, .inl (i1.seq ha), rfl, flat_vws C, _, rfl, ?_⟩
      rw [in_wsv]
      by_cases hin : u ∈ C
      · rw [decide_eq_true hin]
        exact iteF (iteF ⟨_, rfl, i1, i2⟩)
      · rw [decide_eq_false hin]
        refine iteT ?_
        obtain ⟨c, hc, hcd⟩ := vu.resolve_left hin
        refine ⟨_, rfl, a, rfl, ⟨_, i1.seq ha⟩, fun D0 nD => ?_⟩
        refine lcW (i1.seq ha) (fun w => decide ((dist w u : Int) < d)) (fun w => w) nD (by omega) (fun v H' Y N hm g hy hn' => ?_) (fun H6 g6 e6 => ?_)
        · have hv := hC v hm
          refine ⟨rfl, _, rfl, _, rfl, v, u, rfl, by rw [hv.1, wu.1], by rw [hv.1]; omega, fun H8 s8 => ?_⟩
          refine ⟨_, rfl, _, _, rfl, rfl, _, rfl, ite2 (fun e => ?_) (fun e => ?_)⟩
          · exact ⟨_, rfl, hy e H8 (Gr.of s8)⟩
          · exact hn' (by rw [Bool.eq_false_iff]; exact e) H8 (Gr.of s8)
        · rw [List.map_id'] at e6
          refine ⟨Nat.zero_le _, fun z0 nz => ?_⟩
          generalize hU7 : upd _ _ _ = H7
          have g7 : Gr H6 H7 := by rw [← hU7]; exact (Gr.refl _).new nz
          have fu : Figs (C.filter fun w => decide ((dist w u : Int) < d)) := figs_of hq3 fun w h => hC w (List.mem_filter.mp h).1
          refine eqW (B := []) (g7.lst e6) (at_same hU7) fu figs_nil ⟨_, rfl, ?_⟩
          have hf : ¬ (C.filter fun w => decide ((dist w u : Int) < d)) = [] := fun z => by
            have : c ∈ C.filter fun w => decide ((dist w u : Int) < d) := List.mem_filter.mpr ⟨hc, decide_eq_true hcd⟩
            rw [z] at this
            cases this
          refine iteFB (decide_eq_false hf) ⟨_, rfl, i1.trans (g6.trans g7), g7.lst (g6.lst i2)⟩
    · obtain ⟨y4, rfl, i1, i2⟩ := hp
      exact ⟨itl_stop (sq i2) (vws_len _), ret _ i1⟩
end
end Wa
local macro_rules | `(tactic| walk_at "ne") => `(tactic| first
  | assumption
  | (apply Ne.symm; assumption)
  | ((refine' Wa.ne_none (by assumption) ?hh); (case hh => walk_at "hp"))
  | ((refine' Wa.ne_none' (by assumption) ?hh); (case hh => walk_at "hp"))
  | ((refine' Wa.ne_noneT (by assumption) ?hh); (case hh => walk_at "hp"))
  | ((refine' Wa.ne_noneT' (by assumption) ?hh); (case hh => walk_at "hp")))
local macro_rules | `(tactic| walk_at "hp") => `(tactic| first
  | assumption
  | exact Wa.at_same (by assumption)
  | ((refine' Wa.at_gr (by assumption) ?hh); (case hh => walk_at "hp"))
  | ((refine' Wa.at_grT (by assumption) ?hh); (case hh => walk_at "hp"))
  | ((refine' Wa.at_sm (by assumption) ?hh); (case hh => walk_at "hp"))
  | ((refine' Wa.at_ne (by assumption) ?hn ?hh); (case hn => walk_at "ne"); (case hh => walk_at "hp"))
  | ((refine' Wa.at_pop (by assumption) ?hn ?hh); (case hn => walk_at "ne"); (case hh => walk_at "hp"))
  | ((refine' Wa.at_og (by assumption) ?hn ?hh); (case hn => walk_at "ne"); (case hh => walk_at "hp"))
  | ((refine' Wa.at_ogT (by assumption) ?hn ?hh); (case hn => walk_at "ne"); (case hh => walk_at "hp"))
  | ((refine' Wa.at_oth (by assumption) ?hn ?hh); (case hn => walk_at "ne"); (case hh => walk_at "hp")))
local macro_rules | `(tactic| walk_at "tb") => `(tactic| first
  | assumption
  | ((refine' Wa.tb_gr (by assumption) ?hh); (case hh => walk_at "tb"))
  | ((refine' Wa.tb_sm (by assumption) ?hh); (case hh => walk_at "tb"))
  | ((refine' Wa.tb_new (by assumption) (by assumption) ?hh); (case hh => walk_at "tb"))
  | ((refine' Wa.tb_upd (by assumption) ?hn ?hh); (case hn => walk_at "hp"); (case hh => walk_at "tb"))
  | ((refine' Wa.tb_pop (by assumption) ?hn ?hh); (case hn => walk_at "hp"); (case hh => walk_at "tb"))
  | ((refine' Wa.tb_og (by assumption) ?hn ?hh); (case hn => walk_at "hp"); (case hh => walk_at "tb"))
  | ((refine' Wa.tb_oth (by assumption) ?hn ?hh); (case hn => walk_at "hp"); (case hh => walk_at "tb")))
namespace Wa
open PySem PySem.Spec PyProof.Rows L2
/-! the law -/
abbrev nLaw : List Str := ["_law_script", "_law_draws_here", "_law_q", "_law_n", "_law_d", "_law_words", "_law_found", "_law_more", "_law_word_here"]
theorem scLaw : FnScope nLaw ["_law_script"] (defScope sLaw) := ⟨rfl, rfl, rfl, by decide +kernel, rfl, by decide +kernel, by decide +kernel⟩
theorem grd_figs {q n : Nat} {d : Int} {C : List (List Nat)} (hq : q ≤ 3) (h : ∀ w ∈ C, Wd q n w) : Figs (srt (grd q n d C)) := Figs.srt (figs_of hq (grd_wd h))
theorem grd_len {q n : Nat} {d : Int} {C : List (List Nat)} (hq : q ≤ 3) (hn : n ≤ 8) : (srt (grd q n d C)).length ≤ C.length + 6561 := by
  rw [srt_len]
  have := gfold_len (d := d) (allD q n) C
  rw [allD_len] at this
  have := pow_bound hq hn
  unfold grd
  omega
theorem rch_lt {q n : Nat} {d : Int} {C : List (List Nat)} (hq : 1 ≤ q) (hd : 1 ≤ d) (h : Cov q n d C) : (rch q n C : Int) < d := by
  have hL0 : allD q n ≠ [] := fun z => by
    have h := allD_len q n
    rw [z] at h
    have : 0 < q ^ n := Nat.pow_pos hq
    rw [← h] at this
    exact absurd this (by decide)
  have hm := mxL_mem (l := (allD q n).map (nst C)) (fun z => hL0 (List.map_eq_nil_iff.mp z))
  obtain ⟨u, hu, eu⟩ := List.mem_map.mp hm
  obtain ⟨c, hc, hl⟩ := cov_near hd h hu
  have hne : C ≠ [] := fun z => by rw [z] at hc; cases hc
  have h1 := mnL_is (l := C.map (dist u)) (fun z => hne (List.map_eq_nil_iff.mp z))
  have h2 := h1.2 (dist u c) (List.mem_map.mpr ⟨c, hc, rfl⟩)
  have h3 : nst C u ≤ dist u c := h2
  rw [dist_comm] at hl
  unfold rch
  rw [← eu]
  omega
section
variable {P : Program} {w : World} {K : PySem.W.Frag} {mg : Str → Option Value} {base : Heap}
theorem ok_law {fAllWords fMarks fGap fNear fKeeps fFarAll fInOrder fTakenOn fReach fDraws fPop fSize fWord fFar fList fFull fLaw cKeeps pKeeps cFarAll pFarAll  : Addr} {fdAllWords fdMarks fdGap fdNear fdKeeps fdFarAll fdInOrder fdTakenOn fdReach fdDraws fdPop fdSize fdWord fdFar fdList fdFull fdLaw : FuncData} (F : Fun K "law" "law" sLaw fLaw fdLaw)
    (dAllWords : Df K mg "all_words" sAllWords ["q", "n"] fAllWords fdAllWords)
    (dMarks : Df K mg "marks" sMarks ["word"] fMarks fdMarks)
    (dGap : Df K mg "gap" sGap ["one", "other"] fGap fdGap)
    (dNear : Df K mg "nearest_ahead" sNear ["marked", "at"] fNear fdNear)
    (dKeeps : Df K mg "keeps" sKeeps ["words", "d"] fKeeps fdKeeps) (hcKeeps : fdKeeps.code = .ref cKeeps) (tbKeeps : GxR.TabB base mg cKeeps pKeeps)
    (dFarAll : Df K mg "far_from_all" sFarAll ["d", "mark", "marked"] fFarAll fdFarAll) (hcFarAll : fdFarAll.code = .ref cFarAll) (tbFarAll : GxR.TabB base mg cFarAll pFarAll)
    (dInOrder : Df K mg "in_order" sInOrder ["q", "n", "d"] fInOrder fdInOrder)
    (dTakenOn : Df K mg "taken_on" sTakenOn ["q", "n", "d", "words"] fTakenOn fdTakenOn)
    (dReach : Df K mg "reach" sReach ["q", "n", "words"] fReach fdReach)
    (dDraws : Df K mg "_law_draws" sDraws ["_law_script", "_law_turn", "_law_many"] fDraws fdDraws)
    (dPop : Df K mg "_law_pop" sPop ["_law_draws_here"] fPop fdPop)
    (dSize : Df K mg "_law_size" sSize ["_law_draws_here"] fSize fdSize)
    (dWord : Df K mg "_law_word" sWord ["_law_number", "_law_q", "_law_n"] fWord fdWord)
    (dFar : Df K mg "_law_far" sFar ["_law_one", "_law_other"] fFar fdFar)
    (dList : Df K mg "_law_list" sList ["_law_draws_here", "_law_q", "_law_n", "_law_most", "_law_far_here"] fList fdList)
    (dFull : Df K mg "_law_full" sFull ["_law_q", "_law_n", "_law_d", "_law_words"] fFull fdFull)
    
    {tkSIGNS : Tok} (mSIGNS : mg "SIGNS" = some (.str ("012" : Str) tkSIGNS)) (mr : mg "range" = none) (ml : mg "len" = none) (mint : mg "int" = none) (mmin : mg "min" = none) (mall : mg "all" = none) (mls : mg "list" = none) (mso : mg "sorted" = none) (mmax : mg "max" = none) (mt : mg "str" = none) :
    FnOk P w K mg base CX0 14 fLaw fdLaw ["_law_script"] (spLaw K [pKeeps, pFarAll]) := by
  have gDraws : FnOk P w K mg base CX0 13 fDraws fdDraws ["_law_script", "_law_turn", "_law_many"] (spDraws K) := (ok_draws dDraws.F ml mr)
  have gSize : FnOk P w K mg base CX0 13 fSize fdSize ["_law_draws_here"] (spSize) := (ok_size dSize.F dPop.F dPop.b dPop.g)
  have gList : FnOk P w K mg base CX0 13 fList fdList ["_law_draws_here", "_law_q", "_law_n", "_law_most", "_law_far_here"] (spList) := (ok_List (k := 12) dList dWord (ok_word dWord mr mt) dPop (ok_pop dPop.F) dFar (ok_far dFar mr ml) mr)
  have gInOrder : FnOk P w K mg base CX0 13 fInOrder fdInOrder ["q", "n", "d"] (spInOrder pFarAll) := (ok_InOrder (k := 12) dInOrder dTakenOn (ok_TakenOn (k := 11) dTakenOn dAllWords (ok_allwords dAllWords.F mr mSIGNS) dMarks (ok_marks dMarks mSIGNS ml mint) dFarAll (ok_FarAll (k := 7) dFarAll hcFarAll tbFarAll dGap (ok_gap dGap) mall) mls mso))
  have gTakenOn : FnOk P w K mg base CX0 13 fTakenOn fdTakenOn ["q", "n", "d", "words"] (spTakenOn K pFarAll) := (ok_TakenOn (k := 12) dTakenOn dAllWords (ok_allwords dAllWords.F mr mSIGNS) dMarks (ok_marks dMarks mSIGNS ml mint) dFarAll (ok_FarAll (k := 8) dFarAll hcFarAll tbFarAll dGap (ok_gap dGap) mall) mls mso)
  have gFull : FnOk P w K mg base CX0 13 fFull fdFull ["_law_q", "_law_n", "_law_d", "_law_words"] (spFull K pKeeps) := (ok_Full (k := 12) dFull dAllWords (ok_allwords dAllWords.F mr mSIGNS) dKeeps (ok_keeps dKeeps hcKeeps tbKeeps dMarks dNear (ok_marks dMarks mSIGNS ml mint) (ok_near dNear dGap (ok_gap dGap) mmin) mr ml mall) dFar (ok_far dFar mr ml))
  have gReach : FnOk P w K mg base CX0 13 fReach fdReach ["q", "n", "words"] (spReach K) := (ok_Reach (k := 12) dReach dMarks (ok_marks dMarks mSIGNS ml mint) dAllWords (ok_allwords dAllWords.F mr mSIGNS) dGap (ok_gap dGap) mmax mmin)
  have gPop : FnOk P w K mg base CX0 13 fPop fdPop ["_law_draws_here"] (spPop) := (ok_pop dPop.F)
  refine F.ok scLaw (fun vs H Q E h => ?_) (fun cdv A outer s H vs Q E hr h => ?_)
  · obtain ⟨a, ns, rfl, _⟩ := h
    rfl
  · obtain ⟨a, ns, rfl, ha, hT, ret⟩ := h
    have hT0 := hT pKeeps List.mem_cons_self
    have hT1 := hT pFarAll (List.mem_cons_of_mem _ List.mem_cons_self)
    refine ⟨_, pss_cons (ps_set (i := 1) scLaw.nd rfl (.inl rfl) (pe_call gDraws hr (by rfl) dDraws.g dDraws.F.kp dDraws.b .nil pass0 (pa_cons (pv 0) (pa_cons (pe_int) (pa_cons (pe_int) pa_nil)))))
      (pss_cons (ps_asg (pe_call gSize hr (by rfl) dSize.g dSize.F.kp dSize.b .nil pass0 (pa_cons (pv 1) pa_nil)) (pg_tup (by rfl) (pgs_cons (pg_name (i := 2) scLaw.nd rfl (.inl rfl)) (pgs_cons (pg_name (i := 3) scLaw.nd rfl (.inl rfl)) pgs_nil))))
      (pss_cons (ps_set (i := 4) scLaw.nd rfl (.inl rfl) (pe_callB (call_max2 rfl) (by rfl) mmax (by decide +kernel) (pa_cons (pe_op op_add (pe_int) (pe_op op_mod (pe_call gPop hr (by rfl) dPop.g dPop.F.kp dPop.b .nil pass0 (pa_cons (pv 1) pa_nil)) (pv 3))) (pa_cons (pe_op op_fdiv (pv 3) (pe_int)) pa_nil))))
      (pss_cons (ps_set (i := 5) scLaw.nd rfl (.inl rfl) (pe_call gList hr (by rfl) dList.g dList.F.kp dList.b .nil pass0 (pa_cons (pv 1) (pa_cons (pv 2) (pa_cons (pv 3) (pa_cons (pe_int) (pa_cons (pv 4) pa_nil)))))))
      (pss_cons (ps_set (i := 6) scLaw.nd rfl (.inl rfl) (pe_call gInOrder hr (by rfl) dInOrder.g dInOrder.F.kp dInOrder.b .nil pass0 (pa_cons (pv 2) (pa_cons (pv 3) (pa_cons (pv 4) pa_nil)))))
      (pss_cons (ps_set (i := 7) scLaw.nd rfl (.inr rfl) (pe_call gTakenOn hr (by rfl) dTakenOn.g dTakenOn.F.kp dTakenOn.b .nil pass0 (pa_cons (pv 2) (pa_cons (pv 3) (pa_cons (pv 4) (pa_cons (pv 5) pa_nil))))))
      (pss_cons (ps_if (PW.pt (pw_or (pt_not (pt_val (pe_call gFull hr (by rfl) dFull.g dFull.F.kp dFull.b .nil pass0 (pa_cons (pv 2) (pa_cons (pv 3) (pa_cons (pv 4) (pa_cons (pv 6) pa_nil))))))) (pw_or (pt_not (pt_val (pe_call gFull hr (by rfl) dFull.g dFull.F.kp dFull.b .nil pass0 (pa_cons (pv 2) (pa_cons (pv 3) (pa_cons (pv 4) (pa_cons (pv 7) pa_nil))))))) (pw_or1 (pt_cmpR op_notIn_seq (pe_op op_repS (pe_str) (pv 3)) (pv 6) (by rfl)))))) (pss_one (ps_ret (pe_bl))) pss_nil)
      (pss_cons (ps_if (pt_cmpR (op_neD hr.units) (pe_lc (own := [("_law_word_here", 8)]) (g := gName 8) (tt := tTest (tOp (rIn K true) (tVar 8) (tVar 7))) (te := tVar 8) rfl scLaw.nd (pi_list (pv 5)) (blkOk_by (own := [("_law_word_here", 8)]) (N := nLaw) (sc := defScope sLaw) (by decide +kernel)) (fun _ _ _ _ _ => pg_name (i := 8) scLaw.nd rfl (.inl rfl)) (fun _ _ _ _ _ => pts_one (pt_cmpR op_notIn_seq (pv 8) (pv 7) (by rfl))) (fun _ _ _ _ _ => pv 8)) (pe_lst pa_nil) (nomark _)) (pss_one (ps_ret (pe_bl))) pss_nil)
      (pss_one (ps_ret (pe_and (pe_cmpR (op_eqD hr.units) (pe_call gTakenOn hr (by rfl) dTakenOn.g dTakenOn.F.kp dTakenOn.b .nil pass0 (pa_cons (pv 2) (pa_cons (pv 3) (pa_cons (pv 4) (pa_cons (pv 6) pa_nil))))) (pv 6) (nomark _)) (pe_and (pe_cmpR (op_eqD hr.units) (pe_call gTakenOn hr (by rfl) dTakenOn.g dTakenOn.F.kp dTakenOn.b .nil pass0 (pa_cons (pv 2) (pa_cons (pv 3) (pa_cons (pv 4) (pa_cons (pv 7) pa_nil))))) (pv 7) (nomark _)) (pe_one (pe_cmpR op_lt (pe_call gReach hr (by rfl) dReach.g dReach.F.kp dReach.b .nil pass0 (pa_cons (pv 2) (pa_cons (pv 3) (pa_cons (pv 7) pa_nil)))) (pv 4) (nomark _)))))))))))))), ?_⟩
    refine ⟨_, rfl, a, ns, 2, 20, rfl, ha, by decide, by decide, fun H1 d0 ds s1 n1 l1 w1 e1 => ?_⟩
    refine ⟨_, rfl, d0, ds, rfl, e1, w1, fun H2 t q n hqn nt et ed oth => ?_⟩
    refine ⟨t, _, rfl, .inl (.inl et), rfl, _, _, rfl, _, _, rfl, rfl, ?_⟩
    obtain ⟨hq3, hn8⟩ := hqn.le
    have hq1 : 1 ≤ q ∧ 1 ≤ n := by rcases hqn with ⟨h1, h2, h3⟩ | ⟨h1, h2, h3⟩ <;> omega
    refine ⟨_, rfl, d0, _, rfl, by walk_at "hp", fun H4 a4 k4 => ?_⟩
    have w4 := w1.rest.rest
    generalize popV ds.dropLast = x
    have m0 := Int.emod_nonneg x (show (n : Int) ≠ 0 by omega)
    obtain ⟨d1, hd1, hp1⟩ : ∃ d : Int, 1 + x % (n : Int) = d ∧ 1 ≤ d := ⟨_, rfl, by omega⟩
    refine ⟨_, rfl, _, _, rfl, rfl, (show (0 : Int) < (n : Int) by omega), rdAdd hd1 ?_⟩
    obtain ⟨d, hd, hd3⟩ : ∃ d : Int, (if (n : Int) / 4 > d1 then (n : Int) / 4 else d1) = d ∧ 1 ≤ d := ⟨_, rfl, by split <;> omega⟩
    refine ⟨_, rfl, (n : Int), 4, rfl, rfl, ⟨by decide, by decide⟩, d1, (n : Int) / 4, rfl, ?_⟩
    rw [hd]
    refine ⟨_, rfl, _, rfl, _, rfl, _, rfl, d0, _, q, n, 8, d, rfl, hqn, by omega, a4, w4, fun H5 w0 C ds5 nC eC wC lC kC hd5 ed5 oth5 => ?_⟩
    have t5 : GxR.TabG H5 pKeeps := by walk_at "tb"
    have u5 : GxR.TabG H5 pFarAll := by walk_at "tb"
    clear oth5 k4 oth s1
    have nil0 : ∀ w ∈ ([] : List (List Nat)), Wd q n w := fun w h => absurd h (by simp)
    refine ⟨_, rfl, _, rfl, _, rfl, q, n, d, rfl, hq3, hn8, u5, fun H9 f9 g9 n9 e9 => ?_⟩
    refine ⟨_, rfl, _, rfl, _, rfl, _, rfl, q, n, d, w0, C, rfl, hq3, hn8, wC, by omega, sq (by walk_at "hp"), by walk_at "tb", fun H10 t10 g10 n10 e10 => ?_⟩
    have wF : ∀ w ∈ srt (grd q n d []), Wd q n w := fun w h => grd_wd nil0 w (srt_mem.mp h)
    have wM : ∀ w ∈ srt (grd q n d C), Wd q n w := fun w h => grd_wd wC w (srt_mem.mp h)
    have aF : Apt d (srt (grd q n d [])) := apt_srt (gfold_apt _ _ .nil)
    have aM : Apt d (srt (grd q n d C)) := apt_srt (gfold_apt _ _ kC)
    have vF : Cov q n d (srt (grd q n d [])) := grd_cov
    have vM : Cov q n d (srt (grd q n d C)) := grd_cov
    have lF := grd_len (d := d) (C := []) hq3 hn8
    have lM := grd_len (d := d) (C := C) hq3 hn8
    have zF : List.replicate n 0 ∈ srt (grd q n d []) := srt_mem.mpr (grd_zero hq1.1)
    have sM : ∀ w ∈ C, w ∈ srt (grd q n d C) := fun w h => srt_mem.mpr (gfold_sub _ _ w h)
    have rF : srt (grd q n d (srt (grd q n d []))) = srt (grd q n d []) := by rw [cov_stay hd3 vF, srt_srt]
    have rM : srt (grd q n d (srt (grd q n d C))) = srt (grd q n d C) := by rw [cov_stay hd3 vM, srt_srt]
    have fF : Figs (srt (grd q n d [])) := grd_figs hq3 nil0
    have fM : Figs (srt (grd q n d C)) := grd_figs hq3 wC
    rw [List.length_nil] at lF
    have hneM : srt (grd q n d C) ≠ [] := fun z => by
      obtain ⟨c, hc, _⟩ := cov_near hd3 vM (allD_all (q := q) (n := n) (w := List.replicate n 0) ⟨List.length_replicate, fun x hx => by rw [List.eq_of_mem_replicate hx]; omega⟩)
      rw [z] at hc
      cases hc
    have hrl := rch_lt hq1.1 hd3 vM
    generalize srt (grd q n d []) = F0 at e9 wF aF vF lF zF rF fF
    generalize srt (grd q n d C) = M0 at e10 wM aM vM lM sM rM fM hrl hneM
    refine ⟨_, rfl, _, rfl, _, rfl, _, rfl, q, n, d, f9, F0, rfl, hq3, hn8, wF, aF, vF, by omega, sq (by walk_at "hp"), by walk_at "tb", fun H11 g11 => ⟨true, rfl, iteF ?_⟩⟩
    refine ⟨_, rfl, _, rfl, _, rfl, _, rfl, q, n, d, t10, M0, rfl, hq3, hn8, wM, aM, vM, by omega, sq (by walk_at "hp"), by walk_at "tb", fun H12 g12 => ⟨true, rfl, iteF ?_⟩⟩
    refine ⟨_, rfl, ("0" : Str), n, rfl, rfl, by decide, by omega, ?_⟩
    rw [rep_nought]
    refine ⟨_, rfl, notInW (S := F0) (by walk_at "hp") ⟨_, rfl, ?_⟩⟩
    rw [decide_eq_true zF]
    refine iteF ?_
    have w12 : H12 w0 = some (.lst (vws C)) := by walk_at "hp"
    have m12 : H12 t10 = some (.lst (vws M0)) := by walk_at "hp"
    refine ⟨_, rfl, w0, rfl, ⟨_, sq w12⟩, fun D nD => ?_⟩
    refine lcW (sq w12) (fun _ => false) (fun w => w) nD (by omega) (fun v H' Y N hm g hy hn' => ?_) (fun H13 g13 e13 => ?_)
    · refine ⟨rfl, _, rfl, _, rfl, notInW (S := M0) (g.lst m12) ⟨_, rfl, ?_⟩⟩
      rw [decide_eq_true (sM v hm)]
      exact iteF (hn' rfl H' (Gr.refl _))
    have e14 : H13 D = some (.lst (vws [])) := by
      rw [e13]
      have : C.filter (fun _ => false) = [] := List.filter_eq_nil_iff.mpr fun _ _ => Bool.false_ne_true
      rw [this]
      rfl
    refine ⟨Nat.zero_le _, fun z15 n15 => ?_⟩
    generalize hU15 : upd _ _ _ = H15
    refine neW1 (A := []) (by walk_at "hp") (at_same hU15) figs_nil ⟨_, rfl, iteF ?_⟩
    refine ⟨_, rfl, _, rfl, _, rfl, _, rfl, q, n, d, f9, F0, rfl, hq3, hn8, wF, by omega, sq (by walk_at "hp"), by walk_at "tb", fun H16 c16 g16 n16 e16 => ?_⟩
    rw [rF] at e16
    refine ⟨_, rfl, eqW1 (A := F0) e16 (by walk_at "hp") fF ⟨_, rfl, iteT ?_⟩⟩
    refine ⟨_, rfl, _, rfl, _, rfl, _, rfl, q, n, d, t10, M0, rfl, hq3, hn8, wM, by omega, sq (by walk_at "hp"), by walk_at "tb", fun H17 c17 g17 n17 e17 => ?_⟩
    rw [rM] at e17
    refine ⟨_, rfl, eqW1 (A := M0) e17 (by walk_at "hp") fM ⟨_, rfl, iteT ?_⟩⟩
    refine ⟨_, rfl, _, rfl, _, rfl, q, n, t10, M0, rfl, hq1.1, hq3, hn8, wM, hneM, by omega, sq (by walk_at "hp"), fun H18 g18 => ?_⟩
    refine ⟨_, rfl, _, _, rfl, rfl, ?_⟩
    show Q (V.bl (decide ((rch q n M0 : Int) < d))) H18
    rw [decide_eq_true hrl]
    exact ret _
end
end Wa
namespace Wa
open PySem PySem.Spec PyProof.Rows L2
theorem all_mk {l : PySem.W.OpenLaw} {w : World} {K : PySem.W.Frag} {h : Heap} {mg : Str → Option Value} {fa f1 f2 f3 f4 f5 f6 f7 f8 f9 f10 f11 f12 f13 f14 f15 f16 f17 : Addr} (X : K.In h) (G : h.Ns mainGlobals mg) (hfa : mg "law" = some (.ref fa)) (T : TabsOf PySem.Challenge.pw_wordsapart_k16_whole_none_can_be_put_in mg h)
    {od1 an1 od2 an2 od3 an3 od4 an4 od5 an5 od6 an6 od7 an7 od8 an8 od9 an9 od10 an10 od11 an11 od12 an12 od13 an13 od14 an14 od15 an15 od16 an16 od17 an17 : Option Addr} {sl1 sl2 sl3 sl4 sl5 sl6 sl7 sl8 sl9 sl10 sl11 sl12 sl13 sl14 sl15 sl16 sl17 : Array (Option Value)} {oc1 kV1 dc1 pm1 cd1 ct1 oc2 kV2 dc2 pm2 cd2 ct2 oc3 kV3 dc3 pm3 cd3 ct3 oc4 kV4 dc4 pm4 cd4 ct4 oc5 kV5 dc5 pm5 ct5 oc6 kV6 dc6 pm6 ct6 oc7 kV7 dc7 pm7 cd7 ct7 oc8 kV8 dc8 pm8 cd8 ct8 oc9 kV9 dc9 pm9 cd9 ct9 oc10 kV10 dc10 pm10 cd10 ct10 oc11 kV11 dc11 pm11 cd11 ct11 oc12 kV12 dc12 pm12 cd12 ct12 oc13 kV13 dc13 pm13 cd13 ct13 oc14 kV14 dc14 pm14 cd14 ct14 oc15 kV15 dc15 pm15 cd15 ct15 oc16 kV16 dc16 pm16 cd16 ct16 oc17 kV17 dc17 pm17 cd17 ct17 : Value}
    {c5 P5 c6 P6 : Addr} {e5 e6 : Value} {dd5 dd6 : Option Addr} {sm5 sm6 : Array (Option Value)} {us5 us6 : Array Value}
    {tk0 : Tok}
    (a1 : PySem.W.nsIn K mainGlobals "all_words" = some (some (.ref f1))) (l1 : K.lookup f1 = some ⟨oc1, od1, .func (PySem.W.fnOf "all_words" "all_words" (defArgs sAllWords) (defBody sAllWords) (defScope sAllWords) .none kV1 dc1 pm1 an1 cd1 ct1), sl1⟩) (q1 : PySem.W.codeIn K cd1 "all_words" = true) (k1 : PySem.W.keepIn K (.ref f1) = true)
    (a2 : PySem.W.nsIn K mainGlobals "marks" = some (some (.ref f2))) (l2 : K.lookup f2 = some ⟨oc2, od2, .func (PySem.W.fnOf "marks" "marks" (defArgs sMarks) (defBody sMarks) (defScope sMarks) .none kV2 dc2 pm2 an2 cd2 ct2), sl2⟩) (q2 : PySem.W.codeIn K cd2 "marks" = true) (k2 : PySem.W.keepIn K (.ref f2) = true)
    (a3 : PySem.W.nsIn K mainGlobals "gap" = some (some (.ref f3))) (l3 : K.lookup f3 = some ⟨oc3, od3, .func (PySem.W.fnOf "gap" "gap" (defArgs sGap) (defBody sGap) (defScope sGap) .none kV3 dc3 pm3 an3 cd3 ct3), sl3⟩) (q3 : PySem.W.codeIn K cd3 "gap" = true) (k3 : PySem.W.keepIn K (.ref f3) = true)
    (a4 : PySem.W.nsIn K mainGlobals "nearest_ahead" = some (some (.ref f4))) (l4 : K.lookup f4 = some ⟨oc4, od4, .func (PySem.W.fnOf "nearest_ahead" "nearest_ahead" (defArgs sNear) (defBody sNear) (defScope sNear) .none kV4 dc4 pm4 an4 cd4 ct4), sl4⟩) (q4 : PySem.W.codeIn K cd4 "nearest_ahead" = true) (k4 : PySem.W.keepIn K (.ref f4) = true)
    (a5 : PySem.W.nsIn K mainGlobals "keeps" = some (some (.ref f5))) (l5 : K.lookup f5 = some ⟨oc5, od5, .func (PySem.W.fnOf "keeps" "keeps" (defArgs sKeeps) (defBody sKeeps) (defScope sKeeps) .none kV5 dc5 pm5 an5 (.ref c5) ct5), sl5⟩) (q5 : PySem.W.codeIn K (.ref c5) "keeps" = true) (k5 : PySem.W.keepIn K (.ref f5) = true)
    (m5 : K.lookup c5 = some ⟨e5, dd5, .fields us5, sm5⟩) (v5 : us5[11]? = some (.ref P5)) (n5 : K.lookup P5 = none) (r5 : ((recsOf PySem.Challenge.pw_wordsapart_k16_whole_none_can_be_put_in).any fun r => r.name == "keeps") = true)
    (a6 : PySem.W.nsIn K mainGlobals "far_from_all" = some (some (.ref f6))) (l6 : K.lookup f6 = some ⟨oc6, od6, .func (PySem.W.fnOf "far_from_all" "far_from_all" (defArgs sFarAll) (defBody sFarAll) (defScope sFarAll) .none kV6 dc6 pm6 an6 (.ref c6) ct6), sl6⟩) (q6 : PySem.W.codeIn K (.ref c6) "far_from_all" = true) (k6 : PySem.W.keepIn K (.ref f6) = true)
    (m6 : K.lookup c6 = some ⟨e6, dd6, .fields us6, sm6⟩) (v6 : us6[11]? = some (.ref P6)) (n6 : K.lookup P6 = none) (r6 : ((recsOf PySem.Challenge.pw_wordsapart_k16_whole_none_can_be_put_in).any fun r => r.name == "far_from_all") = true)
    (a7 : PySem.W.nsIn K mainGlobals "in_order" = some (some (.ref f7))) (l7 : K.lookup f7 = some ⟨oc7, od7, .func (PySem.W.fnOf "in_order" "in_order" (defArgs sInOrder) (defBody sInOrder) (defScope sInOrder) .none kV7 dc7 pm7 an7 cd7 ct7), sl7⟩) (q7 : PySem.W.codeIn K cd7 "in_order" = true) (k7 : PySem.W.keepIn K (.ref f7) = true)
    (a8 : PySem.W.nsIn K mainGlobals "taken_on" = some (some (.ref f8))) (l8 : K.lookup f8 = some ⟨oc8, od8, .func (PySem.W.fnOf "taken_on" "taken_on" (defArgs sTakenOn) (defBody sTakenOn) (defScope sTakenOn) .none kV8 dc8 pm8 an8 cd8 ct8), sl8⟩) (q8 : PySem.W.codeIn K cd8 "taken_on" = true) (k8 : PySem.W.keepIn K (.ref f8) = true)
    (a9 : PySem.W.nsIn K mainGlobals "reach" = some (some (.ref f9))) (l9 : K.lookup f9 = some ⟨oc9, od9, .func (PySem.W.fnOf "reach" "reach" (defArgs sReach) (defBody sReach) (defScope sReach) .none kV9 dc9 pm9 an9 cd9 ct9), sl9⟩) (q9 : PySem.W.codeIn K cd9 "reach" = true) (k9 : PySem.W.keepIn K (.ref f9) = true)
    (a10 : PySem.W.nsIn K mainGlobals "_law_draws" = some (some (.ref f10))) (l10 : K.lookup f10 = some ⟨oc10, od10, .func (PySem.W.fnOf "_law_draws" "_law_draws" (defArgs sDraws) (defBody sDraws) (defScope sDraws) .none kV10 dc10 pm10 an10 cd10 ct10), sl10⟩) (q10 : PySem.W.codeIn K cd10 "_law_draws" = true) (k10 : PySem.W.keepIn K (.ref f10) = true)
    (a11 : PySem.W.nsIn K mainGlobals "_law_pop" = some (some (.ref f11))) (l11 : K.lookup f11 = some ⟨oc11, od11, .func (PySem.W.fnOf "_law_pop" "_law_pop" (defArgs sPop) (defBody sPop) (defScope sPop) .none kV11 dc11 pm11 an11 cd11 ct11), sl11⟩) (q11 : PySem.W.codeIn K cd11 "_law_pop" = true) (k11 : PySem.W.keepIn K (.ref f11) = true)
    (a12 : PySem.W.nsIn K mainGlobals "_law_size" = some (some (.ref f12))) (l12 : K.lookup f12 = some ⟨oc12, od12, .func (PySem.W.fnOf "_law_size" "_law_size" (defArgs sSize) (defBody sSize) (defScope sSize) .none kV12 dc12 pm12 an12 cd12 ct12), sl12⟩) (q12 : PySem.W.codeIn K cd12 "_law_size" = true) (k12 : PySem.W.keepIn K (.ref f12) = true)
    (a13 : PySem.W.nsIn K mainGlobals "_law_word" = some (some (.ref f13))) (l13 : K.lookup f13 = some ⟨oc13, od13, .func (PySem.W.fnOf "_law_word" "_law_word" (defArgs sWord) (defBody sWord) (defScope sWord) .none kV13 dc13 pm13 an13 cd13 ct13), sl13⟩) (q13 : PySem.W.codeIn K cd13 "_law_word" = true) (k13 : PySem.W.keepIn K (.ref f13) = true)
    (a14 : PySem.W.nsIn K mainGlobals "_law_far" = some (some (.ref f14))) (l14 : K.lookup f14 = some ⟨oc14, od14, .func (PySem.W.fnOf "_law_far" "_law_far" (defArgs sFar) (defBody sFar) (defScope sFar) .none kV14 dc14 pm14 an14 cd14 ct14), sl14⟩) (q14 : PySem.W.codeIn K cd14 "_law_far" = true) (k14 : PySem.W.keepIn K (.ref f14) = true)
    (a15 : PySem.W.nsIn K mainGlobals "_law_list" = some (some (.ref f15))) (l15 : K.lookup f15 = some ⟨oc15, od15, .func (PySem.W.fnOf "_law_list" "_law_list" (defArgs sList) (defBody sList) (defScope sList) .none kV15 dc15 pm15 an15 cd15 ct15), sl15⟩) (q15 : PySem.W.codeIn K cd15 "_law_list" = true) (k15 : PySem.W.keepIn K (.ref f15) = true)
    (a16 : PySem.W.nsIn K mainGlobals "_law_full" = some (some (.ref f16))) (l16 : K.lookup f16 = some ⟨oc16, od16, .func (PySem.W.fnOf "_law_full" "_law_full" (defArgs sFull) (defBody sFull) (defScope sFull) .none kV16 dc16 pm16 an16 cd16 ct16), sl16⟩) (q16 : PySem.W.codeIn K cd16 "_law_full" = true) (k16 : PySem.W.keepIn K (.ref f16) = true)
    (a17 : PySem.W.nsIn K mainGlobals "law" = some (some (.ref f17))) (l17 : K.lookup f17 = some ⟨oc17, od17, .func (PySem.W.fnOf "law" "law" (defArgs sLaw) (defBody sLaw) (defScope sLaw) .none kV17 dc17 pm17 an17 cd17 ct17), sl17⟩) (q17 : PySem.W.codeIn K cd17 "law" = true) (k17 : PySem.W.keepIn K (.ref f17) = true)
    (y0 : PySem.W.nsIn K mainGlobals "SIGNS" = some (some (.str ("012" : Str) tk0)))
    (z0 : PySem.W.nsIn K mainGlobals "range" = some none)
    (z1 : PySem.W.nsIn K mainGlobals "len" = some none)
    (z2 : PySem.W.nsIn K mainGlobals "int" = some none)
    (z3 : PySem.W.nsIn K mainGlobals "min" = some none)
    (z4 : PySem.W.nsIn K mainGlobals "all" = some none)
    (z5 : PySem.W.nsIn K mainGlobals "list" = some none)
    (z6 : PySem.W.nsIn K mainGlobals "sorted" = some none)
    (z7 : PySem.W.nsIn K mainGlobals "max" = some none)
    (z8 : PySem.W.nsIn K mainGlobals "str" = some none)
    : LamX.LawAtS l w K CX0 14 63 "_law_script" mg fa h := by
  cases hfa.symm.trans (PySem.W.mg_of X G a17)
  have F1 := fun_mk (st := sAllWords) l1 q1 k1
  have D1 : Df K mg "all_words" sAllWords ["q", "n"] f1 _ := ⟨F1, F1.binds (ps := ["q", "n"]) (fun _ _ _ _ _ _ us hl => match us, hl with | [_, _], _ => rfl), PySem.W.mg_of X G a1⟩
  have F2 := fun_mk (st := sMarks) l2 q2 k2
  have D2 : Df K mg "marks" sMarks ["word"] f2 _ := ⟨F2, F2.binds (ps := ["word"]) (fun _ _ _ _ _ _ us hl => match us, hl with | [_], _ => rfl), PySem.W.mg_of X G a2⟩
  have F3 := fun_mk (st := sGap) l3 q3 k3
  have D3 : Df K mg "gap" sGap ["one", "other"] f3 _ := ⟨F3, F3.binds (ps := ["one", "other"]) (fun _ _ _ _ _ _ us hl => match us, hl with | [_, _], _ => rfl), PySem.W.mg_of X G a3⟩
  have F4 := fun_mk (st := sNear) l4 q4 k4
  have D4 : Df K mg "nearest_ahead" sNear ["marked", "at"] f4 _ := ⟨F4, F4.binds (ps := ["marked", "at"]) (fun _ _ _ _ _ _ us hl => match us, hl with | [_, _], _ => rfl), PySem.W.mg_of X G a4⟩
  have F5 := fun_mk (st := sKeeps) l5 q5 k5
  have D5 : Df K mg "keeps" sKeeps ["words", "d"] f5 _ := ⟨F5, F5.binds (ps := ["words", "d"]) (fun _ _ _ _ _ _ us hl => match us, hl with | [_, _], _ => rfl), PySem.W.mg_of X G a5⟩
  have F6 := fun_mk (st := sFarAll) l6 q6 k6
  have D6 : Df K mg "far_from_all" sFarAll ["d", "mark", "marked"] f6 _ := ⟨F6, F6.binds (ps := ["d", "mark", "marked"]) (fun _ _ _ _ _ _ us hl => match us, hl with | [_, _, _], _ => rfl), PySem.W.mg_of X G a6⟩
  have F7 := fun_mk (st := sInOrder) l7 q7 k7
  have D7 : Df K mg "in_order" sInOrder ["q", "n", "d"] f7 _ := ⟨F7, F7.binds (ps := ["q", "n", "d"]) (fun _ _ _ _ _ _ us hl => match us, hl with | [_, _, _], _ => rfl), PySem.W.mg_of X G a7⟩
  have F8 := fun_mk (st := sTakenOn) l8 q8 k8
  have D8 : Df K mg "taken_on" sTakenOn ["q", "n", "d", "words"] f8 _ := ⟨F8, F8.binds (ps := ["q", "n", "d", "words"]) (fun _ _ _ _ _ _ us hl => match us, hl with | [_, _, _, _], _ => rfl), PySem.W.mg_of X G a8⟩
  have F9 := fun_mk (st := sReach) l9 q9 k9
  have D9 : Df K mg "reach" sReach ["q", "n", "words"] f9 _ := ⟨F9, F9.binds (ps := ["q", "n", "words"]) (fun _ _ _ _ _ _ us hl => match us, hl with | [_, _, _], _ => rfl), PySem.W.mg_of X G a9⟩
  have F10 := fun_mk (st := sDraws) l10 q10 k10
  have D10 : Df K mg "_law_draws" sDraws ["_law_script", "_law_turn", "_law_many"] f10 _ := ⟨F10, F10.binds (ps := ["_law_script", "_law_turn", "_law_many"]) (fun _ _ _ _ _ _ us hl => match us, hl with | [_, _, _], _ => rfl), PySem.W.mg_of X G a10⟩
  have F11 := fun_mk (st := sPop) l11 q11 k11
  have D11 : Df K mg "_law_pop" sPop ["_law_draws_here"] f11 _ := ⟨F11, F11.binds (ps := ["_law_draws_here"]) (fun _ _ _ _ _ _ us hl => match us, hl with | [_], _ => rfl), PySem.W.mg_of X G a11⟩
  have F12 := fun_mk (st := sSize) l12 q12 k12
  have D12 : Df K mg "_law_size" sSize ["_law_draws_here"] f12 _ := ⟨F12, F12.binds (ps := ["_law_draws_here"]) (fun _ _ _ _ _ _ us hl => match us, hl with | [_], _ => rfl), PySem.W.mg_of X G a12⟩
  have F13 := fun_mk (st := sWord) l13 q13 k13
  have D13 : Df K mg "_law_word" sWord ["_law_number", "_law_q", "_law_n"] f13 _ := ⟨F13, F13.binds (ps := ["_law_number", "_law_q", "_law_n"]) (fun _ _ _ _ _ _ us hl => match us, hl with | [_, _, _], _ => rfl), PySem.W.mg_of X G a13⟩
  have F14 := fun_mk (st := sFar) l14 q14 k14
  have D14 : Df K mg "_law_far" sFar ["_law_one", "_law_other"] f14 _ := ⟨F14, F14.binds (ps := ["_law_one", "_law_other"]) (fun _ _ _ _ _ _ us hl => match us, hl with | [_, _], _ => rfl), PySem.W.mg_of X G a14⟩
  have F15 := fun_mk (st := sList) l15 q15 k15
  have D15 : Df K mg "_law_list" sList ["_law_draws_here", "_law_q", "_law_n", "_law_most", "_law_far_here"] f15 _ := ⟨F15, F15.binds (ps := ["_law_draws_here", "_law_q", "_law_n", "_law_most", "_law_far_here"]) (fun _ _ _ _ _ _ us hl => match us, hl with | [_, _, _, _, _], _ => rfl), PySem.W.mg_of X G a15⟩
  have F16 := fun_mk (st := sFull) l16 q16 k16
  have D16 : Df K mg "_law_full" sFull ["_law_q", "_law_n", "_law_d", "_law_words"] f16 _ := ⟨F16, F16.binds (ps := ["_law_q", "_law_n", "_law_d", "_law_words"]) (fun _ _ _ _ _ _ us hl => match us, hl with | [_, _, _, _], _ => rfl), PySem.W.mg_of X G a16⟩
  have F17 := fun_mk (st := sLaw) l17 q17 k17
  have t5 := tab_at T r5 X (PySem.W.mg_of X G a5) l5 rfl m5 v5
  have t6 := tab_at T r6 X (PySem.W.mg_of X G a6) l6 rfl m6 v6
  have hT : ∀ p ∈ ([(c5, P5), (c6, P6)] : List (Addr × Addr)), h.get? p.2 = some { cls := .none, data := .fields #[] } ∧ K.lookup p.2 = none ∧ PySem.W.CodeHd h p.1 p.2 := by
    intro p hp
    simp only [List.mem_cons, List.not_mem_nil, or_false] at hp
    rcases hp with rfl | rfl
    · exact ⟨t5.1, n5, t5.2⟩
    · exact ⟨t6.1, n6, t6.2⟩
  refine ⟨PySem.W.fnOf "law" "law" (defArgs sLaw) (defBody sLaw) (defScope sLaw) .none kV17 dc17 pm17 an17 cd17 ct17, [(c5, P5), (c6, P6)], spLaw K [P5, P6], fun p hp => (hT p hp).1, fun p hp => (hT p hp).2.1, fun p hp => (hT p hp).2.2, fun s v => .of_eq rfl, fun H a ns _ _ hH hS => ⟨a, ns, rfl, hS, ?_, fun _ => rfl⟩, fun base _ _ TB => ?_⟩
  · intro p hp
    simp only [List.mem_cons, List.not_mem_nil, or_false] at hp
    rcases hp with z | z
    · rw [z]
      exact ⟨#[], hH (c5, P5) (by simp), tri_nil⟩
    · rw [z]
      exact ⟨#[], hH (c6, P6) (by simp), tri_nil⟩
  · have B5 : GxR.TabB base mg c5 P5 := ⟨(TB (c5, P5) (by simp)).code, (TB (c5, P5) (by simp)).bm, (TB (c5, P5) (by simp)).gP⟩
    have B6 : GxR.TabB base mg c6 P6 := ⟨(TB (c6, P6) (by simp)).code, (TB (c6, P6) (by simp)).bm, (TB (c6, P6) (by simp)).gP⟩
    exact ok_law F17 D1 D2 D3 D4 D5 rfl B5 D6 rfl B6 D7 D8 D9 D10 D11 D12 D13 D14 D15 D16 (PySem.W.mg_of X G y0) (PySem.W.mg_none_of X G z0) (PySem.W.mg_none_of X G z1) (PySem.W.mg_none_of X G z2) (PySem.W.mg_none_of X G z3) (PySem.W.mg_none_of X G z4) (PySem.W.mg_none_of X G z5) (PySem.W.mg_none_of X G z6) (PySem.W.mg_none_of X G z7) (PySem.W.mg_none_of X G z8)
end Wa
open PySem PySem.W PyProof.Rows
set_option maxHeartbeats 0 in
theorem PySem.Challenge.cw_wordsapart_k16_whole_none_can_be_put_in_holds : PySem.Challenge.rw_wordsapart_k16_whole_none_can_be_put_in.Holds := by
  w_on; o_law; k_head; (case hw => w_witness2)
  k_fill
  refine Wa.walk_tabs (l := PySem.Challenge.rw_wordsapart_k16_whole_none_can_be_put_in) (n := 63) (k := 14) (x := "_law_script") (CX := fun _ => L2.CX0) rfl (by decide) rfl ⟨rfl, by decide, by decide⟩ (fun w h Y => PySem.W.kIn_of Y) ?F (fun _ _ _ _ _ h => h)
  case F =>
    intro w mg fa h KX G hmg TT
    refine' Wa.all_mk KX G hmg TT ?a1 ?l1 ?q1 ?k1 ?a2 ?l2 ?q2 ?k2 ?a3 ?l3 ?q3 ?k3 ?a4 ?l4 ?q4 ?k4 ?a5 ?l5 ?q5 ?k5 ?m5 ?v5 ?n5 ?r5 ?a6 ?l6 ?q6 ?k6 ?m6 ?v6 ?n6 ?r6 ?a7 ?l7 ?q7 ?k7 ?a8 ?l8 ?q8 ?k8 ?a9 ?l9 ?q9 ?k9 ?a10 ?l10 ?q10 ?k10 ?a11 ?l11 ?q11 ?k11 ?a12 ?l12 ?q12 ?k12 ?a13 ?l13 ?q13 ?k13 ?a14 ?l14 ?q14 ?k14 ?a15 ?l15 ?q15 ?k15 ?a16 ?l16 ?q16 ?k16 ?a17 ?l17 ?q17 ?k17 ?y0 ?z0 ?z1 ?z2 ?z3 ?z4 ?z5 ?z6 ?z7 ?z8
    (case a1 => k_is)
    (case l1 => k_is)
    (case q1 => k_is)
    (case k1 => k_is)
    (case a2 => k_is)
    (case l2 => k_is)
    (case q2 => k_is)
    (case k2 => k_is)
    (case a3 => k_is)
    (case l3 => k_is)
    (case q3 => k_is)
    (case k3 => k_is)
    (case a4 => k_is)
    (case l4 => k_is)
    (case q4 => k_is)
    (case k4 => k_is)
    (case a5 => k_is)
    (case l5 => k_is)
    (case q5 => k_is)
    (case k5 => k_is)
    (case m5 => k_is)
    (case v5 => rfl)
    (case n5 => first | rfl | exact rfl | decide +kernel | (trace_state; fail))
    (case r5 => decide +kernel)
    (case a6 => k_is)
    (case l6 => k_is)
    (case q6 => k_is)
    (case k6 => k_is)
    (case m6 => k_is)
    (case v6 => rfl)
    (case n6 => first | rfl | exact rfl | decide +kernel | (trace_state; fail))
    (case r6 => decide +kernel)
    (case a7 => k_is)
    (case l7 => k_is)
    (case q7 => k_is)
    (case k7 => k_is)
    (case a8 => k_is)
    (case l8 => k_is)
    (case q8 => k_is)
    (case k8 => k_is)
    (case a9 => k_is)
    (case l9 => k_is)
    (case q9 => k_is)
    (case k9 => k_is)
    (case a10 => k_is)
    (case l10 => k_is)
    (case q10 => k_is)
    (case k10 => k_is)
    (case a11 => k_is)
    (case l11 => k_is)
    (case q11 => k_is)
    (case k11 => k_is)
    (case a12 => k_is)
    (case l12 => k_is)
    (case q12 => k_is)
    (case k12 => k_is)
    (case a13 => k_is)
    (case l13 => k_is)
    (case q13 => k_is)
    (case k13 => k_is)
    (case a14 => k_is)
    (case l14 => k_is)
    (case q14 => k_is)
    (case k14 => k_is)
    (case a15 => k_is)
    (case l15 => k_is)
    (case q15 => k_is)
    (case k15 => k_is)
    (case a16 => k_is)
    (case l16 => k_is)
    (case q16 => k_is)
    (case k16 => k_is)
    (case a17 => k_is)
    (case l17 => k_is)
    (case q17 => k_is)
    (case k17 => k_is)
    (case y0 => k_is)
    (case z0 => k_is)
    (case z1 => k_is)
    (case z2 => k_is)
    (case z3 => k_is)
    (case z4 => k_is)
    (case z5 => k_is)
    (case z6 => k_is)
    (case z7 => k_is)
    (case z8 => k_is)
