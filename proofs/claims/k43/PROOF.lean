import PyProof.Rows.All
import Wide.All
import OpenK.AllK
import Wide.FinOn
import HandS.Base
import HandS.Call
import HandS.List
import HandS.Comp
import HandS.Ends
import HandS.Dict
import HandS.Iter
import HandS.Text
import HandS.Words
import HandS.WordsList
import HandS.WordsDict
import HandS.Wide
import HandS.IsInst
import HandS.AnyAll
import HandS.GenOver
import HandS.EndTab
import HandS.JoinGen
import KE.GoesNew
import KE.GoesEnum
import KE.GoesMore
import HandS.SortInts
import HandS.Conv
import HandS.Small
import HandS.Style
import HandS.FStr
import PyProof.FString3
import KE.DatumOrd
import KE.GoesEnumKw
import PyProof.StrLawsRepr
import HandS.Deep
import HandS.Exc
import HandS.ExcIs
import HandS.ExcOwn
import HandS.ExcValue
import HandS.More
import HandS.Strs
import HandS.TryOnly
import HandS.WordsExc
import KE.KDictWalk
import KE.KUnpackStar
import PyProof.DictKinds
import PyProof.DictStraight
import PySem.Challenge.RW_wordsapart_k43_texts_of_papers_looked_at
set_option Elab.async false
set_option linter.all false
set_option maxRecDepth 100000
set_option maxHeartbeats 4000000
/-! words by their figures; walks by a count; heaps -/
namespace Wa
open PySem PySem.Spec PyProof.Rows L2
/-- the text of a word, by its figures -/
def wd (ds : List Nat) : Str := ⟨(ds.map (48 + ·)).toArray⟩
/-- the values of a list of words -/
def vws (ws : List (List Nat)) : List V := ws.map fun w => V.str (wd w)
theorem str_ext {x y : Str} (h : x.cps.toList = y.cps.toList) : x = y := by
  cases x with
  | mk a =>
    cases y with
    | mk b =>
      cases a with
      | mk l =>
        cases b with
        | mk m =>
          have e : l = m := h
          rw [e]
theorem str_app (x y : Str) : (x ++ y).cps.toList = x.cps.toList ++ y.cps.toList := by
  show (x.cps ++ y.cps).toList = _
  exact Array.toList_append ..
theorem wd_list (ds : List Nat) : (wd ds).cps.toList = ds.map (48 + ·) := rfl
theorem wd_app (a b : List Nat) : wd a ++ wd b = wd (a ++ b) := by
  apply str_ext
  rw [str_app, wd_list, wd_list, wd_list, List.map_append]
theorem wd_len (a : List Nat) : (wd a).length = a.length := by
  show (a.map (48 + ·)).toArray.size = _
  rw [List.size_toArray, List.length_map]
theorem map48_inj : ∀ {a b : List Nat}, a.map (48 + ·) = b.map (48 + ·) → a = b
  | [], [], _ => rfl
  | [], _ :: _, h => by cases h
  | _ :: _, [], h => by cases h
  | x :: a, y :: b, h => by
    have h1 : 48 + x = 48 + y := (List.cons.inj h).1
    have h2 := map48_inj (List.cons.inj h).2
    have e : x = y := by omega
    rw [e, h2]
theorem wd_inj {a b : List Nat} (h : wd a = wd b) : a = b := map48_inj (by rw [← wd_list, ← wd_list, h])
theorem wd_one (c : Nat) : wd [c] = ⟨#[48 + c]⟩ := rfl
theorem wd_at {ds : List Nat} {i c : Nat} (h : (wd ds).cps[i]? = some c) : ∃ d, ds[i]? = some d ∧ c = 48 + d := by
  have h2 : ((ds.map (48 + ·)).toArray)[i]? = some c := h
  rw [List.getElem?_toArray, List.getElem?_map] at h2
  cases e : ds[i]? with
  | none => rw [e] at h2; cases h2
  | some d =>
    rw [e] at h2
    exact ⟨d, rfl, (Option.some.inj h2).symm⟩
theorem small_log {s : Nat} (h : s < 3) : ((s : Nat) : Int).natAbs.log2 < 1920 := by
  match s, h with
  | 0, _ => decide +kernel
  | 1, _ => decide +kernel
  | 2, _ => decide +kernel
theorem str_fig {s : Nat} (h : s < 3) : Str.ofString (toString (s : Int)) = wd [s] := by
  match s, h with
  | 0, _ => decide +kernel
  | 1, _ => decide +kernel
  | 2, _ => decide +kernel
theorem wd_ix {ds : List Nat} {i d : Nat} (h : ds[i]? = some d) : (wd ds).cps[i]? = some (48 + d) := by
  show ((ds.map (48 + ·)).toArray)[i]? = _
  rw [List.getElem?_toArray, List.getElem?_map, h]
  rfl
theorem vws_len (ws : List (List Nat)) : (vws ws).length = ws.length := List.length_map ..
theorem vws_get (ws : List (List Nat)) (i : Nat) : (vws ws)[i]? = (ws[i]?).map fun w => V.str (wd w) := List.getElem?_map ..
theorem vws_app (a b : List (List Nat)) : vws (a ++ b) = vws a ++ vws b := List.map_append ..
theorem vws_snoc (a : List (List Nat)) (b : List Nat) : vws (a ++ [b]) = vws a ++ [V.str (wd b)] := vws_app a [b]
theorem sz {n : Nat} (h : n ≤ 16000000) : n ≤ sizeLine := Nat.le_trans h (by decide)
theorem sz' {n : Nat} (h : n < 16000000) : n < sizeLine := Nat.lt_of_lt_of_le h (by decide)

/-- a new object leaves what stood -/
theorem same_upd {H : Hp} {p : Addr} {o : HO} (h : H p = none) : Same H (upd H p o) := fun b x e => by
  rw [upd_ne (ne_of_none e h)]
  exact e
/-- a change at an address that was free at the start -/
theorem same_over {H H1 : Hp} {p : Addr} {o : HO} (s : Same H H1) (h : H p = none) : Same H (upd H1 p o) := fun b x e => by
  rw [upd_ne (ne_of_none e h)]
  exact s b x e
/-- all but a has stayed -/
def Others (a : Addr) (H H' : Hp) : Prop := ∀ b o, b ≠ a → H b = some o → H' b = some o
theorem Others.refl (a : Addr) (H : Hp) : Others a H H := fun _ _ _ h => h
theorem Others.trans {a : Addr} {H H1 H2 : Hp} (x : Others a H H1) (y : Others a H1 H2) : Others a H H2 := fun b o n h => y b o n (x b o n h)
theorem Same.others {a : Addr} {H H' : Hp} (s : Same H H') : Others a H H' := fun b o _ h => s b o h
theorem others_upd {a : Addr} {H : Hp} {o : HO} : Others a H (upd H a o) := fun b x n e => by
  rw [upd_ne n]
  exact e

/-- a walk of n turns: comprehensions -/
theorem walk_n {stop go : Nat → Hp → Prop} {T : Nat → Hp → (Hp → Prop) → Prop} {H0 : Hp} {Qd : Hp → Prop} (n : Nat) (Pv : Nat → Hp → Prop) (h0 : Pv 0 H0)
    (hs : ∀ i H, i < n → Pv i H → go i H ∧ T i H (Pv (i + 1))) (hd : ∀ H, Pv n H → stop n H ∧ Qd H) :
    ∃ W : Nat → Nat → Hp → Prop, (∃ m, W 0 m H0) ∧ ∀ i m H, W i m H → (stop i H ∧ Qd H) ∨ (go i H ∧ ∃ Nx : Hp → Prop, (∀ H', Nx H' → ∃ m', m' < m ∧ W (i + 1) m' H') ∧ T i H Nx) := by
  refine ⟨fun i m H => m = n - i ∧ i ≤ n ∧ Pv i H, ⟨n, by simp, Nat.zero_le _, h0⟩, ?_⟩
  rintro i m H ⟨rfl, hi, p⟩
  by_cases hlt : i < n
  · obtain ⟨g, t⟩ := hs i H hlt p
    exact .inr ⟨g, Pv (i + 1), fun H' p' => ⟨n - (i + 1), by omega, rfl, hlt, p'⟩, t⟩
  · have e : i = n := by omega
    subst e
    exact .inl (hd H p)
/-- a walk of n turns: for loops -/
theorem walk_f {stop go : Nat → Hp → Prop} {T : Nat → L2.St → Hp → (L2.St → Hp → Prop) → Prop} {s0 : L2.St} {H0 : Hp} {Qd : L2.St → Hp → Prop} (n : Nat) (Pv : Nat → L2.St → Hp → Prop) (h0 : Pv 0 s0 H0)
    (hs : ∀ i σ H, i < n → Pv i σ H → go i H ∧ T i σ H (Pv (i + 1))) (hd : ∀ σ H, Pv n σ H → stop n H ∧ Qd σ H) :
    ∃ W : Nat → Nat → L2.St → Hp → Prop, (∃ m, W 0 m s0 H0) ∧ ∀ i m σ H, W i m σ H → (stop i H ∧ Qd σ H) ∨ (go i H ∧ ∃ N : L2.St → Hp → Prop, (∀ σ' H', N σ' H' → ∃ m', m' < m ∧ W (i + 1) m' σ' H') ∧ T i σ H N) := by
  refine ⟨fun i m σ H => m = n - i ∧ i ≤ n ∧ Pv i σ H, ⟨n, by simp, Nat.zero_le _, h0⟩, ?_⟩
  rintro i m σ H ⟨rfl, hi, p⟩
  by_cases hlt : i < n
  · obtain ⟨g, t⟩ := hs i σ H hlt p
    exact .inr ⟨g, Pv (i + 1), fun σ' H' p' => ⟨n - (i + 1), by omega, rfl, hlt, p'⟩, t⟩
  · have e : i = n := by omega
    subst e
    exact .inl (hd σ H p)
theorem yes {σ : L2.St} {H : Hp} {Q : Bool → Hp → Prop} (h : Q true H) : tYes σ H Q := h
/-- what a list's iterator hands out -/
theorem itl_go {K : PySem.W.Frag} {a : Addr} {xs : List V} {i : Nat} {H : Hp} (h : SqL K H a xs) (hi : i < xs.length) : (Itl K a).go i H := ⟨xs, xs[i], h, List.getElem?_eq_getElem hi⟩
theorem itl_stop {K : PySem.W.Frag} {a : Addr} {xs : List V} {H : Hp} (h : SqL K H a xs) {n : Nat} (e : xs.length = n) : (Itl K a).stop n H := ⟨xs, h, by omega⟩
theorem itl_yld {K : PySem.W.Frag} {a : Addr} {xs : List V} {i : Nat} {H H' : Hp} {x : V} (h : SqL K H a xs) (y : (Itl K a).yld i H x H') : H' = H ∧ xs[i]? = some x := ⟨y.1, y.2 xs h⟩
theorem sq {K : PySem.W.Frag} {H : Hp} {a : Addr} {xs : List V} (h : H a = some (.lst xs)) : SqL K H a xs := .inl (.inl h)

/-- all words of length n with q signs, rising -/
def allD (q : Nat) : Nat → List (List Nat)
  | 0 => [[]]
  | n + 1 => (allD q n).flatMap fun w => (List.range q).map fun s => w ++ [s]
def spAW : Sp := fun vs H Q _ => ∃ (q n : Nat), vs = [.int q, .int n] ∧ q ≤ 3 ∧ n ≤ 8 ∧ ∀ H' p, Same H H' → H p = none → H' p = some (.lst (vws (allD q n))) → Q (.ref p) H'
theorem flat_len {α β : Type} {f : α → List β} {q : Nat} : ∀ {l : List α}, (∀ x ∈ l, (f x).length = q) → (l.flatMap f).length = l.length * q
  | [], _ => by simp
  | a :: l, h => by
    rw [List.flatMap_cons, List.length_append, flat_len (l := l) fun x hx => h x (List.mem_cons_of_mem _ hx), h a List.mem_cons_self, List.length_cons, Nat.succ_mul]
    omega
theorem allD_len (q : Nat) : ∀ n, (allD q n).length = q ^ n
  | 0 => rfl
  | n + 1 => by
    show ((allD q n).flatMap _).length = _
    rw [flat_len (q := q) (fun x _ => by rw [List.length_map, List.length_range]), allD_len q n, Nat.pow_succ]
theorem allD_mem {q : Nat} : ∀ {n : Nat} {w : List Nat}, w ∈ allD q n → w.length = n ∧ ∀ d ∈ w, d < q
  | 0, w, h => by
    have e : w = [] := List.mem_singleton.mp h
    subst e
    exact ⟨rfl, fun d hd => absurd hd (by simp)⟩
  | n + 1, w, h => by
    obtain ⟨u, hu, hw⟩ := List.mem_flatMap.mp h
    obtain ⟨s, hs, rfl⟩ := List.mem_map.mp hw
    obtain ⟨h1, h2⟩ := allD_mem hu
    refine ⟨by rw [List.length_append, h1]; rfl, fun d hd => ?_⟩
    rcases List.mem_append.mp hd with z | z
    · exact h2 d z
    · rw [List.mem_singleton.mp z]
      exact List.mem_range.mp hs
theorem pow_bound {q n : Nat} (hq : q ≤ 3) (hn : n ≤ 8) : q ^ n ≤ 6561 := Nat.le_trans (Nat.pow_le_pow_left hq n) (Nat.le_trans (Nat.pow_le_pow_right (by decide) hn) (by decide))
theorem flat_take {α β : Type} {f : α → List β} {i : Nat} {l : List α} {x : α} (h : l[i]? = some x) : (l.take (i + 1)).flatMap f = (l.take i).flatMap f ++ f x := by
  rw [List.take_add_one, h, List.flatMap_append]
  show _ ++ ([x].flatMap f) = _
  rw [List.flatMap_singleton]
theorem range_take {q i : Nat} (h : i < q) : (List.range q).take (i + 1) = (List.range q).take i ++ [i] := by
  rw [List.take_add_one, List.getElem?_range h]
  rfl
end Wa
/-! lists of words and of numbers as data: equality -/
namespace Wa
open PySem PySem.Spec PyProof.Rows L2
def dws (ws : List (List Nat)) : PyData := .list (ws.map fun w => .str (wd w))
def dns (ns : List Int) : PyData := .list (ns.map PyData.int)
theorem dp_ws {K : PySem.W.Frag} {H : Hp} : ∀ (ws : List (List Nat)), DpAll K H (vws ws) (ws.map fun w => .str (wd w))
  | [] => .nil
  | w :: r => .cons (.str (wd w)) (dp_ws r)
theorem dp_ns {K : PySem.W.Frag} {H : Hp} : ∀ (ns : List Int), DpAll K H (ns.map V.int) (ns.map PyData.int)
  | [] => .nil
  | w :: r => .cons (.int w) (dp_ns r)
theorem sh_list {ds : List PyData} (h : ∀ d ∈ ds, d.canLay0 = true ∧ d.depth = 0) : SeqAt.shaped (.list ds) = true := by
  have h1 : ∀ {ds : List PyData}, (∀ d ∈ ds, d.canLay0 = true ∧ d.depth = 0) → PyData.canLayAll0 ds = true ∧ PyData.depthAll ds = 0 := by
    intro ds
    induction ds with
    | nil => exact fun _ => ⟨rfl, rfl⟩
    | cons d r ih =>
      intro h
      obtain ⟨i1, i2⟩ := ih fun x hx => h x (List.mem_cons_of_mem _ hx)
      obtain ⟨j1, j2⟩ := h d List.mem_cons_self
      refine ⟨?_, ?_⟩
      · show (d.canLay0 && PyData.canLayAll0 r) = true
        rw [i1, j1]
        rfl
      · show max d.depth (PyData.depthAll r) = 0
        rw [i2, j2]
        rfl
  obtain ⟨a, b⟩ := h1 h
  unfold SeqAt.shaped
  rw [Bool.and_eq_true]
  refine ⟨a, decide_eq_true ?_⟩
  show PyData.depthAll ds + 1 ≤ 64
  rw [b]
  decide
/-- words of figures -/
def Figs (ws : List (List Nat)) : Prop := ∀ w ∈ ws, ∀ d ∈ w, d < 10
theorem allD_figs {q n : Nat} (h : q ≤ 3) : Figs (allD q n) := fun w hw d hd => by
  have := (allD_mem hw).2 d hd
  omega
theorem wd_ok {w : List Nat} (h : ∀ d ∈ w, d < 10) : PyData.strOk (wd w) = true := by
  show (w.map (48 + ·)).toArray.all (· < 0x110000) = true
  rw [List.all_toArray, List.all_eq_true]
  intro x hx
  obtain ⟨d, hd, rfl⟩ := List.mem_map.mp hx
  have := h d hd
  exact decide_eq_true (by omega)
theorem sh_ws {ws : List (List Nat)} (h : Figs ws) : SeqAt.shaped (dws ws) = true := sh_list fun d hd => by
  obtain ⟨w, hw, rfl⟩ := List.mem_map.mp hd
  exact ⟨wd_ok (h w hw), rfl⟩
theorem sh_ns (ns : List Int) : SeqAt.shaped (dns ns) = true := sh_list fun d hd => by
  obtain ⟨w, _, rfl⟩ := List.mem_map.mp hd
  exact ⟨rfl, rfl⟩
theorem eqv_ws : ∀ (a b : List (List Nat)), PyData.eqv (dws a) (dws b) = decide (a = b)
  | [], [] => rfl
  | [], _ :: _ => rfl
  | _ :: _, [] => rfl
  | x :: a, y :: b => by
    have ih := eqv_ws a b
    show (wd x == wd y && PyData.eqv (dws a) (dws b)) = _
    rw [ih]
    by_cases e : x = y
    · subst e
      rw [beq_self_eq_true, Bool.true_and]
      by_cases e2 : a = b
      · rw [e2, decide_eq_true rfl, decide_eq_true rfl]
      · rw [decide_eq_false e2, decide_eq_false fun z => e2 (List.cons.inj z).2]
    · rw [beq_eq_false_iff_ne.mpr fun z => e (wd_inj z), Bool.false_and, decide_eq_false fun z => e (List.cons.inj z).1]
theorem eqv_ns : ∀ (a b : List Int), PyData.eqv (dns a) (dns b) = decide (a = b)
  | [], [] => rfl
  | [], _ :: _ => rfl
  | _ :: _, [] => rfl
  | x :: a, y :: b => by
    have ih := eqv_ns a b
    show (x == y && PyData.eqv (dns a) (dns b)) = _
    rw [ih]
    by_cases e : x = y
    · subst e
      rw [beq_self_eq_true, Bool.true_and]
      by_cases e2 : a = b
      · rw [e2, decide_eq_true rfl, decide_eq_true rfl]
      · rw [decide_eq_false e2, decide_eq_false fun z => e2 (List.cons.inj z).2]
    · rw [beq_eq_false_iff_ne.mpr e, Bool.false_and, decide_eq_false fun z => e (List.cons.inj z).1]
end Wa
/-! generator expressions over the layer: the element is any expression with a rule -/
namespace Gx
open PySem PySem.Spec PyProof.Rows L2
/-- the context in which a generator expression's own code runs -/
abbrev gcx (X : Cx) (s : Shared) (H : Hp) (cenv : Env) (fp : List Addr) (A : Around) : Cx :=
  { X with A := A, s_0 := s, H_0 := H, env := cenv, outer := X.stack, stack := cenv :: X.stack, ex := fp, fn := fun _ => false, pn := [], xe := fun _ _ => False }
theorem clo_old {X : Cx} {pins : List (Addr × Obj)} {σ : L2.St} {H : Hp} {s : Shared} {scope : Scope} {own : List (Str × Nat)} (I : Inv X pins σ H s) (ok : BlkOk X.N X.env.scope scope own) {y : Str} {c : Addr}
    (e : (cloFrom X.env.cells scope.names []).lookup y = some c) : X.env.cells.lookup y = some c ∧ scope.names.lookup y = some .free ∧ c < s.heap.objs.size := by
  rcases cloFrom_mem (PySem.mem_of_lookup e) with z | ⟨m1, m2⟩
  · cases z
  · have hc : ∃ c, X.env.cells.lookup y = some c := (ok.free _ m1 rfl).elim (fun k => I.ok.has _ (.inl k)) fun k => I.ok.has _ (.inr k)
    obtain ⟨c', hc'⟩ := hc
    rw [hc'] at m2
    have m3 : c = c' := m2
    subst m3
    obtain ⟨v, z⟩ := I.cell _ _ hc'
    exact ⟨hc', ok.uniq _ m1, z.lt⟩
theorem clo_has {X : Cx} {pins : List (Addr × Obj)} {σ : L2.St} {H : Hp} {s : Shared} {scope : Scope} {own : List (Str × Nat)} (I : Inv X pins σ H s) (ok : BlkOk X.N X.env.scope scope own) {y : Str}
    (hl : scope.names.lookup y = some .free) : ∃ c, (cloFrom X.env.cells scope.names []).lookup y = some c := mem_lookup (cloFrom_has (cells := X.env.cells) (acc := []) (PySem.mem_of_lookup hl))
/-- the generator's own frame, laid -/
theorem gen_start {X : Cx} {pins : List (Addr × Obj)} {σ : L2.St} {H : Hp} {s s5 : Shared} {scope : Scope} {own : List (Str × Nat)} {fp : List Addr} {code : Value} {A : Around} {m0 : Str → Option Value}
    (I : Inv X pins σ H s) (ok : BlkOk X.N X.env.scope scope own) (nocell : ∀ y ∈ scope.names, y.2 ≠ .cell) (hN : X.N.Nodup) (hfp : ∀ b ∈ fp, FpOk X pins H b ∧ b < s.heap.objs.size)
    (hh : A.handled = none) (hf : A.frames = some (genEnv scope (cloFrom X.env.cells scope.names []) s.heap.objs.size code builtinsNs X.env :: X.stack))
    (kp : ∀ b o, s.heap.get? b = some o → s5.heap.get? b = some o) (hns : s5.heap.Ns s.heap.objs.size m0) (hos : s5.os = s.os) (hb : AllBare s5.gens) :
    Inv (gcx X s H (genEnv scope (cloFrom X.env.cells scope.names []) s.heap.objs.size code builtinsNs X.env) fp A) [] (wipe σ (own.map (·.2))) H s5 := by
  have old := fun {y : Str} {c : Addr} (e : (cloFrom X.env.cells scope.names []).lookup y = some c) => clo_old I ok e
  have kinds : ∀ {y : Str} {k : NameKind}, scope.names.lookup y = some k → k = .cell ∨ k = .free → scope.names.lookup y = some .free := fun {y k} h1 h2 => by
    rcases h2 with z | z
    · exact absurd z (nocell _ (PySem.mem_of_lookup h1))
    · rw [h1, z]
  have okG : (gcx X s H (genEnv scope (cloFrom X.env.cells scope.names []) s.heap.objs.size code builtinsNs X.env) fp A).Ok := {
    mod := I.ok.mod
    kind := ok.kind
    glob := I.ok.glob
    blt := rfl
    above := Nat.le_refl _
    inj := fun x y c e1 e2 => I.ok.inj x y c (old e1).1 (old e2).1
    has := fun x hx => clo_has I ok (hx.elim (fun z => kinds z (.inl rfl)) fun z => kinds z (.inr rfl))
    cab := fun x c z _ => Bool.noConfusion z
    hd := fun _ => hh
    frames := hf
    stk := .inr ⟨rfl, rfl⟩
    exf := fun b hb => ⟨Nat.ne_of_lt (hfp b hb).2, fun x c e => (hfp b hb).1.2.2.2.2.1 x c (old e).1⟩
    bs := I.bs
    bsz := Nat.le_trans I.ok.bsz I.sz
    noex := fun b o e hb => by
      rcases (hfp b hb).1.2.2.2.1 with z | z
      · exact I.ok.noex b o e z
      · have h1 := Nat.lt_of_lt_of_le (Heap.lt_size e) I.ok.bsz
        exact absurd (Nat.lt_of_lt_of_le h1 z) (Nat.lt_irrefl _)
    exfs := fun b hb z => (List.mem_cons.mp (I.stkSub b z)).elim (hfp b hb).1.2.1 (hfp b hb).1.2.2.1
    funs := I.stack
    frf := I.stkFree }
  exact {
    ok := okG
    os := hos
    bare := hb
    base := Un.kept kp
    loc := ⟨m0, hns, fun i y av e1 e2 e3 => by
      obtain ⟨e2, hne⟩ := wipe_some e2
      have e1 : X.N[i]? = some y := e1
      have hy : scope.names.lookup y = some .free := by
        have key : ∀ k, scope.names.lookup y = some k → k = .local → False := fun k hk z => by
          rcases ok.own _ (PySem.mem_of_lookup hk) (.inl z) with q | q
          · obtain ⟨p, hp, hpy⟩ := List.mem_map.mp q
            have e4 := ok.ix p hp
            have hpy : p.1 = y := hpy
            rw [hpy] at e4
            exact hne (List.mem_map.mpr ⟨p, hp, nodup_ix hN e4 e1⟩)
          · exact q (List.mem_of_getElem? e1)
        have e3 : Vis scope y := e3
        rcases e3 with z | z | z
        · exact (key _ z rfl).elim
        · exact kinds z (.inl rfl)
        · exact z
      obtain ⟨c, hc⟩ := clo_has I ok hy
      obtain ⟨m, hn, hl⟩ := I.loc
      have hv : Vis X.env.scope y := (ok.free _ (PySem.mem_of_lookup hy) rfl).elim (fun k => .inr (.inl k)) fun k => .inr (.inr k)
      obtain ⟨u, r, q⟩ := hl i y av e1 e2 hv
      refine ⟨u, r, .inr ⟨.inr hy, c, hc, ?_⟩⟩
      rcases q with ⟨k, _⟩ | ⟨_, c', e', z⟩
      · have k : X.env.scope.names.lookup y = some .local := k
        rcases ok.free _ (PySem.mem_of_lookup hy) rfl with k' | k'
        · rw [k] at k'; cases k'
        · rw [k] at k'; cases k'
      · rw [(old hc).1] at e'
        cases e'
        exact z.keeps kp⟩
    cell := fun y c e => by
      obtain ⟨v, z⟩ := I.cell y c (old e).1
      exact ⟨v, z.keeps kp⟩
    free := I.hok.fresh (Nat.le_refl _)
    freeC := fun y c e => I.freeC y c (old e).1
    pin := fun p hp => absurd (show p ∈ ([] : List (Addr × Obj)) from hp) (by simp)
    hok := I.hok.kept kp
    len := by rw [wipe_length]; exact I.len }
/-- while a generator sleeps its consumer may change what stands at cs, and lay new objects -/
structure Slept (cs : List Addr) (s s' : Shared) : Prop where
  os : s'.os = s.os
  bare : AllBare s'.gens
  keep : ∀ b o, b ∉ cs → s.heap.get? b = some o → s'.heap.get? b = some o
def Stood (cs : List Addr) (s : Shared) : Prop := ∀ b ∈ cs, ∃ o, s.heap.get? b = some o ∧ ∀ v, o.data ≠ .cell v
/-- the consumer's places: younger than the generator's frame -/
structure CsOk (G : Cx) (cs : List Addr) : Prop where
  young : ∀ b ∈ cs, G.s_0.heap.objs.size < b
  loc : G.env.locals = G.s_0.heap.objs.size
  cells : ∀ x c, G.env.cells.lookup x = some c → c < G.s_0.heap.objs.size
  pn : G.pn = []
theorem slept_inv {G : Cx} {σ : L2.St} {H : Hp} {s s' : Shared} {cs : List Addr} (I : Inv G [] σ H s) (c : CsOk G cs) (hH : ∀ b ∈ cs, H b = none) (z : Slept cs s s') : Inv G [] σ H s' := by
  obtain ⟨hh, g, d, t, o⟩ := s'
  obtain ⟨z1, z2, z3⟩ := z
  have ho : o = s.os := z1
  subst ho
  have nt : ∀ b u, H b = some u → b ∉ cs := fun b u e hb => by rw [hH b hb] at e; cases e
  refine I.step (g' := g) (t' := t) (d' := d) (h' := hh) (ch := cs) (fun b hb => ⟨.inr (Nat.le_of_lt (c.young b hb)), fun e => ?_, fun x k e q => ?_, fun p hp => ?_⟩) (fun b u _ _ hc e _ => z3 b u hc e) (fun b u _ _ hc e _ => ⟨u.slots, z3 b u hc e⟩) (fun _ _ _ _ n => n) (fun b u hc e => ⟨u, z3 b u hc e⟩)
    (fun _ _ e => e) (fun _ _ _ e => e) (fun b ps e => ⟨#[], by rw [e]; simp⟩) (fun m hm => ?_) (fun b u e => ?_) z2
  · have := c.young b hb
    rw [e, c.loc] at this
    exact Nat.lt_irrefl _ this
  · have h1 := c.young b hb
    have h2 := c.cells x k e
    rw [q] at h2
    exact absurd (Nat.lt_trans h1 h2) (Nat.lt_irrefl _)
  · rw [c.pn] at hp
    exact absurd hp (by simp)
  · obtain ⟨ob, es, ep, ho, r⟩ := hm
    refine ⟨ob, es, ep, z3 _ ob (fun hb => ?_) ho, r⟩
    have := c.young _ hb
    rw [c.loc] at this
    exact Nat.lt_irrefl _ this
  · refine (I.hok b u e).stay (fun k v hk q => z3 k v ?_ q) (fun _ q => q) fun _ _ q => q
    rcases hk with y | y
    · rw [y]; exact nt b u e
    · exact nt k _ y
theorem cs_fp {G : Cx} {σ : L2.St} {H : Hp} {s : Shared} {cs : List Addr} (I : Inv G [] σ H s) (c : CsOk G cs) (hH : ∀ b ∈ cs, H b = none) : ∀ b ∈ cs, FpOk G [] H b := fun b hb => by
  have yb := c.young b hb
  refine ⟨hH b hb, fun e => ?_, fun z => ?_, .inr (Nat.le_of_lt yb), fun x k e q => ?_, fun p hp => ?_⟩
  · rw [e, c.loc] at yb
    exact Nat.lt_irrefl _ yb
  · obtain ⟨_, o, ho, _⟩ := I.ok.funs.mem z
    exact absurd (Nat.lt_trans yb (Heap.lt_size ho)) (Nat.lt_irrefl _)
  · have h2 := c.cells x k e
    rw [q] at h2
    exact absurd (Nat.lt_trans yb h2) (Nat.lt_irrefl _)
  · rw [c.pn] at hp
    exact absurd hp (by simp)
end Gx
/-! the generator's loop -/
namespace Gx
open PySem PySem.Spec PyProof.Rows L2
theorem seg_yield_0 {M : Model} {A : Around} {R : GenEnd} {Y : Protocol} {s₀ s : Shared} {c : Code} {fs : List Frame} {v : Value} {g : Bool} {l : List Value} {k : Resume → Sem PySem.Fin} (hf : splitAtGen fs = none) (hg : g = false) (hd : fs.any Frame.guarded = false)
    (h : Y 0 s₀ v s fun _ _ => False) : Seg M A R Y 0 s₀ c (.yield v g l k) fs s := by
  rintro Γ p rfl _
  refine ⟨_, s, Runs.yield' fs hf, ?_, h⟩
  simp [End.quiet, hg, hd]
/-- what a turn of the generator's loop asks: W by the turn, a measure, what is out; on: what the consumer asks of an item (C: that it goes on); fin: of the end -/
def Turns (J : It) (g : TG) (tt : TT) (te : TE) (vs : List Nat) (σ : L2.St) (on : List V → V → Hp → Prop → Prop) (fin : List V → Hp → Prop) (W : Nat → Nat → List V → Hp → Prop) : Prop :=
  ∀ i m acc H, W i m acc H → (J.stop i H ∧ fin acc H) ∨ (J.go i H ∧ ∃ Nx : List V → Hp → Prop, (∀ acc' H', Nx acc' H' → ∃ m', m' < m ∧ W (i + 1) m' acc' H') ∧ ∀ x H', J.yld i H x H' → g x (wipe σ vs) H' fun σ2 H2 => wipe σ2 vs = wipe σ vs ∧ tt σ2 H2 fun b H3 =>
    if b = true then te σ2 H3 fun y H4 => on acc y H4 (Nx (acc ++ [y]) H4) else Nx acc H3)
def GY (G : Cx) (σw : L2.St) (cs : List Addr) (CR : List V → Shared → Prop) (on : List V → V → Hp → Prop → Prop) : Protocol := fun n s₀ v s kap =>
  ∃ (acc : List V) (y : V) (H : Hp) (C : Prop), RelV y v ∧ Inv G [] σw H s ∧ (∀ b ∈ cs, H b = none ∧ ∀ o, s₀.heap.get? b = some o → s.heap.get? b = some o) ∧ CR acc s ∧ on acc y H C ∧
    (C → ∀ s', Slept cs s s' → Stood cs s' → CR (acc ++ [y]) s' → kap (.send .none) s')
def GP (G : Cx) (σw : L2.St) (cs : List Addr) (CR : List V → Shared → Prop) (fin : List V → Hp → Prop) (_ : Nat) (s₀ s : Shared) : Prop :=
  ∃ (acc : List V) (H : Hp), Inv G [] σw H s ∧ (∀ b ∈ cs, H b = none ∧ ∀ o, s₀.heap.get? b = some o → s.heap.get? b = some o) ∧ CR acc s ∧ fin acc H
/-- the consumer's relation hangs on its own objects alone -/
def Stable (cs : List Addr) (CR : List V → Shared → Prop) : Prop := ∀ acc s s', (∀ b ∈ cs, ∀ o, s.heap.get? b = some o → s'.heap.get? b = some o) → CR acc s → CR acc s'
section
variable {X : Cx} {s3 : Shared} {H3 : Hp} {cenv : Env} {fp : List Addr} {B : Around} {it : Addr} {tn : Nat → Heap → Prop} {J : It} {elt tg iter : Expr} {ifs : List Expr} {scope : Scope} {pos : Pos} {g : TG} {tt : TT} {te : TE} {vs : List Nat} {σ : L2.St}
  {on : List V → V → Hp → Prop → Prop} {fin : List V → Hp → Prop} {W : Nat → Nat → List V → Hp → Prop} {cs : List Addr} {CR : List V → Shared → Prop}
theorem seg_gx (hc : X.calm = true) (T : Turn X.prog X.w X.K tg J fp it tn) (hco : cenv.scope.isCoroutine = false) (hfp : ∀ b ∈ fp, b < s3.heap.objs.size)
    (hg : PG (gcx X s3 H3 cenv fp (B.deeper cenv)) tg g) (ht : PTs (gcx X s3 H3 cenv fp (B.deeper cenv)) ifs tt) (he : PE (gcx X s3 H3 cenv fp (B.deeper cenv)) elt te)
    (K : CsOk (gcx X s3 H3 cenv fp (B.deeper cenv)) cs) (hCR : Stable cs CR) (turn : Turns J g tt te vs σ on fin W) :
    ∀ (m n i : Nat) (acc : List V) (H : Hp) (s₀ s : Shared), m ≤ n → Inv (gcx X s3 H3 cenv fp (B.deeper cenv)) ([] ++ pinsAt cs s₀.heap) (wipe σ vs) H s → Stood cs s₀ → tn i s.heap → (∀ b ∈ fp, H b = none) → CR acc s → W i m acc H →
      Seg (model X.prog X.w) B (fun n s₀ r s₁ => r = .ok .next ∧ GP (gcx X s3 H3 cenv fp (B.deeper cenv)) (wipe σ vs) cs CR fin n s₀ s₁) (GY (gcx X s3 H3 cenv fp (B.deeper cenv)) (wipe σ vs) cs CR on) n s₀
        (.compLoop (.GeneratorExp elt [⟨tg, iter, ifs, 0⟩] scope pos) 0 (.ref it) .none cenv) ((model X.prog X.w).den (.compLoop (.GeneratorExp elt [⟨tg, iter, ifs, 0⟩] scope pos) 0 (.ref it) .none cenv)) [] s := by
  intro m
  induction m using Nat.strongRecOn with
  | ind m ih =>
    intro n i acc H s₀ s hmn I hS st nfp hcr w
    have hov : B.over (.compLoop (.GeneratorExp elt [⟨tg, iter, ifs, 0⟩] scope pos) 0 (.ref it) .none cenv) [] = B.deeper cenv := rfl
    have csP : ∀ {p : Addr × Obj}, p ∈ [] ++ pinsAt cs s₀.heap → p.1 ∈ cs := fun {p} hp => (of_pinsAt (show p ∈ pinsAt cs s₀.heap from hp)).1
    have stat : ∀ {σ' : L2.St} {H' : Hp} {s' : Shared}, Inv (gcx X s3 H3 cenv fp (B.deeper cenv)) ([] ++ pinsAt cs s₀.heap) σ' H' s' → (∀ b ∈ fp, H' b = none) → ∀ b ∈ fp, FpOk (gcx X s3 H3 cenv fp (B.deeper cenv)) ([] ++ pinsAt cs s₀.heap) H' b := fun {σ' H' s'} I' hn b hb =>
      ⟨hn b hb, (I'.ok.exf b hb).1, I'.ok.exfs b hb, .inl hb, fun x c e => (I'.ok.exf b hb).2 x c e, fun p hp e => by
        have h1 := K.young _ (csP (show p ∈ [] ++ pinsAt cs s₀.heap from hp))
        rw [e] at h1
        exact absurd (Nat.lt_trans h1 (hfp b hb)) (Nat.lt_irrefl _)⟩
    -- what stands at cs is as it was
    have csK : ∀ {pl : List (Addr × Obj)} {σ' : L2.St} {H' : Hp} {s' : Shared}, Inv (gcx X s3 H3 cenv fp (B.deeper cenv)) ([] ++ pinsAt cs s₀.heap ++ pl) σ' H' s' → ∀ b ∈ cs, H' b = none ∧ ∀ o, s₀.heap.get? b = some o → s'.heap.get? b = some o := fun {pl σ' H' s'} I' b hb => by
      obtain ⟨o, e, _⟩ := hS b hb
      have hp : (b, o) ∈ ([] : List (Addr × Obj)) ++ ([] ++ pinsAt cs s₀.heap ++ pl) := List.mem_append_right _ (List.mem_append_left _ (List.mem_append_right _ (mem_pinsAt hb e)))
      obtain ⟨h1, h2, _⟩ := I'.pin (b, o) hp
      exact ⟨h2, fun o' e' => by rw [e] at e'; cases e'; exact h1⟩
    have crK : ∀ {pl : List (Addr × Obj)} {σ' : L2.St} {H' : Hp} {s' : Shared}, Inv (gcx X s3 H3 cenv fp (B.deeper cenv)) ([] ++ pinsAt cs s₀.heap ++ pl) σ' H' s' → CR acc s' := fun {pl σ' H' s'} I' =>
      hCR acc s s' (fun b hb o e => by
        obtain ⟨u, eu, _⟩ := hS b hb
        have h0 := ((csK (pl := []) (by rw [List.append_nil]; exact I) b hb).2 u eu)
        rw [e] at h0
        cases h0
        exact (csK I' b hb).2 _ eu) hcr
    show Seg _ B _ _ _ s₀ _ ((compTurn (.GeneratorExp elt [⟨tg, iter, ifs, 0⟩] scope pos) 0 (.ref it) .none cenv).onRaise (leaving cenv)) [] s
    have etree : compTurn (.GeneratorExp elt [⟨tg, iter, ifs, 0⟩] scope pos) 0 (.ref it) .none cenv = (do
        standAt iter.pos
        match ← pyNext (.ref it) with
        | none => pure (.done .next)
        | some v =>
          letOwnedTupleGo tg (.ref it) v
          assign tg cenv v
          let mut ok := true
          for c in ifs do
            if ok then ok ← isTrue c cenv (eval c cenv)
          if ok then
            (do let v ← eval elt cenv; standAt elt.pos; let _ ← yieldOut cenv v)
          again (.compLoop (.GeneratorExp elt [⟨tg, iter, ifs, 0⟩] scope pos) 0 (.ref it) .none cenv)) := by rfl
    rw [etree, Sem.onRaise_eq_wrap]
    refine seg_bind_wrap (wpAny_standAt ?_)
    rcases turn i m acc H w with ⟨stop, hfin⟩ | ⟨go, Nx, hNx, step⟩
    · refine seg_bind_wrap (wpAny_mono (T.done (gcx X s3 H3 cenv fp (B.deeper cenv)) rfl rfl rfl hc i _ s _ H (fun _ _ => False) I (stat I nfp) st stop) (fun r s6 hr => ?_) fun _ _ z => z.elim)
      obtain ⟨rfl, I6⟩ := hr
      have I6' : Inv (gcx X s3 H3 cenv fp (B.deeper cenv)) ([] ++ pinsAt cs s₀.heap ++ []) (wipe σ vs) H s6 := by rw [List.append_nil]; exact I6
      exact seg_end (.ok .next) ⟨rfl, acc, H, I6.unpinned, fun b hb => csK I6' b hb, crK I6', hfin⟩
    · refine seg_bind_wrap (wpAny_mono (T.item (gcx X s3 H3 cenv fp (B.deeper cenv)) rfl rfl rfl hc i _ s _ H (fun _ _ => False) I (stat I nfp) st go) (fun r s6 hr => ?_) fun _ _ z => z.elim)
      obtain ⟨u, rfl, h6⟩ := hr
      refine seg_bind_wrap (wpAny_mono h6 (fun _ s7 h7 => ?_) fun _ _ z => z.elim)
      obtain ⟨x, H7, I7, r7, y7, st7, n7⟩ := h7
      have I7' := I7.pinned (stat I7 n7) (T.obj _ _ st7)
      refine seg_bind_wrap (wpAny_mono (hg.run _ s7 _ H7 x u _ I7' r7 (step x H7 y7)) (fun _ s8 h8 => ?_) fun _ _ z => z.elim)
      obtain ⟨σ8, H8, I8, hw8, q8⟩ := h8
      refine seg_bind_wrap (wpAny_mono (ht.run _ s8 σ8 H8 _ I8 q8) (fun b s9 h9 => ?_) fun _ _ z => z.elim)
      obtain ⟨H9, I9, q9⟩ := h9
      have hl8 : (wipe σ vs).length = σ8.length := by rw [← hw8, wipe_length]
      have weak8 : ∀ {pl : List (Addr × Obj)} {H' : Hp} {s' : Shared}, Inv (gcx X s3 H3 cenv fp (B.deeper cenv)) pl σ8 H' s' → Inv (gcx X s3 H3 cenv fp (B.deeper cenv)) pl (wipe σ vs) H' s' := fun I' => I'.weak hl8 fun j v e => by
        rw [← hw8] at e
        exact (wipe_some e).1
      have fpK : ∀ {H' : Hp} {s' : Shared}, Inv (gcx X s3 H3 cenv fp (B.deeper cenv)) ([] ++ pinsAt cs s₀.heap ++ pinsAt fp s7.heap) σ8 H' s' → ∀ b ∈ fp, H' b = none ∧ ∀ o, s7.heap.get? b = some o → s'.heap.get? b = some o := fun {H' s'} I' b hb => by
        obtain ⟨o, e, _⟩ := T.obj _ _ st7 b hb
        obtain ⟨h1, h2, _⟩ := I'.pin (b, o) (List.mem_append_right _ (List.mem_append_right _ (mem_pinsAt hb e)))
        exact ⟨h2, fun o' e' => by rw [e] at e'; cases e'; exact h1⟩
      cases b with
      | false =>
        simp only [Bool.false_eq_true, if_false] at q9 ⊢
        obtain ⟨m', hm, w'⟩ := hNx _ _ q9
        exact seg_again rfl (ih m' hm n (i + 1) acc H9 s₀ s9 (by omega) (weak8 I9.unpinned) hS (T.keep _ _ _ st7 fun b hb o e => (fpK I9 b hb).2 o e) (fun b hb => (fpK I9 b hb).1) (crK I9) w')
      | true =>
        simp only [if_true] at q9 ⊢
        have hyo : ∀ v, yieldOut cenv v = yieldValue v := fun v => by simp only [yieldOut, hco, Bool.false_eq_true, if_false]
        simp only [hyo]
        rw [Sem.bind_eq_wrap', Sem.bind_eq_wrap', Sem.wrap_wrap, Sem.wrap_wrap]
        refine seg_wrap (wpAny_mono (he.run _ s9 σ8 H9 _ I9 q9) (fun z s10 h10 => ?_) fun _ _ z => z.elim)
        obtain ⟨yv, H10, I10, r10, q10⟩ := h10
        cases n with
        | zero =>
          refine seg_at (seg_yield_0 rfl rfl rfl ⟨acc, yv, H10, Nx (acc ++ [yv]) H10, r10, weak8 I10.unpinned.unpinned, fun b hb => csK I10 b hb, crK I10, q10, fun nx s' _ _ _ => ?_⟩)
          obtain ⟨m', hm, _⟩ := hNx _ _ nx
          exact absurd hm (by omega)
        | succ n =>
          refine seg_at (seg_yield rfl rfl rfl ⟨acc, yv, H10, Nx (acc ++ [yv]) H10, r10, weak8 I10.unpinned.unpinned, fun b hb => csK I10 b hb, crK I10, q10, fun nx s' hsl hst' hcr' => ?_⟩)
          obtain ⟨m', hm, w'⟩ := hNx _ _ nx
          have hH10 : ∀ b ∈ cs, H10 b = none := fun b hb => (csK I10 b hb).1
          have I11 := slept_inv (weak8 I10.unpinned.unpinned) K hH10 hsl
          have I12 := I11.pinned (cs_fp I11 K hH10) hst'
          have ncs : ∀ b ∈ fp, b ∉ cs := fun b hb z => absurd (Nat.lt_trans (hfp b hb) (K.young b z)) (Nat.lt_irrefl _)
          exact seg_again rfl (ih m' hm n (i + 1) (acc ++ [yv]) H10 s' s' (by omega) I12 hst' (T.keep _ _ _ st7 fun b hb o e => hsl.keep b o (ncs b hb) ((fpK I10 b hb).2 o e)) (fun b hb => (fpK I10 b hb).1) hcr' w')
end
end Gx
/-! the generator made, asleep, asked -/
namespace Gx
open PySem PySem.Spec PyProof.Rows L2
/-- the generator that was made: at a, with the number gn; s4: ahead of its frame -/
structure Made (X : Cx) (pins : List (Addr × Obj)) (σ : L2.St) (elt tg iter : Expr) (ifs : List Expr) (scope : Scope) (gpos : Pos) (J : It) (H2 : Hp) (a gn : Nat) (s4 s5 : Shared) (cenv : Env) (fp : List Addr) (it : Addr) (tn : Nat → Heap → Prop) : Prop where
  inv : Inv X pins σ H2 s4
  turn : Turn X.prog X.w X.K tg J fp it tn
  at0 : tn 0 s4.heap
  fpok : ∀ b ∈ fp, FpOk X pins H2 b ∧ b < s4.heap.objs.size
  env : ∃ code, cenv = genEnv scope (cloFrom X.env.cells scope.names []) s4.heap.objs.size code builtinsNs X.env
  kept : ∀ b o, s4.heap.get? b = some o → s5.heap.get? b = some o
  ns : ∃ m0, s5.heap.Ns s4.heap.objs.size m0
  os : s5.os = s4.os
  gens : s5.gens = s4.gens.push (.fresh (.compStart (.GeneratorExp elt [⟨tg, iter, ifs, 0⟩] scope gpos) 0 (.ref it) .none cenv))
  num : gn = s4.gens.size
  isgen : s5.heap.IsGen a gn
  young : s4.heap.objs.size < a
  size : s5.heap.objs.size = a + 1
theorem gx_eval {X : Cx} {pins : List (Addr × Obj)} {σ : L2.St} {H : Hp} {s : Shared} {c P : Addr} {elt tg iter : Expr} {ifs : List Expr} {gpos : Pos} {scope : Scope} {own : List (Str × Nat)} {wi : TI} {k : Nat} {Q' : Value → Shared → Prop} {R : It → Hp → Prop}
    (hr : Room k X.A) (TB : GxR.TabB X.base X.mg c P) (hcode : X.env.code = .ref c) (hco : scope.isCoroutine = false) (ok : BlkOk X.N X.env.scope scope own) (nocell : ∀ y ∈ scope.names, y.2 ≠ .cell) (dot : scope.names.lookup (".0" : Str) = some NameKind.local)
    (hi : PI X tg iter wi) (hs : ∀ v, genFold iter X.env v = pure v) (I : Inv X pins σ H s) (h : wi σ H fun J H1 => GxR.TabG H1 P ∧ ∀ H2, GxR.Tabbed P H1 H2 → R J H2)
    (hQ : ∀ J H2 a gn s4 s5 cenv fp it tn, Made X pins σ elt tg iter ifs scope gpos J H2 a gn s4 s5 cenv fp it tn → R J H2 → Q' (.ref a) s5) :
    wpAny (model X.prog X.w) X.A (eval (.GeneratorExp elt [⟨tg, iter, ifs, 0⟩] scope gpos) X.env) Q' X.xe s := by
  have hfree : ∀ y ∈ scope.names, y.2 = .free → ∃ c, X.env.cells.lookup y.1 = some c := fun y hy e => (ok.free y hy e).elim (fun z => I.ok.has _ (.inl z)) fun z => I.ok.has _ (.inr z)
  refine wpAny_GeneratorExp_make hco (closure_ok hfree) nocell dot ok.kind (by have := hr.dp; omega) ?_ hs
  refine thn (hi.run pins s σ H _ I h) fun xv s1 hx => thn hx fun itv s2 h2 => ?_
  obtain ⟨it, fp, tn, J, H1, rfl, I1, T, st, f1, ⟨ps, hP, ht⟩, hR⟩ := h2
  have hPs : s2.heap.get? P = some { cls := .none, data := .fields ps } := I1.hok P _ hP
  have cd : PySem.W.CodeHd s2.heap c P := TB.code.keeps I1.bk
  have fpP : ∀ b ∈ fp, b ≠ P := fun b hb e => by
    have := (f1 b hb).1
    rw [e, hP] at this
    cases this
  have cont : ∀ (code : Value) (h3 : Heap) (tk : Nat) (ps' : Array Value), Heap.ExtBut P s2.heap h3 → s2.heap.objs.size ≤ h3.objs.size → h3.get? P = some { cls := .none, data := .fields ps' } → (∃ more, ps' = ps ++ more) → TriplesOk ps'.toList →
      wpAny (model X.prog X.w) X.A (builtinsFor X.env.globals X.env.builtins) (fun bi s₄ => ∀ h', h'.Ns s₄.heap.objs.size (fun y => if y = ".0" then some (.ref it) else none) → Heap.SameBut s₄.heap.objs.size (s₄.heap.push { cls := .type "frame", data := .dict #[] }) h' →
          Q' (.ref h'.objs.size) { s₄ with
            gens := s₄.gens.push (.fresh (.compStart (.GeneratorExp elt [⟨tg, iter, ifs, 0⟩] scope gpos) 0 (.ref it) .none (genEnv scope (cloFrom X.env.cells scope.names []) s₄.heap.objs.size code bi X.env))),
            toks := s₄.toks + 1 + 1 + 1,
            heap := h'.push { cls := .type "generator", data := .fields #[.int s₄.gens.size 0, .str "<genexpr>" (s₄.toks + 1), .str (X.env.qual ++ "<genexpr>") (s₄.toks + 1 + 1)] } }) X.xe { s2 with heap := h3, toks := tk } := by
    intro code h3 tk ps' hx hsz hP3 hmore ht3
    obtain ⟨bm, ob, e1, e2, e3, e4, e5, e6, e7, e8⟩ := TB.bm
    have keep3 : ∀ b u, b ≠ P → s2.heap.get? b = some u → h3.get? b = some u := fun b u hb e => hx b u hb e
    refine wpAny_builtinsFor (m := X.mg) (by rw [I1.ok.glob]; exact (I1.mod.glob.keeps I1.bk).extBut hx TB.gP) e1 e2 (keep3 _ _ e4 (I1.bk _ _ e5)) e6 e7 e8 ?_
    intro h' hn' hs'
    obtain ⟨more, em⟩ := hmore
    have J4 := GxR.inv_tab (more := more) (h' := h3) (g' := s2.gens) (d' := s2.drawn) (t' := tk) I1 hP (fun b u hb e => keep3 b u hb e) (by rw [← em]; exact hP3) I1.bare
    have hT2 : GxR.Tabbed P H1 (upd H1 P (.tbl (ps ++ more))) := ⟨⟨ps ++ more, upd_same, by rw [← em]; exact ht3⟩, fun b hb => upd_ne hb⟩
    have hsz' : h'.objs.size = h3.objs.size + 1 := by rw [hs'.1, Heap.size_push]
    have kept1 : ∀ b o, h3.get? b = some o → h'.get? b = some o := fun b o e => hs'.extBut b o (Nat.ne_of_lt (Heap.lt_size e)) (Heap.get?_push_of_some _ e)
    refine hQ J _ h'.objs.size s2.gens.size { s2 with heap := h3, toks := tk } _ _ fp it tn {
      inv := J4
      turn := T
      at0 := T.keep _ _ _ st fun b hb o e => keep3 b o (fpP b hb) e
      fpok := fun b hb => ⟨⟨by rw [upd_ne (fpP b hb)]; exact (f1 b hb).1, (f1 b hb).2⟩, by
        obtain ⟨o, e, _⟩ := T.obj _ _ st b hb
        exact Nat.lt_of_lt_of_le (Heap.lt_size e) hsz⟩
      env := ⟨code, rfl⟩
      kept := fun b o e => Heap.get?_push_of_some _ (kept1 b o e)
      ns := ⟨_, hn'.push _⟩
      os := rfl
      gens := rfl
      num := rfl
      isgen := ⟨_, _, _, Heap.get?_push_size _ rfl, rfl, rfl, rfl⟩
      young := by show h3.objs.size < h'.objs.size; omega
      size := by show (h'.push _).objs.size = _; rw [Heap.size_push] } (hR _ hT2)
  refine ⟨I1.nolimit, ?_⟩
  cases hf : codeAmong gpos ps.toList with
  | none =>
    refine wpAny_genexprCodeX hcode (cd.code hPs ht) (cd.tab hPs) hf fun c' h' tk hx hge hlt hco' _ htab' _ => ?_
    obtain ⟨o1, vs, f1, tf, fl, tg, inF, tx, tt, op, _, _, _, _, _, _, _, _, _, htr, _⟩ := hco'
    exact cont _ h' tk _ hx (Nat.le_trans hge (Nat.le_of_lt hlt)) htab'.2 ⟨_, rfl⟩ htr
  | some cv =>
    refine wpAny_genexprCode_hit hcode (cd.code hPs ht) hf ?_
    exact cont cv s2.heap s2.toks ps (Heap.ExtBut.refl _ _) (Nat.le_refl _) hPs ⟨#[], by simp⟩ ht
/-- the generator number gn sleeps; n: how often it may still hand out -/
def Asleep (M : Model) (B : Around) (G : Cx) (σw : L2.St) (cs : List Addr) (CR : List V → Shared → Prop) (on : List V → V → Hp → Prop → Prop) (fin : List V → Hp → Prop) (gn n : Nat) (acc : List V) (s : Shared) : Prop :=
  ∃ gs, s.gens[gn]? = some gs ∧ ∀ s', Slept cs s s' → Stood cs s' → CR acc s' → gs.Goes M B (fun n s₀ r s₁ => r = .ok .next ∧ GP G σw cs CR fin n s₀ s₁) (GY G σw cs CR on) n (.send .none) s'
theorem setg_other (s : Shared) (g : Nat) (x : GenState) (h : AllBare s.gens) (hx : x.bare = true) : AllBare (s.setGen g x).gens := fun y hy => by
  have e : (s.setGen g x).gens = s.gens.setIfInBounds g x := rfl
  rw [e] at hy
  obtain ⟨i, hi, rfl⟩ := Array.mem_iff_getElem.mp hy
  have hi2 : i < s.gens.size := by
    rw [Array.size_setIfInBounds] at hi
    exact hi
  rw [Array.getElem_setIfInBounds hi2]
  split
  · exact hx
  · exact h _ (Array.getElem_mem hi2)
theorem slept_set {cs : List Addr} {s s' : Shared} {g : Nat} {x : GenState} (z : Slept cs (s.setGen g x) s') : Slept cs s s' := ⟨z.os, z.bare, z.keep⟩
section
variable {X : Cx} {pins : List (Addr × Obj)} {σ : L2.St} {elt tg iter : Expr} {ifs : List Expr} {scope : Scope} {gpos : Pos} {J : It} {H2 : Hp} {a gn : Nat} {s4 s5 : Shared} {cenv : Env} {fp : List Addr} {it : Addr} {tn : Nat → Heap → Prop} {own : List (Str × Nat)}
  {g : TG} {tt : TT} {te : TE} {on : List V → V → Hp → Prop → Prop} {fin : List V → Hp → Prop} {W : Nat → Nat → List V → Hp → Prop} {cs : List Addr} {CR : List V → Shared → Prop} {B : Around}
theorem made_cs (Z : Made X pins σ elt tg iter ifs scope gpos J H2 a gn s4 s5 cenv fp it tn) (ok : BlkOk X.N X.env.scope scope own) (hy : ∀ b ∈ cs, s4.heap.objs.size < b) : CsOk (gcx X s4 H2 cenv fp (B.deeper cenv)) cs := by
  obtain ⟨code, rfl⟩ := Z.env
  exact ⟨hy, rfl, fun x c e => (clo_old Z.inv ok e).2.2, rfl⟩
theorem made_asleep (Z : Made X pins σ elt tg iter ifs scope gpos J H2 a gn s4 s5 cenv fp it tn) (hc : X.calm = true) (hco : scope.isCoroutine = false) (ok : BlkOk X.N X.env.scope scope own) (nocell : ∀ y ∈ scope.names, y.2 ≠ .cell) (hN : X.N.Nodup)
    (hB : B.handled = none) (hBf : B.frames = X.A.frames)
    (hg : PG (gcx X s4 H2 cenv fp (B.deeper cenv)) tg g) (ht : PTs (gcx X s4 H2 cenv fp (B.deeper cenv)) ifs tt) (he : PE (gcx X s4 H2 cenv fp (B.deeper cenv)) elt te)
    (hy : ∀ b ∈ cs, s4.heap.objs.size < b) (hCR : Stable cs CR) (turn : Turns J g tt te (own.map (·.2)) σ on fin W) {m0 : Nat} (w0 : W 0 m0 [] H2) {s : Shared} (hs : Slept cs s5 s) (hsg : s.gens[gn]? = s5.gens[gn]?) :
    Asleep (model X.prog X.w) B (gcx X s4 H2 cenv fp (B.deeper cenv)) (wipe σ (own.map (·.2))) cs CR on fin gn m0 [] s := by
  refine ⟨.fresh (.compStart (.GeneratorExp elt [⟨tg, iter, ifs, 0⟩] scope gpos) 0 (.ref it) .none cenv), by rw [hsg, Z.gens, Z.num]; exact Array.getElem?_push_size .., fun s' hsl hst hcr => ⟨rfl, ?_⟩⟩
  have K := made_cs (B := B) Z ok hy
  obtain ⟨m1, hns⟩ := Z.ns
  have hco' : cenv.scope.isCoroutine = false := by
    obtain ⟨code, e⟩ := Z.env
    rw [e]
    exact hco
  have bare5 : AllBare s5.gens := by
    rw [Z.gens]
    exact Z.inv.bare.push rfl
  have I5 : Inv (gcx X s4 H2 cenv fp (B.deeper cenv)) [] (wipe σ (own.map (·.2))) H2 s5 := by
    obtain ⟨code, rfl⟩ := Z.env
    exact gen_start Z.inv ok nocell hN Z.fpok hB (by show Option.map _ B.frames = _; rw [hBf, Z.inv.ok.frames]; rfl) Z.kept hns Z.os bare5
  have hH : ∀ b ∈ cs, H2 b = none := fun b hb => Z.inv.hok.fresh (Nat.le_of_lt (hy b hb))
  have I6 := slept_inv (slept_inv I5 K hH hs) K hH hsl
  have ncs : ∀ b ∈ fp, b ∉ cs := fun b hb z => absurd (Nat.lt_trans (Z.fpok b hb).2 (hy b z)) (Nat.lt_irrefl _)
  have tn6 : tn 0 s'.heap := Z.turn.keep _ _ _ Z.at0 fun b hb o e => hsl.keep b o (ncs b hb) (hs.keep b o (ncs b hb) (Z.kept b o e))
  have loop := seg_gx (iter := iter) (scope := scope) (pos := gpos) hc Z.turn hco' (fun b hb => (Z.fpok b hb).2) hg ht he K hCR turn m0 m0 0 [] H2 s' s' (Nat.le_refl _) (I6.pinned (cs_fp I6 K hH) hst) hst tn6 (fun b hb => (Z.fpok b hb).1.1) hcr w0
  show Seg _ B _ _ _ s' _ ((compStart (.GeneratorExp elt [⟨tg, iter, ifs, 0⟩] scope gpos) 0 (.ref it) .none cenv).onRaise (leaving cenv)) [] s'
  unfold compStart
  rw [Sem.onRaise_eq_wrap]
  show Seg _ B _ _ _ s' _ ((ask >>= _).wrap _ _ _ _) [] s'
  refine seg_bind_wrap (wpAny_askSetting ?_)
  split
  · exact seg_again rfl loop
  · refine seg_bind_wrap (wpAny_rule ?_)
    show Seg _ B _ _ _ s' _ ((standAt iter.pos >>= _).wrap _ _ _ _) [] s'
    refine seg_bind_wrap (wpAny_standAt ?_)
    exact seg_bind_wrap (Z.turn.self _ 0 s' _ _ tn6 (seg_again rfl loop))
/-- back in the def's own frame -/
theorem made_back (Z : Made X pins σ elt tg iter ifs scope gpos J H2 a gn s4 s5 cenv fp it tn) {σw : L2.St} {H : Hp} {s s' : Shared} (I : Inv (gcx X s4 H2 cenv fp (B.deeper cenv)) [] σw H s) (hos : s'.os = s.os) (hb : AllBare s'.gens) (hk : ∀ b o, s.heap.get? b = some o → s'.heap.get? b = some o) : Inv X pins σ H s' :=
  Z.inv.call' (ch := fp) (hos.trans I.os) (I.base.trans (Un.kept hk)) (I.hok.kept hk) hb fun b hb => ⟨(Z.fpok b hb).1.2.2.2.1, (Z.fpok b hb).1.2.1, (Z.fpok b hb).1.2.2.2.2.1, (Z.fpok b hb).1.2.2.2.2.2⟩
/-- the consumer asks for the next item -/
theorem gx_next (Z : Made X pins σ elt tg iter ifs scope gpos J H2 a gn s4 s5 cenv fp it tn) {σw : L2.St} {A1 : Around} {n : Nat} {acc : List V} {s : Shared} {Q : Option Value → Shared → Prop} {E : Value → Shared → Prop}
    (hh : A1.handled = none) (hroom : A1.depth < recursionLimit) (hl : s.heap.NoLimit) (hgen : s.heap.IsGen a gn) (hb : AllBare s.gens) (S : Asleep (model X.prog X.w) A1.in1 (gcx X s4 H2 cenv fp (A1.in1.deeper cenv)) σw cs CR on fin gn n acc s) (hst : Stood cs s) (hcr : CR acc s)
    (hY : ∀ v y acc' H C s', RelV y v → Inv X pins σ H s' → AllBare s'.gens → (∀ b ∈ cs, ∀ o, s.heap.get? b = some o → s'.heap.get? b = some o) → CR acc' s' → on acc' y H C →
      (C → ∀ s'', Slept cs s' s'' → s''.gens[gn]? = s'.gens[gn]? → Stood cs s'' → CR (acc' ++ [y]) s'' → 0 < n ∧ Asleep (model X.prog X.w) A1.in1 (gcx X s4 H2 cenv fp (A1.in1.deeper cenv)) σw cs CR on fin gn (n - 1) (acc' ++ [y]) s'') → Q (some v) s')
    (hP : ∀ acc' H s', Inv X pins σ H s' → (∀ b ∈ cs, ∀ o, s.heap.get? b = some o → s'.heap.get? b = some o) → CR acc' s' → fin acc' H → Q none s') (hCR : Stable cs CR) :
    wpAny (model X.prog X.w) A1 (pyNext (.ref a)) Q E s := by
  obtain ⟨gs, hgs, hgo⟩ := S
  have hlt : gn < s.gens.size := by
    rcases Nat.lt_or_ge gn s.gens.size with z | z
    · exact z
    · rw [Array.getElem?_eq_none z] at hgs; cases hgs
  refine GenW.wpAny_gsz (n := gn + 1) hlt ?_
  refine wpAny_pyNext_genexpQ (P := GP (gcx X s4 H2 cenv fp (A1.in1.deeper cenv)) σw cs CR fin) (Y := GY (gcx X s4 H2 cenv fp (A1.in1.deeper cenv)) σw cs CR on) (n := n) hh hl hroom hgen hgs (hgo (s.setGen gn .running) ⟨rfl, setg_other s gn _ hb rfl, fun b o _ e => e⟩ hst (hCR acc s _ (fun _ _ _ e => e) hcr)) (fun v s₁ gs' hbs hv => ?_) (fun s₁ hp h' hkk => ?_)
  · intro hsz
    obtain ⟨acc', y, H, C, rv, I, hk, cr', ho, kap⟩ := hv
    have b1 := setg_other s₁ gn gs' I.bare hbs
    refine hY v y acc' H C _ rv (made_back Z I rfl b1 fun b o e => e) b1 (fun b hb o e => (hk b hb).2 o e) (hCR acc' s₁ _ (fun _ _ _ e => e) cr') ho fun hC s'' hsl hge hsd hcr2 => ?_
    have hsz' : gn < s₁.gens.size := by
      rw [GenW.setGen_size] at hsz
      exact hsz
    have e1 : (s₁.setGen gn gs').gens[gn]? = some gs' := by
      show (s₁.gens.setIfInBounds gn gs')[gn]? = some gs'
      rw [Array.getElem?_setIfInBounds_self_of_lt hsz']
    cases n with
    | zero =>
      exact (kap hC s'' (slept_set hsl) hsd hcr2).elim
    | succ n => exact ⟨Nat.succ_pos _, gs', hge.trans e1, fun s3 z1 z2 z3 => kap hC s3 ⟨z1.os.trans hsl.os, z1.bare, fun b o nb e => z1.keep b o nb (hsl.keep b o nb e)⟩ z2 z3⟩
  · intro _
    obtain ⟨acc', H, I, hk, cr', hf⟩ := hp
    refine hP acc' H _ (made_back Z I rfl (setg_other s₁ gn .finished I.bare rfl) fun b o e => hkk b o e) (fun b hb o e => hkk b o ((hk b hb).2 o e)) (hCR acc' s₁ _ (fun _ _ o e => hkk _ o e) cr') hf
end
end Gx
/-! all, sum and join over a generator expression -/
namespace Gx
open PySem PySem.Spec PyProof.Rows L2
/-- the rules of a generator expression's parts, in whatever frame it runs -/
structure Parts (X : Cx) (k : Nat) (c P : Addr) (elt tg : Expr) (ifs : List Expr) (scope : Scope) (own : List (Str × Nat)) (g : TG) (tt : TT) (te : TE) : Prop where
  tab : GxR.TabB X.base X.mg c P
  code : X.env.code = .ref c
  co : scope.isCoroutine = false
  ok : BlkOk X.N X.env.scope scope own
  nocell : ∀ y ∈ scope.names, y.2 ≠ .cell
  dot : scope.names.lookup (".0" : Str) = some NameKind.local
  calm : X.calm = true
  nd : X.N.Nodup
  pg : ∀ (s : Shared) (H : Hp) (C : Addr) (cl : List (Str × Addr)) (cd : Value) (fp : List Addr) (A : Around), PG (gcx X s H (genEnv scope cl C cd builtinsNs X.env) fp A) tg g
  pt : ∀ (s : Shared) (H : Hp) (C : Addr) (cl : List (Str × Addr)) (cd : Value) (fp : List Addr) (A : Around), Room k A → PTs (gcx X s H (genEnv scope cl C cd builtinsNs X.env) fp A) ifs tt
  pe : ∀ (s : Shared) (H : Hp) (C : Addr) (cl : List (Str × Addr)) (cd : Value) (fp : List Addr) (A : Around), Room k A → PE (gcx X s H (genEnv scope cl C cd builtinsNs X.env) fp A) elt te
/-- the reading: the table may have grown; then the turns -/
def tGx (P : Addr) (wi : TI) (g : TG) (tt : TT) (te : TE) (vs : List Nat) (on : VK → List V → V → Hp → Prop → Prop) (fin : VK → List V → Hp → Prop) : TE := fun σ H Q => wi σ H fun J H1 => GxR.TabG H1 P ∧ ∀ H2, GxR.Tabbed P H1 H2 →
  ∃ W : Nat → Nat → List V → Hp → Prop, (∃ m, W 0 m [] H2) ∧ Turns J g tt te vs σ (on Q) (fin Q) W
def onAll : VK → List V → V → Hp → Prop → Prop := fun Q _ y H C => ∃ b, y = .bl b ∧ if b = true then C else Q (.bl false) H
def finAll : VK → List V → Hp → Prop := fun Q _ H => Q (.bl true) H
def isum : List V → Int
  | [] => 0
  | .int i :: r => i + isum r
  | _ :: r => isum r
theorem isum_app : ∀ (a : List V) (i : Int), isum (a ++ [.int i]) = isum a + i
  | [], i => by show i + 0 = 0 + i; omega
  | .int j :: r, i => by show j + isum (r ++ [.int i]) = j + isum r + i; rw [isum_app r i]; omega
  | .non :: r, i => isum_app r i
  | .bl _ :: r, i => isum_app r i
  | .str _ :: r, i => isum_app r i
  | .byt _ :: r, i => isum_app r i
  | .flt _ :: r, i => isum_app r i
  | .ref _ :: r, i => isum_app r i
  | .ty _ :: r, i => isum_app r i
def onSum : VK → List V → V → Hp → Prop → Prop := fun _ acc y _ C => ∃ j, y = .int j ∧ (-(2 ^ 63) ≤ j ∧ j < 2 ^ 63) ∧ (-(2 ^ 63) ≤ isum acc + j ∧ isum acc + j < 2 ^ 63) ∧ C
def finSum : VK → List V → Hp → Prop := fun Q acc H => Q (.int (isum acc)) H
def onStr : VK → List V → V → Hp → Prop → Prop := fun _ acc y _ C => (∃ x, y = .str x) ∧ acc.length < sizeLine ∧ C
def finStr (sep : Str) : VK → List V → Hp → Prop := fun Q acc H => ∃ ws : List Str, acc = ws.map V.str ∧ JoinOk sep ws = true ∧ Q (.str (Txt.join sep ws)) H
section
variable {X : Cx} {pins : List (Addr × Obj)} {σ : L2.St} {elt tg iter : Expr} {ifs : List Expr} {scope : Scope} {gpos : Pos} {J : It} {H2 : Hp} {a gn : Nat} {s4 s5 : Shared} {cenv : Env} {fp : List Addr} {it : Addr} {tn : Nat → Heap → Prop} {own : List (Str × Nat)}
  {g : TG} {tt : TT} {te : TE} {k : Nat} {c P : Addr} {Q : VK} {W : Nat → Nat → List V → Hp → Prop}
theorem slept_keep {cs : List Addr} {s : Shared} {h' : Heap} {t' : Nat} (hb : AllBare s.gens) (hk : ∀ b o, b ∉ cs → s.heap.get? b = some o → h'.get? b = some o) : Slept cs s { s with heap := h', toks := t' } := ⟨rfl, hb, hk⟩
theorem gen_stood {a gn : Nat} {s : Shared} (h : s.heap.IsGen a gn) : ∃ o, s.heap.get? a = some o ∧ ∀ v, o.data ≠ .cell v := by
  obtain ⟨o, nm, qn, e, _, d, _⟩ := h
  exact ⟨o, e, fun v z => by rw [d] at z; cases z⟩
theorem gen_at {a gn : Nat} {s s' : Shared} (h : s.heap.IsGen a gn) (k : ∀ o, s.heap.get? a = some o → s'.heap.get? a = some o) : s'.heap.IsGen a gn := by
  obtain ⟨o, nm, qn, e, r⟩ := h
  exact ⟨o, nm, qn, k o e, r⟩
theorem all_loop (Z : Made X pins σ elt tg iter ifs scope gpos J H2 a gn s4 s5 cenv fp it tn) (hr : Room (k + 3) X.A) {σw : L2.St} : ∀ (n : Nat) (acc : List V) (s : Shared), s.heap.NoLimit → AllBare s.gens → s.heap.IsGen a gn →
    Asleep (model X.prog X.w) X.A.in1.in1 (gcx X s4 H2 cenv fp (X.A.in1.in1.deeper cenv)) σw [a] (fun _ s => s.heap.IsGen a gn) (onAll Q) (finAll Q) gn n acc s →
    codeAny (model X.prog X.w) X.A (.builtin "all.loop" ⟨[.ref a], []⟩) (fun r s' => ∃ v x H', r = .ok (.ret v) ∧ Inv X pins σ H' s' ∧ RelV x v ∧ Q x H') s := by
  have stab : Stable [a] (fun _ s => s.heap.IsGen a gn) := fun _ s s' hk h => gen_at h fun o e => hk a List.mem_cons_self o e
  intro n
  induction n with
  | zero =>
    intro acc s hl hb hg S
    refine codeAny_builtin F.entry_all_loop ?_
    rw [Around.under_plainId F.plain_all_loop _]
    show wpAny _ X.A.in1 (pyNext (.ref a) >>= _) _ _ s
    refine wpAny_bind (gx_next (A1 := X.A.in1) Z hr.hd (by have := hr.dp; show X.A.depth < _; omega) hl hg hb S (fun b hb => by rw [List.mem_singleton.mp hb]; exact gen_stood hg) hg (fun v y acc' H C s' rv I b' hk cr ho go => ?_) (fun acc' H s' I hk cr hf => ?_) stab)
    · obtain ⟨b, rfl, q⟩ := ho
      obtain rfl : v = Value.bool b := rv
      refine wpAny_bind (wpAny_holding (wpAny_truthy_bool ?_))
      refine wpAny_bind (wpAny_letGo ?_)
      cases b with
      | true =>
        rw [if_pos rfl] at q
        obtain ⟨z, _⟩ := go q s' ⟨rfl, b', fun _ _ _ e => e⟩ rfl (fun b hb => by rw [List.mem_singleton.mp hb]; exact gen_stood cr) cr
        exact absurd z (Nat.lt_irrefl _)
      | false =>
        rw [if_neg Bool.false_ne_true] at q
        simp only [Bool.false_eq_true, if_false]
        exact wpAny_bind (wpAny_rule (wpAny_pure ⟨_, .bl false, H, rfl, I, rfl, q⟩))
    · exact wpAny_bind (wpAny_rule (wpAny_pure ⟨_, .bl true, H, rfl, I, rfl, hf⟩))
  | succ n ih =>
    intro acc s hl hb hg S
    refine codeAny_builtin F.entry_all_loop ?_
    rw [Around.under_plainId F.plain_all_loop _]
    show wpAny _ X.A.in1 (pyNext (.ref a) >>= _) _ _ s
    refine wpAny_bind (gx_next (A1 := X.A.in1) Z hr.hd (by have := hr.dp; show X.A.depth < _; omega) hl hg hb S (fun b hb => by rw [List.mem_singleton.mp hb]; exact gen_stood hg) hg (fun v y acc' H C s' rv I b' hk cr ho go => ?_) (fun acc' H s' I hk cr hf => ?_) stab)
    · obtain ⟨b, rfl, q⟩ := ho
      obtain rfl : v = Value.bool b := rv
      refine wpAny_bind (wpAny_holding (wpAny_truthy_bool ?_))
      refine wpAny_bind (wpAny_letGo ?_)
      cases b with
      | true =>
        rw [if_pos rfl] at q
        obtain ⟨_, S'⟩ := go q s' ⟨rfl, b', fun _ _ _ e => e⟩ rfl (fun b hb => by rw [List.mem_singleton.mp hb]; exact gen_stood cr) cr
        simp only [if_true]
        exact wpAny_pure ⟨plainId_quiet F.plain_all_loop _, ih _ s' I.nolimit b' cr S'⟩
      | false =>
        rw [if_neg Bool.false_ne_true] at q
        simp only [Bool.false_eq_true, if_false]
        exact wpAny_bind (wpAny_rule (wpAny_pure ⟨_, .bl false, H, rfl, I, rfl, q⟩))
    · exact wpAny_bind (wpAny_rule (wpAny_pure ⟨_, .bl true, H, rfl, I, rfl, hf⟩))
theorem room_gen {A : Around} (hr : Room (k + 3) A) (env : Env) : Room k (A.in1.in1.deeper env) := (hr.in1.in1).deeper env
theorem Made.inv5 (Z : Made X pins σ elt tg iter ifs scope gpos J H2 a gn s4 s5 cenv fp it tn) : Inv X pins σ H2 s5 ∧ AllBare s5.gens := by
  have b5 : AllBare s5.gens := by
    rw [Z.gens]
    exact Z.inv.bare.push rfl
  exact ⟨Z.inv.call' (ch := []) Z.os (Un.kept Z.kept) (Z.inv.hok.kept Z.kept) b5 fun b hb => absurd hb (by simp), b5⟩
theorem boot_all_ : bootBuiltins "all" = some (.builtin "all") := by decide +kernel
theorem boot_sum_ : bootBuiltins "sum" = some (.builtin "sum") := by decide +kernel
theorem pe_allG {p pos : Pos} {wi : TI} (hr : Room (k + 3) X.A) (hg : Gl X "all") (hm : X.mg "all" = none) (D : Parts X k c P elt tg ifs scope own g tt te) (hi : PI X tg iter wi) (hs : ∀ v, genFold iter X.env v = pure v := by intro _; rfl)
    (he : starEach [.GeneratorExp elt [⟨tg, iter, ifs, 0⟩] scope gpos] X.env = (false, eval (.GeneratorExp elt [⟨tg, iter, ifs, 0⟩] scope gpos) X.env) :: starEach [] X.env := by rfl) :
    PE X (.Call (.Name "all" p) [.GeneratorExp elt [⟨tg, iter, ifs, 0⟩] scope gpos] [] pos) (tGx P wi g tt te (own.map (·.2)) onAll finAll) := by
  refine ⟨fun pins s σ H Q I h => ?_⟩
  refine wpAny_Call_Name_kw (ld_blt I hg hm boot_all_ ?_)
  refine PyProof.Rows.callWith_builtin1 ?_ he (by rfl)
  rw [he]
  show wpAny _ _ (spliced ((false, eval (.GeneratorExp elt [⟨tg, iter, ifs, 0⟩] scope gpos) X.env) :: backTo pos (starEach [] X.env))) _ _ s
  refine Calls.spliced_cons (gx_eval hr D.tab D.code D.co D.ok D.nocell D.dot hi hs I h fun J H2 a gn s4 s5 cenv fp it tn Z hR => ?_)
  obtain ⟨W, ⟨m0, w0⟩, turn⟩ := hR
  obtain ⟨I5, b5⟩ := Z.inv5
  refine Calls.spliced_nil ?_
  refine call_function_tree F.kind_all F.plain_all F.entry_all (F.args_all1 _) ?_
  unfold Builtin.«all»
  refine wpAny_bind (m := oneArg "all" _) (wpAny_pure ?_)
  refine wpAny_bind (wpAny_pyIter_gen Z.isgen ?_)
  have pp : PG (gcx X s4 H2 cenv fp (X.A.in1.in1.deeper cenv)) tg g ∧ PTs (gcx X s4 H2 cenv fp (X.A.in1.in1.deeper cenv)) ifs tt ∧ PE (gcx X s4 H2 cenv fp (X.A.in1.in1.deeper cenv)) elt te := by
    obtain ⟨cd, rfl⟩ := Z.env
    exact ⟨D.pg _ _ _ _ _ _ _, D.pt _ _ _ _ _ _ _ (room_gen hr _), D.pe _ _ _ _ _ _ _ (room_gen hr _)⟩
  have S := made_asleep (B := X.A.in1.in1) (cs := [a]) (CR := fun _ s => s.heap.IsGen a gn) Z D.calm D.co D.ok D.nocell D.nd hr.hd rfl pp.1 pp.2.1 pp.2.2 (fun b hb => by rw [List.mem_singleton.mp hb]; exact Z.young)
    (fun _ s s' hk h => gen_at h fun o e => hk a List.mem_cons_self o e) turn w0 (s := s5) ⟨rfl, b5, fun _ _ _ e => e⟩ rfl
  refine wpAny_pure ⟨plainId_quiet F.plain_all_loop _, codeAny_mono (all_loop Z hr m0 [] s5 I5.nolimit b5 Z.isgen S) fun r s' hx => ?_⟩
  obtain ⟨v, x, H', rfl, I', rv, q⟩ := hx
  exact ⟨x, H', I', rv, q⟩
end
end Gx
namespace Gx
open PySem PySem.Spec PyProof.Rows L2
/-! sum -/
abbrev sumObj (i : Int) (t : Tok) (c : Nat) : Obj := { cls := .type "list", dict := none, data := .seq #[.int i t] c, slots := #[] }
def CRsum (a gn S : Nat) (acc : List V) (s : Shared) : Prop := s.heap.IsGen a gn ∧ ∃ t c, s.heap.get? S = some (sumObj (isum acc) t c)
section
variable {X : Cx} {pins : List (Addr × Obj)} {σ : L2.St} {elt tg iter : Expr} {ifs : List Expr} {scope : Scope} {gpos : Pos} {J : It} {H2 : Hp} {a gn : Nat} {s4 s5 : Shared} {cenv : Env} {fp : List Addr} {it : Addr} {tn : Nat → Heap → Prop} {own : List (Str × Nat)}
  {g : TG} {tt : TT} {te : TE} {k : Nat} {c P : Addr} {Q : VK} {W : Nat → Nat → List V → Hp → Prop} {S : Nat}
theorem crsum_stable : Stable [a, S] (CRsum a gn S) := fun acc s s' hk h => by
  obtain ⟨h1, t, c, h2⟩ := h
  exact ⟨gen_at h1 fun o e => hk a List.mem_cons_self o e, t, c, hk S (List.mem_cons_of_mem _ List.mem_cons_self) _ h2⟩
theorem crsum_stood {acc : List V} {s : Shared} (h : CRsum a gn S acc s) : Stood [a, S] s := fun b hb => by
  obtain ⟨h1, t, c, h2⟩ := h
  rcases List.mem_cons.mp hb with z | z
  · rw [z]; exact gen_stood h1
  · rw [List.mem_singleton.mp z]; exact ⟨_, h2, fun v q => by cases q⟩
theorem sum_loop (Z : Made X pins σ elt tg iter ifs scope gpos J H2 a gn s4 s5 cenv fp it tn) (hr : Room (k + 3) X.A) {σw : L2.St} (haS : a ≠ S) : ∀ (n : Nat) (acc : List V) (s : Shared), s.heap.NoLimit → AllBare s.gens → CRsum a gn S acc s →
    Asleep (model X.prog X.w) X.A.in1.in1 (gcx X s4 H2 cenv fp (X.A.in1.in1.deeper cenv)) σw [a, S] (CRsum a gn S) (onSum Q) (finSum Q) gn n acc s →
    codeAny (model X.prog X.w) X.A (.builtin "sum.loop" ⟨[.ref a, .ref S, rawInt 0, rawInt 0], []⟩) (fun r s' => ∃ v x H', r = .ok (.ret v) ∧ Inv X pins σ H' s' ∧ RelV x v ∧ Q x H') s := by
  intro n
  induction n with
  | zero =>
    intro acc s hl hb hcr A0
    obtain ⟨hg, tA, cA, hS⟩ := _root_.id hcr
    refine codeAny_builtin F.entry_sum_loop ?_
    rw [Around.under_plainId F.plain_sum_loop _]
    show wpAny _ X.A.in1 (seqItems? (.ref S) >>= _) _ _ s
    refine wpAny_bind (wpAny_seqItems hS rfl ?_)
    show wpAny _ X.A.in1 (tryCatch (pyNext (.ref a)) _ >>= _) _ _ s
    refine wpAny_bind (wpAny_tryCatch (gx_next (A1 := X.A.in1) Z hr.hd (by have := hr.dp; show X.A.depth < _; omega) hl hg hb A0 (crsum_stood hcr) hcr (fun v y acc' H C s' rv I b' hk cr ho go => ?_) (fun acc' H s' I hk cr hf => ?_) crsum_stable))
    · obtain ⟨j, rfl, hj, hj2, hC⟩ := ho
      obtain ⟨hg', t', c', hS'⟩ := _root_.id cr
      have hup : ∀ b o, b ≠ S → s'.heap.get? b = some o → (s'.heap.update S (Obj.mapSeq fun _ => #[.int (isum acc' + j) s'.toks])).get? b = some o := fun b o hb e => (Heap.get?_update_other _ _ (Ne.symm hb)).trans e
      have hS2 := Heap.get?_update_self (Obj.mapSeq fun _ => #[.int (isum acc' + j) s'.toks]) hS' rfl
      have cr2 : CRsum a gn S (acc' ++ [.int j]) { s' with heap := s'.heap.update S (Obj.mapSeq fun _ => #[.int (isum acc' + j) s'.toks]), toks := s'.toks + 1 } := ⟨gen_at hg' fun o e => hup a o haS e, s'.toks, _, by rw [isum_app]; exact hS2⟩
      obtain ⟨z, _⟩ := go hC { s' with heap := s'.heap.update S (Obj.mapSeq fun _ => #[.int (isum acc' + j) s'.toks]), toks := s'.toks + 1 } (slept_keep b' fun b o hb e => hup b o (fun z => hb (by rw [z]; exact List.mem_cons_of_mem _ List.mem_cons_self)) e) rfl (crsum_stood cr2) cr2
      exact absurd z (Nat.lt_irrefl _)
    · obtain ⟨_, t', c', hS'⟩ := _root_.id cr
      have e := hk S (List.mem_cons_of_mem _ List.mem_cons_self) _ hS
      rw [hS'] at e
      have e2 : isum acc' = isum acc := by
        have e3 := congrArg (fun o => match o with | some ob => ob.data | none => .plain) e
        injection e3 with e4 _
        have e5 := congrArg (fun l => l.toList) e4
        injection e5 with e6 _
        injection e6
      refine wpAny_pure ⟨_, .int (isum acc), H, rfl, I, ⟨_, rfl⟩, ?_⟩
      rw [← e2]
      exact hf
  | succ n ih =>
    intro acc s hl hb hcr A0
    obtain ⟨hg, tA, cA, hS⟩ := _root_.id hcr
    refine codeAny_builtin F.entry_sum_loop ?_
    rw [Around.under_plainId F.plain_sum_loop _]
    show wpAny _ X.A.in1 (seqItems? (.ref S) >>= _) _ _ s
    refine wpAny_bind (wpAny_seqItems hS rfl ?_)
    show wpAny _ X.A.in1 (tryCatch (pyNext (.ref a)) _ >>= _) _ _ s
    refine wpAny_bind (wpAny_tryCatch (gx_next (A1 := X.A.in1) Z hr.hd (by have := hr.dp; show X.A.depth < _; omega) hl hg hb A0 (crsum_stood hcr) hcr (fun v y acc' H C s' rv I b' hk cr ho go => ?_) (fun acc' H s' I hk cr hf => ?_) crsum_stable))
    · obtain ⟨j, rfl, hj, hj2, hC⟩ := ho
      obtain ⟨t, rfl⟩ : ∃ t, v = Value.int j t := rv
      obtain ⟨hg', t', c', hS'⟩ := _root_.id cr
      have e := hk S (List.mem_cons_of_mem _ List.mem_cons_self) _ hS
      have e2 : isum acc' = isum acc := by
        rw [hS'] at e
        have e3 := congrArg (fun o => match o with | some ob => ob.data | none => .plain) e
        injection e3 with e4 _
        have e5 := congrArg (fun l => l.toList) e4
        injection e5 with e6 _
        injection e6
      rw [e2] at hj2 hS'
      have hup : ∀ b o, b ≠ S → s'.heap.get? b = some o → (s'.heap.update S (Obj.mapSeq fun _ => #[.int (isum acc + j) s'.toks])).get? b = some o := fun b o hb e => (Heap.get?_update_other _ _ (Ne.symm hb)).trans e
      have hS2 := Heap.get?_update_self (Obj.mapSeq fun _ => #[.int (isum acc + j) s'.toks]) hS' rfl
      have hcc : ((decide (-(2 ^ 63) ≤ j) && decide (j < 2 ^ 63)) && (decide (-(2 ^ 63) ≤ isum acc + j) && decide (isum acc + j < 2 ^ 63))) = true := by
        simp only [Bool.and_eq_true, decide_eq_true_eq]
        exact ⟨hj, hj2⟩
      show wpAny _ X.A.in1 (if (_ : Bool) = true then (mkInt (isum acc + j) >>= _) else _) _ _ _
      split
      · refine wpAny_bind (wpAny_mkInt ?_)
        show wpAny _ X.A.in1 (updateSeq S (fun _ => #[.int (isum acc + j) s'.toks]) >>= _) _ _ _
        refine wpAny_bind ?_
        have cr2 : ∀ tk, CRsum a gn S (acc' ++ [.int j]) { s' with heap := s'.heap.update S (Obj.mapSeq fun _ => #[.int (isum acc + j) s'.toks]), toks := tk } := fun tk => ⟨gen_at hg' fun o e => hup a o haS e, s'.toks, _, by rw [isum_app, e2]; exact hS2⟩
        have sl : ∀ tk, Slept [a, S] s' { s' with heap := s'.heap.update S (Obj.mapSeq fun _ => #[.int (isum acc + j) s'.toks]), toks := tk } := fun tk => slept_keep b' fun b o hb e => hup b o (fun z => hb (by rw [z]; exact List.mem_cons_of_mem _ List.mem_cons_self)) e
        refine wpAny_updateSeq hS' rfl (wpAny_pure ⟨plainId_quiet F.plain_sum_loop _, ?_⟩)
        have A1 := (go hC _ (sl (s'.toks + 1)) rfl (crsum_stood (cr2 _)) (cr2 _)).2
        have lim : s'.heap.NoLimit := I.nolimit
        refine ih _ _ ?_ b' (cr2 _) A1
        obtain ⟨mc, hns, hnn⟩ := lim
        refine ⟨mc, hns.at' fun o e => hup _ o (fun z => ?_) e, hnn⟩
        obtain ⟨o2, _, _, e3, d3, _⟩ := hns
        rw [z, hS'] at e3
        cases e3
        cases d3
      · rename_i hneg
        exact absurd hcc hneg
    · obtain ⟨_, t', c', hS'⟩ := _root_.id cr
      have e := hk S (List.mem_cons_of_mem _ List.mem_cons_self) _ hS
      rw [hS'] at e
      have e2 : isum acc' = isum acc := by
        have e3 := congrArg (fun o => match o with | some ob => ob.data | none => .plain) e
        injection e3 with e4 _
        have e5 := congrArg (fun l => l.toList) e4
        injection e5 with e6 _
        injection e6
      refine wpAny_pure ⟨_, .int (isum acc), H, rfl, I, ⟨_, rfl⟩, ?_⟩
      rw [← e2]
      exact hf
theorem pe_sumG {p pos : Pos} {wi : TI} (hr : Room (k + 3) X.A) (hg : Gl X "sum") (hm : X.mg "sum" = none) (D : Parts X k c P elt tg ifs scope own g tt te) (hi : PI X tg iter wi) (hs : ∀ v, genFold iter X.env v = pure v := by intro _; rfl)
    (he : starEach [.GeneratorExp elt [⟨tg, iter, ifs, 0⟩] scope gpos] X.env = (false, eval (.GeneratorExp elt [⟨tg, iter, ifs, 0⟩] scope gpos) X.env) :: starEach [] X.env := by rfl) :
    PE X (.Call (.Name "sum" p) [.GeneratorExp elt [⟨tg, iter, ifs, 0⟩] scope gpos] [] pos) (tGx P wi g tt te (own.map (·.2)) onSum finSum) := by
  refine ⟨fun pins s σ H Q I h => ?_⟩
  refine wpAny_Call_Name_kw (ld_blt I hg hm boot_sum_ ?_)
  refine PyProof.Rows.callWith_builtin1 ?_ he (by rfl)
  rw [he]
  show wpAny _ _ (spliced ((false, eval (.GeneratorExp elt [⟨tg, iter, ifs, 0⟩] scope gpos) X.env) :: backTo pos (starEach [] X.env))) _ _ s
  refine Calls.spliced_cons (gx_eval hr D.tab D.code D.co D.ok D.nocell D.dot hi hs I h fun J H2 a gn s4 s5 cenv fp it tn Z hR => ?_)
  obtain ⟨W, ⟨m0, w0⟩, turn⟩ := hR
  obtain ⟨I5, b5⟩ := Z.inv5
  refine Calls.spliced_nil ?_
  refine call_function_tree F.kind_sum F.plain_sum F.entry_sum (F.args_sum1 _) ?_
  unfold Builtin.«sum»
  simp only [List.length_cons, List.length_nil]
  rw [if_neg (by decide)]
  refine wpAny_bind (wpAny_of_eq (show Builtin.Builtins.bindParams "sum" ["start"] 0 { } = pure [none] from rfl) ?_)
  refine wpAny_bind (wpAny_pyIter_gen Z.isgen ?_)
  refine wpAny_bind (wpAny_mkInt ?_)
  refine wpAny_bind (wpAny_pure ?_)
  simp only [List.forIn_cons, List.forIn_nil]
  refine wpAny_bind (wpAny_bind (wpAny_bind (wpAny_isInstance (T := "int") (b := false) (typeIs_int _ _ _) PySem.sub_int_str ?_)))
  simp only [Bool.false_eq_true, if_false]
  refine wpAny_pure (wpAny_bind (wpAny_bind (wpAny_isInstance (T := "int") (b := false) (typeIs_int _ _ _) PySem.sub_int_bytes ?_)))
  simp only [Bool.false_eq_true, if_false]
  refine wpAny_pure (wpAny_bind (wpAny_bind (wpAny_isInstance (T := "int") (b := false) (typeIs_int _ _ _) PySem.sub_int_bytearray ?_)))
  simp only [Bool.false_eq_true, if_false]
  refine wpAny_pure (wpAny_pure ?_)
  refine wpAny_bind (wpAny_newObj_type ?_)
  have pp : PG (gcx X s4 H2 cenv fp (X.A.in1.in1.deeper cenv)) tg g ∧ PTs (gcx X s4 H2 cenv fp (X.A.in1.in1.deeper cenv)) ifs tt ∧ PE (gcx X s4 H2 cenv fp (X.A.in1.in1.deeper cenv)) elt te := by
    obtain ⟨cd, rfl⟩ := Z.env
    exact ⟨D.pg _ _ _ _ _ _ _, D.pt _ _ _ _ _ _ _ (room_gen hr _), D.pe _ _ _ _ _ _ _ (room_gen hr _)⟩
  have hSa : s5.heap.objs.size = a + 1 := Z.size
  have hya := Z.young
  have ya : ∀ b ∈ [a, s5.heap.objs.size], s4.heap.objs.size < b := fun b hb => by
    rcases List.mem_cons.mp hb with z | z
    · rw [z]; exact hya
    · rw [List.mem_singleton.mp z]; exact Nat.lt_of_lt_of_le hya (by omega)
  have kp : ∀ (o' : Obj) b o, s5.heap.get? b = some o → (s5.heap.push o').get? b = some o := fun o' b o e => Heap.get?_push_of_some _ e
  refine wpAny_pure ⟨plainId_quiet F.plain_sum_loop _, codeAny_mono (sum_loop Z hr (S := s5.heap.objs.size) (by omega) m0 [] _ (I5.nolimit.push _) b5 ⟨gen_at Z.isgen fun o e => kp _ _ _ e, _, _, Heap.get?_push_size _ rfl⟩
    (made_asleep (B := X.A.in1.in1) (cs := [a, s5.heap.objs.size]) (CR := CRsum a gn s5.heap.objs.size) Z D.calm D.co D.ok D.nocell D.nd hr.hd rfl pp.1 pp.2.1 pp.2.2 ya crsum_stable turn w0 (slept_keep b5 fun b o _ e => kp _ b o e) rfl)) fun r s' hx => ?_⟩
  obtain ⟨v, x, H', rfl, I', rv, q⟩ := hx
  exact ⟨x, H', I', rv, q⟩
end
end Gx
namespace Gx
open PySem PySem.Spec PyProof.Rows L2
/-! sep.join(..) -/
abbrev lsObj (xs : Array Value) (c : Nat) : Obj := { cls := .type "list", dict := none, data := .seq xs c, slots := #[] }
def CRlst (a gn S : Nat) (acc : List V) (s : Shared) : Prop := s.heap.IsGen a gn ∧ ∃ xs c, Vals acc xs.toList ∧ s.heap.get? S = some (lsObj xs c)
section
variable {X : Cx} {pins : List (Addr × Obj)} {σ : L2.St} {elt tg iter : Expr} {ifs : List Expr} {scope : Scope} {gpos : Pos} {J : It} {H2 : Hp} {a gn : Nat} {s4 s5 : Shared} {cenv : Env} {fp : List Addr} {it : Addr} {tn : Nat → Heap → Prop} {own : List (Str × Nat)}
  {g : TG} {tt : TT} {te : TE} {k : Nat} {c P : Addr} {Q : VK} {W : Nat → Nat → List V → Hp → Prop} {S : Nat} {sep : Str}
theorem crlst_stable : Stable [a, S] (CRlst a gn S) := fun acc s s' hk h => by
  obtain ⟨h1, xs, c, hv, h2⟩ := h
  exact ⟨gen_at h1 fun o e => hk a List.mem_cons_self o e, xs, c, hv, hk S (List.mem_cons_of_mem _ List.mem_cons_self) _ h2⟩
theorem crlst_stood {acc : List V} {s : Shared} (h : CRlst a gn S acc s) : Stood [a, S] s := fun b hb => by
  obtain ⟨h1, xs, c, _, h2⟩ := h
  rcases List.mem_cons.mp hb with z | z
  · rw [z]; exact gen_stood h1
  · rw [List.mem_singleton.mp z]; exact ⟨_, h2, fun v q => by cases q⟩
theorem ext_loop (Z : Made X pins σ elt tg iter ifs scope gpos J H2 a gn s4 s5 cenv fp it tn) (hr : Room (k + 4) X.A) {σw : L2.St} (haS : a ≠ S) : ∀ (n : Nat) (acc : List V) (s : Shared), s.heap.NoLimit → AllBare s.gens → CRlst a gn S acc s →
    Asleep (model X.prog X.w) X.A.in1.in1.in1 (gcx X s4 H2 cenv fp (X.A.in1.in1.in1.deeper cenv)) σw [a, S] (CRlst a gn S) (onStr Q) (finStr sep Q) gn n acc s →
    codeAny (model X.prog X.w) X.A.in1 (.builtin "list.extend.loop" ⟨[.ref S, .ref a, .ref S], []⟩) (fun r s' => r = .ok (.ret (.ref S)) ∧ ∃ acc H xs c, Inv X pins σ H s' ∧ Vals acc xs.toList ∧ s'.heap.get? S = some (lsObj xs c) ∧ finStr sep Q acc H) s := by
  intro n
  induction n with
  | zero =>
    intro acc s hl hb hcr A0
    refine codeAny_builtin F.entry_extend_loop ?_
    rw [Around.under_plainId F.plain_extend_loop _]
    show wpAny _ X.A.in1.in1 (pyNext (.ref a) >>= _) _ _ s
    refine wpAny_bind (gx_next (A1 := X.A.in1.in1) Z hr.hd (by have := hr.dp; show X.A.depth < _; omega) hl hcr.1 hb A0 (crlst_stood hcr) hcr (fun v y acc' H C s' rv I b' hk cr ho go => ?_) (fun acc' H s' I hk cr hf => ?_) crlst_stable)
    · obtain ⟨⟨x, rfl⟩, hsz, hC⟩ := ho
      obtain ⟨hg', xs, c', hv, hS'⟩ := _root_.id cr
      have hup : ∀ b o, b ≠ S → s'.heap.get? b = some o → (s'.heap.update S (Obj.mapSeq (·.push v))).get? b = some o := fun b o hb e => (Heap.get?_update_other _ _ (Ne.symm hb)).trans e
      have hS2 := Heap.get?_update_self (Obj.mapSeq (·.push v)) hS' rfl
      have cr2 : CRlst a gn S (acc' ++ [.str x]) { s' with heap := s'.heap.update S (Obj.mapSeq (·.push v)), toks := s'.toks } := ⟨gen_at hg' fun o e => hup a o haS e, xs.push v, _, by rw [Array.toList_push]; exact hv.append (.cons rv .nil), hS2⟩
      obtain ⟨z, _⟩ := go hC { s' with heap := s'.heap.update S (Obj.mapSeq (·.push v)), toks := s'.toks } (slept_keep b' fun b o hb e => hup b o (fun z => hb (by rw [z]; exact List.mem_cons_of_mem _ List.mem_cons_self)) e) rfl (crlst_stood cr2) cr2
      exact absurd z (Nat.lt_irrefl _)
    · obtain ⟨_, xs, c', hv, hS'⟩ := cr
      exact wpAny_pure ⟨rfl, acc', H, xs, c', I, hv, hS', hf⟩
  | succ n ih =>
    intro acc s hl hb hcr A0
    refine codeAny_builtin F.entry_extend_loop ?_
    rw [Around.under_plainId F.plain_extend_loop _]
    show wpAny _ X.A.in1.in1 (pyNext (.ref a) >>= _) _ _ s
    refine wpAny_bind (gx_next (A1 := X.A.in1.in1) Z hr.hd (by have := hr.dp; show X.A.depth < _; omega) hl hcr.1 hb A0 (crlst_stood hcr) hcr (fun v y acc' H C s' rv I b' hk cr ho go => ?_) (fun acc' H s' I hk cr hf => ?_) crlst_stable)
    · obtain ⟨⟨x, rfl⟩, hsz, hC⟩ := ho
      obtain ⟨hg', xs, c', hv, hS'⟩ := _root_.id cr
      have hup : ∀ b o, b ≠ S → s'.heap.get? b = some o → (s'.heap.update S (Obj.mapSeq (·.push v))).get? b = some o := fun b o hb e => (Heap.get?_update_other _ _ (Ne.symm hb)).trans e
      have hS2 := Heap.get?_update_self (Obj.mapSeq (·.push v)) hS' rfl
      have hxl : xs.size = acc'.length := by
        have := hv.length
        rw [this, Array.length_toList]
      have cr2 : ∀ tk, CRlst a gn S (acc' ++ [.str x]) { s' with heap := s'.heap.update S (Obj.mapSeq (·.push v)), toks := tk } := fun tk => ⟨gen_at hg' fun o e => hup a o haS e, xs.push v, _, by rw [Array.toList_push]; exact hv.append (.cons rv .nil), hS2⟩
      have sl : ∀ tk, Slept [a, S] s' { s' with heap := s'.heap.update S (Obj.mapSeq (·.push v)), toks := tk } := fun tk => slept_keep b' fun b o hb e => hup b o (fun z => hb (by rw [z]; exact List.mem_cons_of_mem _ List.mem_cons_self)) e
      show wpAny _ X.A.in1.in1 (updateSeq S (·.push v) >>= _) _ _ _
      refine wpAny_bind ?_
      refine wpAny_updateSeq hS' rfl (wpAny_pure ⟨plainId_quiet F.plain_extend_loop _, ?_⟩) (by omega) (by show (xs.push v).size ≤ sizeLine + 1; rw [Array.size_push]; omega)
      refine ih _ _ ?_ b' (cr2 _) (go hC _ (sl _) rfl (crlst_stood (cr2 _)) (cr2 _)).2
      obtain ⟨mc, hns, hnn⟩ := I.nolimit
      refine ⟨mc, hns.at' fun o e => hup _ o (fun z => ?_) e, hnn⟩
      obtain ⟨o2, _, _, e3, d3, _⟩ := hns
      rw [z, hS'] at e3
      cases e3
      cases d3
    · obtain ⟨_, xs, c', hv, hS'⟩ := cr
      exact wpAny_pure ⟨rfl, acc', H, xs, c', I, hv, hS', hf⟩
theorem strs_of : ∀ {ws : List Str} {vs : List Value}, Vals (ws.map V.str) vs → ∃ l : List (Str × Tok), strValues l = vs ∧ l.map (·.1) = ws
  | [], _, .nil => ⟨[], rfl, rfl⟩
  | w :: r, _, .cons h t => by
    obtain ⟨u, rfl⟩ := (show ∃ u, _ = Value.str w u from h)
    obtain ⟨l, e1, e2⟩ := strs_of t
    exact ⟨(w, u) :: l, by rw [← e1]; rfl, by rw [← e2]; rfl⟩
/-- the reading of sep.join(..) -/
def tJoinGx (P : Addr) (to : TE) (wi : TI) (g : TG) (tt : TT) (te : TE) (vs : List Nat) : TE := fun σ H Q => to σ H fun v H0 => ∃ sep : Str, v = .str sep ∧ tGx P wi g tt te vs onStr (finStr sep) σ H0 Q
theorem pe_joinG {o : Expr} {apos cpos : Pos} {to : TE} {wi : TI} (hr : Room (k + 4) X.A) (ho : PE X o to) (D : Parts X k c P elt tg ifs scope own g tt te) (hi : PI X tg iter wi) (hs : ∀ v, genFold iter X.env v = pure v := by intro _; rfl)
    (he : starEach [.GeneratorExp elt [⟨tg, iter, ifs, 0⟩] scope gpos] X.env = (false, eval (.GeneratorExp elt [⟨tg, iter, ifs, 0⟩] scope gpos) X.env) :: starEach [] X.env := by rfl)
    (hbase : attributeBase o "join" X.env (eval o X.env) = eval o X.env := by rfl) (hline : (apos.endLine == cpos.line) = true := by rfl)
    (hfew : ((backTo cpos (starEach [.GeneratorExp elt [⟨tg, iter, ifs, 0⟩] scope gpos] X.env)).all (fun x => !x.1) && (backToKw cpos (keywordEach [] X.env)).all (fun x => x.1.isSome) && decide (([.GeneratorExp elt [⟨tg, iter, ifs, 0⟩] scope gpos] : List Expr).length + ([] : List Keyword).length + (if ([] : List Keyword).isEmpty then 0 else 1) < 30)) = true := by rfl)
    (hplain : (backTo cpos (starEach [] X.env)).any (·.1) = false := by rfl) :
    PE X (.Call (.Attribute o "join" apos) [.GeneratorExp elt [⟨tg, iter, ifs, 0⟩] scope gpos] [] cpos) (tJoinGx P to wi g tt te (own.map (·.2))) := by
  refine ⟨fun pins s σ H Q I h => ?_⟩
  refine wpAny_Call_method_late hbase hfew hline rfl (thn (ho.run pins s σ H _ I h) fun v s1 hv1 => ?_)
  obtain ⟨_, H1, I1, r1, sep, rfl, q1⟩ := hv1
  obtain ⟨tk, rfl⟩ := (show ∃ t, v = Value.str sep t from r1)
  refine ⟨"str", _, PySem.F.plainAttrs_str, PySem.F.slot_str_join, PySem.F.type_str_join, typeIs_str _ _ _, (fun _ e => nomatch e), ?_⟩
  rw [he]
  refine Calls.callWith_builtin (by show (false || (backTo cpos (starEach [] X.env)).any (·.1)) = false; rw [hplain] <;> rfl) (Calls.evalArgs_plain ?_)
  show wpAny _ _ (spliced ((false, eval (.GeneratorExp elt [⟨tg, iter, ifs, 0⟩] scope gpos) X.env) :: backTo cpos (starEach [] X.env))) _ _ s1
  refine Calls.spliced_cons (gx_eval hr D.tab D.code D.co D.ok D.nocell D.dot hi hs I1 q1 fun J H2 a gn s4 s5 cenv fp it tn Z hR => ?_)
  obtain ⟨W, ⟨m0, w0⟩, turn⟩ := hR
  obtain ⟨I5, b5⟩ := Z.inv5
  refine Calls.spliced_nil ?_
  refine wpAny_call (codeAny_call_builtin F.slot_str_join.plain F.entry_str_join (F.slot_str_join.check _ _ _ _ _ _ _ _ (typeIs_str _ _ _) (F.args_str_join_2 _ _) ?_))
  show wpAny _ X.A.in1 (Builtin.«str.join» ⟨[.str sep tk, .ref a], []⟩) _ _ s5
  rw [join_tree_other]
  refine wpAny_bind (wpAny_typeOf Z.isgen.typeIs ?_)
  show wpAny _ X.A.in1 ((pyIter (.ref a)).tryCatch _ >>= fun it => collect it >>= fun items => joinTail sep items) _ _ s5
  refine wpAny_bind (wpAny_tryCatch (wpAny_pyIter_gen Z.isgen ?_))
  have hSa : s5.heap.objs.size = a + 1 := Z.size
  have hya := Z.young
  have hSI : s5.heap.objs.size ≠ a := by omega
  have pp : PG (gcx X s4 H2 cenv fp (X.A.in1.in1.in1.deeper cenv)) tg g ∧ PTs (gcx X s4 H2 cenv fp (X.A.in1.in1.in1.deeper cenv)) ifs tt ∧ PE (gcx X s4 H2 cenv fp (X.A.in1.in1.in1.deeper cenv)) elt te := by
    obtain ⟨cd, rfl⟩ := Z.env
    exact ⟨D.pg _ _ _ _ _ _ _, D.pt _ _ _ _ _ _ _ (room_gen hr.in1 _), D.pe _ _ _ _ _ _ _ (room_gen hr.in1 _)⟩
  unfold collect
  refine wpAny_bind (wpAny_bind (wpAny_runValue (codeAny_builtin F.entry_proto_collect ?_)))
  rw [Around.under_plainId F.plain_proto_collect _]
  show wpAny _ X.A.in1.in1 (newList [] >>= fun l => again (.builtin "list.__iadd__" ⟨[l, .ref a], []⟩)) _ _ s5
  refine wpAny_bind (wpAny_newObj_type ?_)
  refine wpAny_pure ⟨plainId_quiet F.plain_list_iadd _, codeAny_builtin F.entry_list_iadd ?_⟩
  rw [Around.under_plainId F.plain_list_iadd _]
  have g1 : (s5.heap.push { cls := .type "list", data := .seq ([] : List Value).toArray }).IsGen a gn := Z.isgen.push _
  show wpAny _ X.A.in1.in1 (Builtin.List.listExtendWith (.ref s5.heap.objs.size) (.ref a) (.ref s5.heap.objs.size)) _ _ _
  unfold Builtin.List.listExtendWith
  refine wpAny_bind (wpAny_typeOf (Heap.IsGen.typeIs (s := { s5 with heap := s5.heap.push { cls := .type "list", data := .seq ([] : List Value).toArray } }) g1) ?_)
  have h1 : Builtin.List.listSameRef (.ref s5.heap.objs.size) (.ref a) = false := by simp [Builtin.List.listSameRef, hSI]
  have h2 : (Value.type "generator" == Value.type "list") = false := by decide
  have h3 : (Value.type "generator" == Value.type "tuple") = false := by decide
  simp only [h1, h2, h3, Bool.or_false, Bool.false_eq_true, if_false]
  refine wpAny_bind (wpAny_pyIter_gen g1 ?_)
  refine wpAny_bind (wpAny_holding ?_)
  unfold Builtin.List.listLengthHint
  refine wpAny_bind (wpAny_specialOf (Heap.IsGen.typeIs (s := { s5 with heap := s5.heap.push { cls := .type "list", data := .seq ([] : List Value).toArray } }) g1) F.gen_no_len ?_)
  show wpAny _ X.A.in1.in1 (specialOf (Value.ref a) (Str.ofString "__length_hint__") >>= _) _ _ _
  refine wpAny_bind (wpAny_specialOf (Heap.IsGen.typeIs (s := { s5 with heap := s5.heap.push { cls := .type "list", data := .seq ([] : List Value).toArray } }) g1) F.gen_no_hint ?_)
  refine wpAny_pure ?_
  show wpAny _ X.A.in1.in1 (rule "list.extend.makes-room" >>= fun _ => Builtin.List.listTouch (.ref s5.heap.objs.size) >>= fun _ => again (.builtin "list.extend.loop" ⟨[.ref s5.heap.objs.size, .ref a, .ref s5.heap.objs.size], []⟩)) _ _ _
  refine wpAny_bind (wpAny_rule ?_)
  have k1 : (s5.heap.push { cls := .type "list", data := .seq ([] : List Value).toArray }).get? s5.heap.objs.size = some { cls := .type "list", data := .seq ([] : List Value).toArray } := Heap.get?_push_size _ rfl
  refine wpAny_bind ?_
  show wpAny _ X.A.in1.in1 (updateSeq s5.heap.objs.size (·.push .none) >>= fun _ => updateSeq s5.heap.objs.size (·.pop)) _ _ _
  refine wpAny_bind (wpAny_updateSeq k1 rfl ?_)
  have k2 := Heap.get?_update_self (Obj.mapSeq (·.push Value.none)) k1 rfl
  refine wpAny_updateSeq k2 rfl ?_
  have k3 := Heap.get?_update_self (Obj.mapSeq (·.pop)) k2 rfl
  have oth : ∀ b o, b ≠ s5.heap.objs.size → s5.heap.get? b = some o →
      (((s5.heap.push { cls := .type "list", data := .seq ([] : List Value).toArray }).update s5.heap.objs.size (Obj.mapSeq (·.push Value.none))).update s5.heap.objs.size (Obj.mapSeq (·.pop))).get? b = some o :=
    fun b o hb e => (Heap.get?_update_other _ _ (Ne.symm hb)).trans ((Heap.get?_update_other _ _ (Ne.symm hb)).trans (Heap.get?_push_of_some _ e))
  have ya : ∀ b ∈ [a, s5.heap.objs.size], s4.heap.objs.size < b := fun b hb => by
    rcases List.mem_cons.mp hb with z | z
    · rw [z]; exact hya
    · rw [List.mem_singleton.mp z]; exact Nat.lt_of_lt_of_le hya (by omega)
  refine wpAny_pure ⟨plainId_quiet F.plain_extend_loop _, codeAny_mono (ext_loop (S := s5.heap.objs.size) (sep := sep) Z hr (Ne.symm hSI) m0 [] _ ?_ b5 ⟨gen_at Z.isgen fun o e => oth a o (Ne.symm hSI) e, _, _, .nil, k3⟩
    (made_asleep (B := X.A.in1.in1.in1) (cs := [a, s5.heap.objs.size]) (CR := CRlst a gn s5.heap.objs.size) Z D.calm D.co D.ok D.nocell D.nd hr.hd rfl pp.1 pp.2.1 pp.2.2 ya crlst_stable turn w0 (slept_keep b5 fun b o hb e => oth b o (fun z => hb (by rw [z]; exact List.mem_cons_of_mem _ List.mem_cons_self)) e) rfl)) fun r s' hx => ?_⟩
  · obtain ⟨mc, hns, hnn⟩ := I5.nolimit
    exact ⟨mc, hns.at' fun o e => oth _ o (Nat.ne_of_lt (Heap.lt_size e)) e, hnn⟩
  · obtain ⟨rfl, acc, H, xs, c', I', hv, hS', ws, rfl, hok, q⟩ := hx
    show wpAny _ X.A.in1 (load s5.heap.objs.size >>= _) _ _ s'
    refine wpAny_bind (wpAny_load hS' ?_)
    obtain ⟨l, e1, e2⟩ := strs_of hv
    refine wpAny_pure ?_
    show wpAny _ X.A.in1 (joinTail sep xs.toList) _ _ s'
    rw [← e1]
    rw [← e2] at hok q
    unfold JoinOk at hok
    rw [Bool.not_eq_true'] at hok
    have gv : Gives (joinTail sep (strValues l)) (joinMade sep l) := by
      have g0 := gives_joinTail sep l hok
      cases l with
      | nil => exact g0
      | cons p r => cases r with
        | nil => exact g0
        | cons q r' => exact g0
    exact gv X.prog X.w X.A (wants _ _) s' (post_join l ⟨joinFit_length hok, fun t' kk => ⟨.str _, H, I'.tok kk, ⟨t', rfl⟩, q⟩⟩)
end
end Gx
namespace Gx
open PySem PySem.Spec PyProof.Rows L2
/-! zip of two texts -/
def Itzs (x y : Str) : It :=
  ⟨fun i _ => i < min x.cps.size y.cps.size, fun i H v H' => ∃ T c d, v = .ref T ∧ H T = none ∧ H' = upd H T (.tup [.str ⟨#[c]⟩, .str ⟨#[d]⟩]) ∧ x.cps[i]? = some c ∧ y.cps[i]? = some d, fun i _ => i = min x.cps.size y.cps.size⟩
theorem turn_zips {P : Program} {w : World} {K : PySem.W.Frag} {elts : List Expr} {kk : Nat} {tpos : Pos} (N : Nat) (x y : Str) (t u : Tok) :
    Turn P w K (.Tuple elts kk tpos) (Itzs x y) ((N + 4) :: (N + 2) :: (N + 3) :: ([N] ++ [N + 1])) (N + 4)
      (fun i h => IsZip h (N + 4) (N + 2) (N + 3) .none ∧ IsTupOf2 h (N + 2) (.ref N) (.ref (N + 1)) ∧ (∃ a1 a2, IsTupOf2 h (N + 3) a1 a2) ∧ h.IsStrIter N (strIterType x) x t i ∧ h.IsStrIter (N + 1) (strIterType y) y u i) := by
  have go : ∀ (A : Around), A.handled = none → GoesN P w A (.Tuple elts kk tpos) (N + 4) ((N + 4) :: (N + 2) :: (N + 3) :: ([N] ++ [N + 1])) [N + 4, N + 3, N, N + 1] (min x.cps.size y.cps.size) _ _ := fun A hA =>
    GoesN.zip2 (zip_sep2 (N := N) (fp1 := []) (fp2 := []) (fun b hb => absurd hb (by simp)) (fun b hb => absurd hb (by simp))) (Draws.text (A := A.in1) hA N x t) (Draws.text (A := A.in1) hA (N + 1) y u)
  exact {
    mem := List.mem_cons_self
    obj := fun i h st c hc => by
      obtain ⟨hz, hTI, ⟨a1, a2, hTO⟩, ⟨o1, e1, _, d1⟩, ⟨o2, e2, _, d2⟩⟩ := st
      have e' : c = N + 4 ∨ c = N + 2 ∨ c = N + 3 ∨ c = N ∨ c = N + 1 := by simpa using hc
      rcases e' with q | q | q | q | q
      · rw [q]; exact ⟨_, hz, fun v q => nomatch q⟩
      · rw [q]; exact ⟨_, hTI, fun v q => nomatch q⟩
      · rw [q]; exact ⟨_, hTO, fun v q => nomatch q⟩
      · rw [q]; exact ⟨o1, e1, fun v q => by rw [d1] at q; cases q⟩
      · rw [q]; exact ⟨o2, e2, fun v q => by rw [d2] at q; cases q⟩
    keep := fun i h h' st k => by
      obtain ⟨hz, hTI, ⟨a1, a2, hTO⟩, ⟨o1, e1, r1⟩, ⟨o2, e2, r2⟩⟩ := st
      exact ⟨k _ (by simp) _ hz, k _ (by simp) _ hTI, ⟨a1, a2, k _ (by simp) _ hTO⟩, ⟨o1, k _ (by simp) _ e1, r1⟩, ⟨o2, k _ (by simp) _ e2, r2⟩⟩
    item := by
      intro X hP hw hK hc i pins s σ H E I hf st hg
      subst hP hw hK
      refine (go X.A (I.ok.hd hc)).goes i s (fun v s2 => ∃ x' H', Inv X pins σ H' s2 ∧ RelV x' v ∧ (Itzs x y).yld i H x' H' ∧ _ ∧ ∀ b ∈ ((N + 4) :: (N + 2) :: (N + 3) :: ([N] ++ [N + 1])), H' b = none) E hg st fun v h' tk hY st' hk htk => ?_
      obtain ⟨T, p, q, rfl, hT, ⟨c, u1, hc1, rfl⟩, ⟨d, u2, hd1, rfl⟩, hTt⟩ := hY
      have nT : H T = none := I.hok.fresh hT
      have new : ObjOk X.prog X.w (upd H T (.tup [.str ⟨#[c]⟩, .str ⟨#[d]⟩])) h' T (.tup [.str ⟨#[c]⟩, .str ⟨#[d]⟩]) := ⟨by show 2 ≤ sizeLine; decide, [_, _], .cons ⟨u1, rfl⟩ (.cons ⟨u2, rfl⟩ .nil), hTt⟩
      have lt : ∀ b ∈ ((N + 4) :: (N + 2) :: (N + 3) :: ([N] ++ [N + 1])), b < s.heap.objs.size := fun b hb => by
        obtain ⟨hz, hTI, ⟨a1, a2, hTO⟩, ⟨o1, e1, _⟩, ⟨o2, e2, _⟩⟩ := st
        have e' : b = N + 4 ∨ b = N + 2 ∨ b = N + 3 ∨ b = N ∨ b = N + 1 := by simpa using hb
        rcases e' with q | q | q | q | q
        · rw [q]; exact Heap.lt_size hz
        · rw [q]; exact Heap.lt_size hTI
        · rw [q]; exact Heap.lt_size hTO
        · rw [q]; exact Heap.lt_size e1
        · rw [q]; exact Heap.lt_size e2
      refine ⟨.ref T, _, I.turnedNew (t' := tk) (ch := ((N + 4) :: (N + 2) :: (N + 3) :: ([N] ++ [N + 1]))) (fun b o hb e => hk b o (fun z => hb ?_) e) hf hT new, rfl, ⟨T, c, d, rfl, nT, rfl, hc1, hd1⟩, st', fun b hb => ?_⟩
      · have e' : b = N + 4 ∨ b = N + 3 ∨ b = N ∨ b = N + 1 := by simpa using z
        rcases e' with q | q | q | q <;> rw [q] <;> simp
      · rw [upd_ne (Nat.ne_of_lt (Nat.lt_of_lt_of_le (lt b hb) hT))]
        exact (hf b hb).1
    done := by
      intro X hP hw hK hc i pins s σ H E I hf st hg
      subst hP hw hK
      have hi : i = min x.cps.size y.cps.size := hg
      subst hi
      refine (go X.A (I.ok.hd hc)).stops s (fun s1 => Inv X pins σ H s1) E st fun h' tk hk _ => ?_
      exact I.turnedL (t' := tk) (ch := ((N + 4) :: (N + 2) :: (N + 3) :: ([N] ++ [N + 1]))) (fun b o hb e => hk b o (fun z => hb (by
        have e' : b = N + 4 ∨ b = N + 3 ∨ b = N ∨ b = N + 1 := by simpa using z
        rcases e' with q | q | q | q <;> rw [q] <;> simp)) e) hf
    self := fun A i s Q E st h => wpAny_pyIter_zip st.1 h }
def iZips (ta : TA) : TI := fun σ H R => ta σ H fun vs H1 => ∃ x y, vs = [.str x, .str y] ∧ R (Itzs x y) H1
theorem pi_zips {X : Cx} {e e2 : Expr} {ta : TA} {p pos tpos : Pos} {elts : List Expr} {kk : Nat} (hg : Gl X "zip") (hm : X.mg "zip" = none) (ha : PA X [e, e2] ta)
    (hs : starEach [e, e2] X.env = (false, eval e X.env) :: starEach [e2] X.env := by rfl) (hpl : (backTo pos (starEach [e2] X.env)).any (·.1) = false := by rfl) :
    PI X (.Tuple elts kk tpos) (.Call (.Name "zip" p) [e, e2] [] pos) (iZips ta) := by
  refine ⟨fun pins s σ H R I h => ?_⟩
  refine Call_ (ld_blt I hg hm PyProof.Rows.boot_zip (PyProof.Rows.callWith_type1 (thn (ha.run pos pins s σ H _ I h) fun us s1 h1 => ?_) hs hpl))
  obtain ⟨vs, H1, I1, r1, x, y, rfl, q⟩ := h1
  cases r1 with
  | cons r rr =>
    cases rr with
    | cons r' rr =>
      cases rr
      obtain ⟨t, rfl⟩ := r
      obtain ⟨u, rfl⟩ := r'
      refine zip_begins2 (begins_text x t) (begins_text y u) trivial trivial fun h' hz hTI hTO g1 g2 hsz hk => wpAny_pyIter_zip hz ?_
      have I2 : Inv X pins σ H1 { s1 with heap := h' } := I1.kept (t' := s1.toks) hk
      refine ⟨s1.heap.objs.size + 4, _, _, _, H1, rfl, I2, turn_zips s1.heap.objs.size x y t u, ⟨hz, hTI, ⟨_, _, hTO⟩, ⟨_, g1, rfl, rfl⟩, ⟨_, g2, rfl, rfl⟩⟩, fun c hcm => ?_, q⟩
      have e' : c = s1.heap.objs.size + 4 ∨ c = s1.heap.objs.size + 2 ∨ c = s1.heap.objs.size + 3 ∨ c = s1.heap.objs.size ∨ c = s1.heap.objs.size + 1 := by simpa using hcm
      have hle : s1.heap.objs.size ≤ c := by
        rcases e' with z | z | z | z | z <;> rw [z]
        · exact Nat.le_add_right _ _
        · exact Nat.le_add_right _ _
        · exact Nat.le_add_right _ _
        · exact Nat.le_refl _
        · exact Nat.le_add_right _ _
      exact I1.fpOk hle (I1.hok.fresh hle)
end Gx
namespace Wa
open PySem PySem.Spec PyProof.Rows L2
/-! what stood stands; tables of code may have grown -/
structure Gr (H H' : Hp) : Prop where
  keep : ∀ b o, H b = some o → (∀ ps, o ≠ .tbl ps) → H' b = some o
  tab : ∀ b, GxR.TabG H b → GxR.TabG H' b
  there : ∀ b o, H b = some o → ∃ o', H' b = some o'
theorem Gr.refl (H : Hp) : Gr H H := ⟨fun _ _ e _ => e, fun _ h => h, fun _ o e => ⟨o, e⟩⟩
theorem Gr.of {H H' : Hp} (s : Same H H') : Gr H H' := ⟨fun b o e _ => s b o e, fun b h => by
  obtain ⟨ps, e, t⟩ := h
  exact ⟨ps, s _ _ e, t⟩, fun b o e => ⟨o, s b o e⟩⟩
theorem Gr.trans {H H1 H2 : Hp} (a : Gr H H1) (b : Gr H1 H2) : Gr H H2 := ⟨fun c o e n => b.keep c o (a.keep c o e n) n, fun c h => b.tab c (a.tab c h), fun c o e => by
  obtain ⟨o1, e1⟩ := a.there c o e
  exact b.there c o1 e1⟩
theorem Gr.tabbed {P : Addr} {H H' : Hp} (h : GxR.TabG H P) (t : GxR.Tabbed P H H') : Gr H H' where
  keep := fun b o e n => by
    by_cases hb : b = P
    · obtain ⟨ps, e2, _⟩ := h
      rw [hb, e2] at e
      cases e
      exact absurd rfl (n ps)
    · rw [t.2 b hb]
      exact e
  tab := fun b h2 => by
    by_cases hb : b = P
    · rw [hb]; exact t.1
    · obtain ⟨ps, e, q⟩ := h2
      exact ⟨ps, by rw [t.2 b hb]; exact e, q⟩
  there := fun b o e => by
    by_cases hb : b = P
    · obtain ⟨ps, e2, _⟩ := t.1
      exact ⟨_, by rw [hb]; exact e2⟩
    · exact ⟨o, by rw [t.2 b hb]; exact e⟩
theorem Gr.new {H H' : Hp} (g : Gr H H') {p : Addr} {o : HO} (n : H' p = none) : Gr H (upd H' p o) := g.trans (Gr.of (same_upd n))
theorem Gr.free {H H' : Hp} (g : Gr H H') {l : Addr} (h : H' l = none) : H l = none := by
  cases q : H l with
  | none => rfl
  | some o =>
    obtain ⟨o', e⟩ := g.there l o q
    rw [e] at h
    cases h
theorem Gr.lst {H H' : Hp} (g : Gr H H') {a : Addr} {xs : List V} (h : H a = some (.lst xs)) : H' a = some (.lst xs) := g.keep _ _ h fun _ z => by cases z
theorem Gr.tup {H H' : Hp} (g : Gr H H') {a : Addr} {xs : List V} (h : H a = some (.tup xs)) : H' a = some (.tup xs) := g.keep _ _ h fun _ z => by cases z
theorem Gr.seq {K : PySem.W.Frag} {H H' : Hp} {a : Addr} {xs : List V} (g : Gr H H') (h : SqL K H a xs) : SqL K H' a xs := by
  rcases h with (h | ⟨o, h⟩) | h
  · exact .inl (.inl (g.lst h))
  · exact .inl (.inr ⟨o, g.keep _ _ h fun _ z => by cases z⟩)
  · exact .inr h
/-- a change at an address that was free at the start -/
theorem Gr.over {H H1 : Hp} {p : Addr} {o : HO} (g : Gr H H1) (h : H p = none) : Gr H (upd H1 p o) where
  keep := fun b u e n => by
    rw [upd_ne (ne_of_none e h)]
    exact g.keep b u e n
  tab := fun b hb => by
    obtain ⟨ps, e, q⟩ := g.tab b hb
    obtain ⟨ps0, e0, _⟩ := hb
    exact ⟨ps, by rw [upd_ne (ne_of_none e0 h)]; exact e, q⟩
  there := fun b u e => by
    rw [upd_ne (ne_of_none e h)]
    exact g.there b u e
/-- a def whose code is known -/
theorem okC {P : Program} {w : World} {K : PySem.W.Frag} {mg : Str → Option Value} {base : Heap} {x qual : Str} {st : Stmt} {f c : Addr} {fd : FuncData} {N ps : List Str} {k : Nat} {sp : Sp} (F : Fun K x qual st f fd) (hcd : fd.code = .ref c) (S : FnScope N ps (defScope st)) (len : ∀ vs H Q E, sp vs H Q E → vs.length = ps.length)
    (hbody : ∀ (A : Around) (outer : List Env) (s : Shared) (H : Hp) (vs : List V) (Q : VK) (E : XK), Room k (A.deeper (envOfC qual (defScope st) s.heap.objs.size f (.ref c))) → sp vs H Q E →
      ∃ t, PSs (cxOf CX0 P w K mg base N qual (defScope st) f (.ref c) A outer s H E).nox (defBody st) t ∧ t { nx := fun _ H' => Q .non H', rt := Q } (start N vs) H) : FnOk P w K mg base CX0 (k + 1) f fd ps sp := by
  obtain ⟨oc, od, kV, doc, pm, an, cdv, ct, osl, rfl, lk, hco⟩ := F.ex
  have e : cdv = .ref c := hcd
  subst e
  refine fn_of lk hco S len fun A outer s H vs Q E hr hsp => ?_
  obtain ⟨t, h, q⟩ := hbody A outer s H vs Q E hr hsp
  exact ⟨t, h.nox, q⟩
/-- the tables of the text's defs, as the head leaves them -/
def TabsOf (q : Program) (mg : Str → Option Value) (h : Heap) : Prop := ∀ d ∈ recsOf q, ∃ a o fd c P, mg d.name = some (.ref a) ∧ h.get? a = some o ∧ o.data = .func fd ∧ fd.code = .ref c ∧ h.IsCode c P #[] ∧ h.TableAt c P #[]
theorem tab_at {q : Program} {K : PySem.W.Frag} {mg : Str → Option Value} {h : Heap} {x : Str} {f c P : Addr} {oc e : Value} {od dd : Option Addr} {fd : FuncData} {sl sl2 : Array (Option Value)} {vs : Array Value} (T : TabsOf q mg h) (hd : ((recsOf q).any fun r => r.name == x) = true) (KX : K.In h)
    (gm : mg x = some (.ref f)) (lk : K.lookup f = some ⟨oc, od, .func fd, sl⟩) (hc : fd.code = .ref c) (lc : K.lookup c = some ⟨e, dd, .fields vs, sl2⟩) (hv : vs[11]? = some (.ref P)) :
    h.get? P = some { cls := .none, data := .fields #[] } ∧ PySem.W.CodeHd h c P := by
  obtain ⟨d, hm, hn⟩ := List.any_eq_true.mp hd
  obtain ⟨a, o, fd', c', P', h1, h2, h3, h4, h5, h6⟩ := T d hm
  rw [beq_iff_eq.mp hn, gm] at h1
  cases h1
  rw [KX _ _ lk] at h2
  cases h2
  cases h3
  rw [hc] at h4
  cases h4
  obtain ⟨⟨ob, us, e1, _, e3, e4⟩, hP⟩ := _root_.id h6
  rw [KX _ _ lc] at e1
  cases e1
  cases e3
  rw [hv] at e4
  cases e4
  exact ⟨hP, .of h5 h6⟩
/-- the end of a law's row, with the tables of its defs -/
theorem walk_tabs {l : PySem.W.OpenLaw} {n k : Nat} {q : Program} {loose : List Str} {XP : (Str → Option Value) → Heap → Prop} {YP : World → Heap → Prop} {d : DefRec} {K : Params → PySem.W.Frag} {CX : World → CXT} {x : Str} (hn : l.most = some n) (hn2 : n ≤ sizeLine) (hdf : d.params.defaults = []) (hr : Room k callerA)
    (hY : ∀ (w : World) (h : Heap), YP w h → (K w.params).In h)
    (F : ∀ (w : World) (mg : Str → Option Value) (fa : Addr) (h : Heap), (K w.params).In h → h.Ns mainGlobals mg → mg d.name = some (.ref fa) → TabsOf q mg h → LamX.LawAtS l w (K w.params) (CX w) k n x mg fa h)
    (hCX : ∀ (w : World) (H : Hp) (s : Shared) (e : Value) (s' : Shared), CX w [] H s (fun _ _ _ => False) e s' → False) : PySem.W.WalkO q loose XP YP l.row.toRowW d [] (fun f vs => PySem.call f vs) := by
  refine Att.attach_callB hn hdf fun w s₀ s₁ mg mb fa o pm cd doc a vs ns G Y ho hd hcd hmg hobj hints hlen hbits hg => ?_
  have KX := hY w _ Y
  obtain ⟨fd, cs, sp, t1, t2, t3, hb, hsp, hF⟩ := F w mg fa _ KX G.T.g hmg G.T.tab
  exact LamX.law_callTs KX G.T.g G.T.b G.T.builtins G.T.nolimit hg t1 t2 t3 G.T.bmain hobj hints (Nat.le_trans hlen hn2) hr hF hb (fun H hH hS => hsp H a ns hlen hbits hH hS) fun H e s' => hCX w H s₁ e s'
end Wa
namespace Wa
open PySem PySem.Spec PyProof.Rows L2
/-! how often a sign stands in a text -/
theorem occ_count (x : Str) (c : Nat) : ∀ (l : List Nat) (st : Array Nat × Nat) (k : Nat), st.1.size ≤ k → (∀ i ∈ l, st.2 ≤ i) → l.Pairwise (· < ·) → k + l.length ≤ x.length + 1 →
    (forIn l st (StrLaws.occBody x ⟨#[c]⟩ x.length (x.length + 1))).run.fst.size = st.1.size + (l.filter fun i => decide (x.cps.toList[i]? = some c)).length
  | [], st, k, _, _, _, _ => rfl
  | a :: l, st, k, hk, hf, hp, hl => by
    rw [List.forIn_cons]
    have ha := hf a List.mem_cons_self
    have hp' := List.pairwise_cons.mp hp
    have hl' : k + (l.length + 1) ≤ x.length + 1 := hl
    by_cases hc : x.cps.toList[a]? = some c
    · obtain ⟨h1, h2⟩ := (StrLaws.subAt_one x c a).mpr hc
      have e : StrLaws.occBody x ⟨#[c]⟩ x.length (x.length + 1) a st = pure (ForInStep.yield (st.1.push a, a + (⟨#[c]⟩ : Str).length)) := by
        unfold StrLaws.occBody
        rw [if_pos ⟨⟨⟨by omega, ha⟩, h1⟩, h2⟩]
      rw [e]
      show (forIn l (st.1.push a, a + 1) (StrLaws.occBody x ⟨#[c]⟩ x.length (x.length + 1))).run.fst.size = _
      rw [occ_count x c l (st.1.push a, a + 1) (k + 1) (by show (st.1.push a).size ≤ k + 1; rw [Array.size_push]; omega) (fun i hi => hp'.1 i hi) hp'.2 (by omega)]
      show (st.1.push a).size + _ = _
      rw [Array.size_push, List.filter_cons_of_pos (by simp [hc]), List.length_cons]
      omega
    · have e : StrLaws.occBody x ⟨#[c]⟩ x.length (x.length + 1) a st = pure (ForInStep.yield (st.1, st.2)) := by
        unfold StrLaws.occBody
        rw [if_neg fun z => hc ((StrLaws.subAt_one x c a).mp ⟨z.1.2, z.2⟩)]
      rw [e]
      show (forIn l (st.1, st.2) (StrLaws.occBody x ⟨#[c]⟩ x.length (x.length + 1))).run.fst.size = _
      rw [occ_count x c l (st.1, st.2) k hk (fun i hi => hf i (List.mem_cons_of_mem _ hi)) hp'.2 (by omega)]
      rw [List.filter_cons_of_neg (by rw [decide_eq_false hc]; exact Bool.false_ne_true)]
theorem filter_at (c : Nat) : ∀ (l : List Nat), ((List.range l.length).filter fun i => decide (l[i]? = some c)).length = l.count c
  | [] => rfl
  | a :: l => by
    have ih := filter_at c l
    rw [List.length_cons, List.range_succ_eq_map, List.filter_cons, List.filter_map, List.count_cons]
    have e : ((fun i => decide ((a :: l)[i]? = some c)) ∘ Nat.succ) = fun i => decide (l[i]? = some c) := by
      funext i
      show decide ((a :: l)[i + 1]? = some c) = _
      rw [List.getElem?_cons_succ]
    rw [e]
    by_cases h : a = c
    · subst h
      rw [if_pos (by simp), List.length_cons, List.length_map, ih, if_pos (by simp)]
    · rw [if_neg (by simp [h]), List.length_map, ih, if_neg (by simp [h])]
      rfl
theorem count_sign (x : Str) (c : Nat) : Txt.count x ⟨#[c]⟩ = ((x.cps.toList.count c : Nat) : Int) := by
  show ((Builtin.Str.occurrences x ⟨#[c]⟩ 0 x.length (x.length + 1)).length : Int) = _
  rw [StrLaws.occ_eq, Array.length_toList]
  have hl : x.cps.toList.length = x.length := Array.length_toList
  rw [occ_count x c _ (#[], 0) 0 (Nat.le_refl _) (fun _ _ => Nat.zero_le _) (List.pairwise_lt_range' ..) (by rw [List.length_range']; omega)]
  have e : (List.range' 0 (x.length + 1 - 0)) = List.range (x.length + 1) := by rw [List.range_eq_range']; rfl
  rw [e, List.range_succ, List.filter_append, List.length_append, ← hl, filter_at]
  have e2 : x.cps.toList[x.cps.toList.length]? = none := List.getElem?_eq_none (Nat.le_refl _)
  rw [List.filter_cons_of_neg (by simp)]
  simp
/-! a text so many times -/
def repS (z : Str) (k : Nat) : Str := ⟨(List.replicate k z.cps).foldl (· ++ ·) #[]⟩
theorem foldl_cps (z : Array Nat) : ∀ (k : Nat) (b : Array Nat), ((List.replicate k z).foldl (· ++ ·) b).toList = b.toList ++ (List.replicate k z.toList).flatten
  | 0, b => by simp
  | k + 1, b => by
    rw [List.replicate_succ, List.foldl_cons, foldl_cps z k, List.replicate_succ, List.flatten_cons, Array.toList_append, List.append_assoc]
theorem repS_list (z : Str) (k : Nat) : (repS z k).cps.toList = (List.replicate k z.cps.toList).flatten := by
  show ((List.replicate k z.cps).foldl (· ++ ·) #[]).toList = _
  rw [foldl_cps]
  rfl
theorem repS_len (z : Str) (k : Nat) : (repS z k).length = k * z.length := by
  show (repS z k).cps.size = _
  rw [← Array.length_toList, repS_list, List.length_flatten, List.map_replicate, List.sum_replicate_nat, Array.length_toList]
  rfl
theorem op_repS {X : Cx} : OpR X (binaryOp .Mult) (fun x y H Q => ∃ (z : Str) (k : Nat), x = .str z ∧ y = .int k ∧ z.length ≤ 1000 ∧ k ≤ 1000 ∧ Q (.str (repS z k)) H) := by
  intro pins s σ H x y v u Q I rx ry h
  obtain ⟨z, k, rfl, rfl, h1, h2, q⟩ := h
  obtain ⟨t, rfl⟩ := rx
  obtain ⟨t', rfl⟩ := ry
  have hm : z.length * k ≤ 1000000 := Nat.le_trans (Nat.mul_le_mul h1 h2) (by decide)
  refine PySem.P.mul_str ?_ (fun h3 _ => ?_) (fun h3 _ => ?_) ?_
  · rw [decide_eq_false (by omega), decide_eq_false (by omega)]
    rfl
  · have e : (1000 : Int) ≤ (2 ^ 63 - 1) / (k : Int) := by
      refine Int.le_ediv_of_mul_le (by omega) ?_
      omega
    omega
  · rw [Int.toNat_natCast]
    show Builtin.Str.tooLong (z.length * k) = false
    unfold Builtin.Str.tooLong
    exact decide_eq_false (by
      have : z.length * k ≤ sizeLine := Nat.le_trans hm (by decide)
      omega)
  · by_cases c1 : (k : Int) < 1
    · have hk : k = 0 := by omega
      subst hk
      rw [if_pos c1]
      exact ⟨by decide, .str (repS z 0), H, I.tok _, ⟨_, rfl⟩, q⟩
    · rw [if_neg c1]
      by_cases c2 : ((k : Int) == 1 || z.length == 0) = true
      · rw [if_pos c2]
        have e : repS z k = z := by
          apply str_ext
          rw [repS_list]
          rcases Bool.or_eq_true_iff.mp c2 with c | c
          · have hk : k = 1 := by have := beq_iff_eq.mp c; omega
            subst hk
            simp
          · have hz : z.cps.toList = [] := List.eq_nil_of_length_eq_zero (by rw [Array.length_toList]; exact beq_iff_eq.mp c)
            rw [hz]
            simp
        rw [e] at q
        exact ⟨.str z, H, I, ⟨_, rfl⟩, q⟩
      · rw [if_neg c2]
        refine ⟨?_, .str (repS z k), H, I.tok _, ⟨_, rfl⟩, ?_⟩
        · rw [Int.toNat_natCast]
          show (repS z k).length ≤ sizeLine
          rw [repS_len, Nat.mul_comm]
          exact Nat.le_trans hm (by decide)
        · exact q
theorem rep_nought (k : Nat) : repS ("0" : Str) k = wd (List.replicate k 0) := by
  apply str_ext
  rw [repS_list, wd_list]
  have e : ("0" : Str).cps.toList = [48] := by decide +kernel
  rw [e]
  induction k with
  | zero => rfl
  | succ k ih => rw [List.replicate_succ, List.flatten_cons, ih, List.replicate_succ]; rfl
/-! the turns of a generator, counted -/
theorem turns_n {J : It} {g : TG} {tt : TT} {te : TE} {vs : List Nat} {σ : L2.St} {on : List V → V → Hp → Prop → Prop} {fin : List V → Hp → Prop} (n : Nat) (Pv : Nat → List V → Hp → Prop) {H0 : Hp} (h0 : Pv 0 [] H0)
    (hs : ∀ i acc H, i < n → Pv i acc H → J.go i H ∧ ∀ x H', J.yld i H x H' → g x (wipe σ vs) H' fun σ2 H2 => wipe σ2 vs = wipe σ vs ∧ tt σ2 H2 fun b H3 => if b = true then te σ2 H3 fun y H4 => on acc y H4 (Pv (i + 1) (acc ++ [y]) H4) else Pv (i + 1) acc H3)
    (hd : ∀ acc H, Pv n acc H → J.stop n H ∧ fin acc H) : ∃ W : Nat → Nat → List V → Hp → Prop, (∃ m, W 0 m [] H0) ∧ Gx.Turns J g tt te vs σ on fin W := by
  refine ⟨fun i m acc H => m = n - i ∧ i ≤ n ∧ Pv i acc H, ⟨n, by simp, Nat.zero_le _, h0⟩, ?_⟩
  rintro i m acc H ⟨rfl, hi, p⟩
  by_cases hlt : i < n
  · obtain ⟨g, t⟩ := hs i acc H hlt p
    exact .inr ⟨g, Pv (i + 1), fun acc' H' p' => ⟨n - (i + 1), by omega, rfl, hlt, p'⟩, t⟩
  · have e : i = n := by omega
    subst e
    exact .inl (hd acc H p)
end Wa
namespace Wa
open PySem PySem.Spec PyProof.Rows L2
/-- a def of the text, as callers use it -/
structure Df (K : PySem.W.Frag) (mg : Str → Option Value) (x : Str) (st : Stmt) (ps : List Str) (f : Addr) (fd : FuncData) : Prop where
  F : Fun K x x st f fd
  b : Binds K fd ps []
  g : mg x = some (.ref f)
theorem tri_nil : TriplesOk (#[] : Array Value).toList := by
  show TriplesOk []
  trivial
def spLaw (K : PySem.W.Frag) (Ps : List Addr) : Sp := fun vs H Q _ => ∃ (a : Addr) (ns : List Int), vs = [.ref a] ∧ SqL K H a (ns.map V.int) ∧ (∀ P ∈ Ps, GxR.TabG H P) ∧ ∀ H', Q (.bl true) H'
theorem iteTB {A B : Prop} {b : Bool} (e : b = true) (h : A) : if b = true then A else B := by
  rw [if_pos e]
  exact h
theorem iteFB {A B : Prop} {b : Bool} (e : b = false) (h : B) : if b = true then A else B := by
  rw [if_neg (by rw [e]; exact Bool.false_ne_true)]
  exact h
end Wa
namespace Wa
open PySem PySem.Spec PyProof.Rows L2
/-- a word of length n with q signs -/
def Wd (q n : Nat) (ds : List Nat) : Prop := ds.length = n ∧ ∀ d ∈ ds, d < q
theorem figs_of {q n : Nat} {ws : List (List Nat)} (hq : q ≤ 3) (h : ∀ w ∈ ws, Wd q n w) : Figs ws := fun w hw d hd => by
  have := (h w hw).2 d hd
  omega
/-- signs and lengths as the document bounds them -/
def QN (q n : Nat) : Prop := (q = 2 ∧ 1 ≤ n ∧ n ≤ 8) ∨ (q = 3 ∧ 1 ≤ n ∧ n ≤ 5)
theorem QN.le {q n : Nat} (h : QN q n) : q ≤ 3 ∧ n ≤ 8 := by
  rcases h with ⟨h1, h2, h3⟩ | ⟨h1, h2, h3⟩ <;> omega
end Wa
namespace Wa
open PySem PySem.Spec PyProof.Rows L2
/-! distances -/
def dist : List Nat → List Nat → Nat
  | x :: a, y :: b => (if x = y then 0 else 1) + dist a b
  | _, _ => 0
theorem dist_le : ∀ (a b : List Nat), dist a b ≤ a.length
  | [], _ => Nat.le_refl _
  | _ :: _, [] => Nat.zero_le _
  | x :: a, y :: b => by
    have := dist_le a b
    show (if x = y then 0 else 1) + dist a b ≤ a.length + 1
    split <;> omega
theorem dist_comm : ∀ (a b : List Nat), dist a b = dist b a
  | [], [] => rfl
  | [], _ :: _ => rfl
  | _ :: _, [] => rfl
  | x :: a, y :: b => by
    show (if x = y then 0 else 1) + dist a b = (if y = x then 0 else 1) + dist b a
    rw [dist_comm a b]
    by_cases e : x = y
    · rw [if_pos e, if_pos e.symm]
    · rw [if_neg e, if_neg fun z => e z.symm]
theorem dist_take : ∀ {a b : List Nat} {i x y : Nat}, a[i]? = some x → b[i]? = some y → dist (a.take (i + 1)) (b.take (i + 1)) = dist (a.take i) (b.take i) + (if x = y then 0 else 1)
  | [], _, _, _, _, h, _ => by simp at h
  | _ :: _, [], _, _, _, _, h => by simp at h
  | u :: a, v :: b, 0, x, y, h1, h2 => by
    cases h1
    cases h2
    show (if u = v then 0 else 1) + dist (a.take 0) (b.take 0) = 0 + _
    rw [List.take_zero, List.take_zero]
    show (if u = v then 0 else 1) + 0 = _
    omega
  | u :: a, v :: b, i + 1, x, y, h1, h2 => by
    have ih := dist_take (a := a) (b := b) (i := i) h1 h2
    show (if u = v then 0 else 1) + dist (a.take (i + 1)) (b.take (i + 1)) = (if u = v then 0 else 1) + dist (a.take i) (b.take i) + _
    rw [ih]
    omega
theorem sign_ne (c d : Nat) : decide ((V.str ⟨#[48 + c]⟩ : V) = V.str ⟨#[48 + d]⟩) = decide (c = d) := by
  by_cases e : c = d
  · rw [e, decide_eq_true rfl, decide_eq_true rfl]
  · rw [decide_eq_false e, decide_eq_false fun z => e (by
      injection z with z
      injection z with z
      have := congrArg (fun l => l.toList) z
      have h : [48 + c] = [48 + d] := this
      injection h with h _
      omega)]
end Wa
namespace Wa
open PySem PySem.Spec PyProof.Rows L2
/-! signs joined to words -/
theorem str_app_assoc (x y z : Str) : x ++ y ++ z = x ++ (y ++ z) := by
  apply str_ext
  rw [str_app, str_app, str_app, str_app, List.append_assoc]
theorem str_app_nil (x : Str) : x ++ ("" : Str) = x := by
  apply str_ext
  rw [str_app]
  have e : ("" : Str).cps.toList = [] := by decide +kernel
  rw [e, List.append_nil]
theorem join_signs : ∀ cs : List Nat, Txt.join ("" : Str) (cs.map fun c => wd [c]) = wd cs := by
  have h : ∀ cs : List Nat, Str.join ("" : Str) (cs.map fun c => wd [c]) = wd cs := by
    intro cs
    induction cs with
    | nil => exact (by decide +kernel : Str.join ("" : Str) [] = wd [])
    | cons c r ih =>
      cases r with
      | nil => rfl
      | cons d r' =>
        show wd [c] ++ ("" : Str) ++ Str.join ("" : Str) ((d :: r').map fun c => wd [c]) = _
        rw [ih, str_app_nil, wd_app]
        rfl
  intro cs
  show Builtin.Str.glued ("" : Str) _ = _
  rw [StrLaws.glued_eq_join]
  exact h cs
theorem joinOk_signs {cs : List Nat} (h : cs.length ≤ 1000) : JoinOk ("" : Str) (cs.map fun c => wd [c]) = true := by
  unfold JoinOk
  rw [StrLaws.joinTotal, Bool.not_eq_true']
  have e0 : ("" : Str).length = 0 := by decide +kernel
  have e1 : ((cs.map fun c => wd [c]).map (·.length)).sum = cs.length := by
    rw [List.map_map]
    have : ((fun x : Str => x.length) ∘ fun c => wd [c]) = fun _ => 1 := by
      funext c
      exact wd_len [c]
    rw [this, List.map_const', List.sum_replicate_nat]
    omega
  rw [e1, e0, Nat.mul_zero, Nat.add_zero]
  exact decide_eq_false (by
    have : sizeLine = 16777216 := by decide
    omega)
theorem int_fig {c : Nat} (h : c < 3) : PySem.intText? (⟨#[48 + c]⟩ : Str) = some ((c : Nat) : Int) := by
  match c, h with
  | 0, _ => decide +kernel
  | 1, _ => decide +kernel
  | 2, _ => decide +kernel
/-- the signs' texts of a list -/
theorem strs_snoc (cs : List Nat) (c : Nat) : (cs.map fun c => V.str (wd [c])) ++ [V.str (wd [c])] = (cs ++ [c]).map fun c => V.str (wd [c]) := by
  rw [List.map_append]
  rfl
def addW (q : Nat) (a b : List Nat) : List Nat := List.zipWith (fun x y => (x + y) % q) a b
def mulW (q t : Nat) (a : List Nat) : List Nat := a.map fun x => x * t % q
def addT (q t : Nat) (a b : List Nat) : List Nat := List.zipWith (fun x y => (x + t * y) % q) a b
theorem zip_take {α β γ : Type} {f : α → β → γ} : ∀ {a : List α} {b : List β} {i : Nat} {x : α} {y : β}, a[i]? = some x → b[i]? = some y → (List.zipWith f a b).take (i + 1) = (List.zipWith f a b).take i ++ [f x y] := fun {a b i x y} h1 h2 => by
  rw [List.take_add_one]
  have e : (List.zipWith f a b)[i]? = some (f x y) := by
    rw [List.getElem?_zipWith, h1, h2]
  rw [e]
  rfl
theorem addW_len {q : Nat} {a b : List Nat} (h : a.length = b.length) : (addW q a b).length = a.length := by
  unfold addW
  rw [List.length_zipWith]
  omega
theorem addT_len {q t : Nat} {a b : List Nat} (h : a.length = b.length) : (addT q t a b).length = a.length := by
  unfold addT
  rw [List.length_zipWith]
  omega
end Wa
namespace Wa
open PySem PySem.Spec PyProof.Rows L2
/-! words add up: the algebra -/
def zer (n : Nat) : List Nat := List.replicate n 0
theorem addW_comm (q : Nat) : ∀ a b : List Nat, addW q a b = addW q b a
  | [], [] => rfl
  | [], _ :: _ => rfl
  | _ :: _, [] => rfl
  | x :: a, y :: b => by
    have ih := addW_comm q a b
    show (x + y) % q :: addW q a b = (y + x) % q :: addW q b a
    rw [ih, Nat.add_comm]
theorem addW_assoc (q : Nat) : ∀ a b c : List Nat, addW q (addW q a b) c = addW q a (addW q b c)
  | [], _, _ => rfl
  | _ :: _, [], _ => rfl
  | _ :: _, _ :: _, [] => rfl
  | x :: a, y :: b, z :: c => by
    have ih := addW_assoc q a b c
    show ((x + y) % q + z) % q :: addW q (addW q a b) c = (x + (y + z) % q) % q :: addW q a (addW q b c)
    rw [ih, Nat.mod_add_mod, Nat.add_mod_mod, Nat.add_assoc]
theorem Wd.tail {q n x : Nat} {a : List Nat} (h : Wd q n (x :: a)) : Wd q (n - 1) a ∧ x < q := ⟨⟨by have := h.1; rw [List.length_cons] at this; omega, fun d hd => h.2 d (List.mem_cons_of_mem _ hd)⟩, h.2 x List.mem_cons_self⟩
theorem addW_zer {q : Nat} : ∀ {n : Nat} {a : List Nat}, Wd q n a → addW q a (zer n) = a
  | n, [], h => by cases n <;> rfl
  | 0, x :: a, h => by have := h.1; rw [List.length_cons] at this; omega
  | n + 1, x :: a, h => by
    have ⟨h1, h2⟩ := h.tail
    have ih := addW_zer (n := n) h1
    show (x + 0) % q :: addW q a (zer n) = x :: a
    rw [ih, Nat.add_zero, Nat.mod_eq_of_lt h2]
theorem addW_lt {q : Nat} (hq : 0 < q) : ∀ (a b : List Nat), ∀ d ∈ addW q a b, d < q
  | [], _, d, h => by cases h
  | _ :: _, [], d, h => by cases h
  | x :: a, y :: b, d, h => by
    have h : d ∈ (x + y) % q :: addW q a b := h
    rcases List.mem_cons.mp h with e | h
    · rw [e]; exact Nat.mod_lt _ hq
    · exact addW_lt hq a b d h
theorem addW_wd {q n : Nat} {a b : List Nat} (hq : 0 < q) (ha : Wd q n a) (hb : Wd q n b) : Wd q n (addW q a b) := ⟨by rw [addW_len (by rw [ha.1, hb.1]), ha.1], addW_lt hq a b⟩
theorem mulW_wd {q n t : Nat} {a : List Nat} (hq : 0 < q) (ha : Wd q n a) : Wd q n (mulW q t a) := ⟨by unfold mulW; rw [List.length_map]; exact ha.1, fun d hd => by
  obtain ⟨x, _, rfl⟩ := List.mem_map.mp hd
  exact Nat.mod_lt _ hq⟩
theorem zer_wd {q n : Nat} (hq : 0 < q) : Wd q n (zer n) := ⟨List.length_replicate, fun d hd => by rw [List.eq_of_mem_replicate hd]; exact hq⟩
theorem mulW_mul (q t u : Nat) : ∀ a : List Nat, addW q (mulW q t a) (mulW q u a) = mulW q ((t + u) % q) a
  | [] => rfl
  | x :: a => by
    have ih := mulW_mul q t u a
    show ((x * t % q) + (x * u % q)) % q :: addW q (mulW q t a) (mulW q u a) = x * ((t + u) % q) % q :: mulW q ((t + u) % q) a
    rw [ih, ← Nat.add_mod, ← Nat.mul_add, Nat.mul_mod_mod]
theorem mulW_zero (q : Nat) : ∀ a : List Nat, mulW q 0 a = zer a.length
  | [] => rfl
  | x :: a => by
    show x * 0 % q :: mulW q 0 a = 0 :: zer a.length
    rw [mulW_zero q a, Nat.mul_zero, Nat.zero_mod]
theorem mulW_one {q : Nat} : ∀ {n : Nat} {a : List Nat}, Wd q n a → mulW q 1 a = a
  | n, [], h => rfl
  | n, x :: a, h => by
    have ⟨h1, h2⟩ := h.tail
    show x * 1 % q :: mulW q 1 a = x :: a
    rw [mulW_one h1, Nat.mul_one, Nat.mod_eq_of_lt h2]
theorem addT_add (q t : Nat) : ∀ a b : List Nat, addT q t a b = addW q a (mulW q t b)
  | [], _ => rfl
  | _ :: _, [] => rfl
  | x :: a, y :: b => by
    show (x + t * y) % q :: addT q t a b = (x + (y * t % q)) % q :: addW q a (mulW q t b)
    rw [addT_add q t a b, Nat.add_mod_mod, Nat.mul_comm]
/-- what is added may be taken off -/
theorem addW_back {q n t : Nat} {a w : List Nat} (ht : t ≤ q) (ha : Wd q n a) (hw : Wd q n w) : addW q (addW q a (mulW q t w)) (mulW q (q - t) w) = a := by
  rw [addW_assoc, mulW_mul]
  have e : (t + (q - t)) % q = 0 := by rw [show t + (q - t) = q by omega, Nat.mod_self]
  rw [e, mulW_zero, hw.1, addW_zer ha]
theorem addW_cancel {q n t : Nat} {a b w : List Nat} (ht : t ≤ q) (ha : Wd q n a) (hb : Wd q n b) (hw : Wd q n w) (e : addW q a (mulW q t w) = addW q b (mulW q t w)) : a = b := by
  rw [← addW_back ht ha hw, e, addW_back ht hb hw]
theorem wd_snoc {q n : Nat} {w : List Nat} (h : Wd q (n + 1) w) : ∃ u s, w = u ++ [s] ∧ Wd q n u ∧ s < q := by
  have hne : w ≠ [] := fun z => by rw [z] at h; cases h.1
  refine ⟨w.dropLast, w.getLast hne, (List.dropLast_concat_getLast hne).symm, ⟨by rw [List.length_dropLast, h.1]; rfl, fun d hd => h.2 d ((List.dropLast_sublist w).subset hd)⟩, h.2 _ (List.getLast_mem hne)⟩
theorem allD_all {q : Nat} : ∀ {n : Nat} {w : List Nat}, Wd q n w → w ∈ allD q n
  | 0, w, h => by
    have e : w = [] := List.eq_nil_of_length_eq_zero h.1
    rw [e]
    exact List.mem_singleton.mpr rfl
  | n + 1, w, h => by
    obtain ⟨u, s, rfl, hu, hs⟩ := wd_snoc h
    exact List.mem_flatMap.mpr ⟨u, allD_all hu, List.mem_map.mpr ⟨s, List.mem_range.mpr hs, rfl⟩⟩
/-- a list of words that is closed -/
structure Sub (q n : Nat) (S : List (List Nat)) : Prop where
  wd : ∀ a ∈ S, Wd q n a
  nd : S.Nodup
  zero : zer n ∈ S
  add : ∀ a ∈ S, ∀ b ∈ S, addW q a b ∈ S
theorem mulW_succ {q n t : Nat} {a : List Nat} (hq : 2 ≤ q) (ha : Wd q n a) : mulW q ((t + 1) % q) a = addW q (mulW q t a) a := by
  have e : a = mulW q 1 a := (mulW_one ha).symm
  have h := mulW_mul q t 1 a
  rw [← e] at h
  exact h.symm
theorem mod_mul (q t : Nat) : ∀ (a : List Nat), mulW q (t % q) a = mulW q t a
  | [] => rfl
  | x :: a => by
    show x * (t % q) % q :: mulW q (t % q) a = x * t % q :: mulW q t a
    rw [mod_mul q t a, Nat.mul_mod_mod]
theorem Sub.mul {q n : Nat} {S : List (List Nat)} (h : Sub q n S) (hq : 2 ≤ q) {a : List Nat} (ha : a ∈ S) : ∀ t, mulW q t a ∈ S
  | 0 => by rw [mulW_zero, (h.wd a ha).1]; exact h.zero
  | t + 1 => by
    rw [← mod_mul, mulW_succ hq (h.wd a ha)]
    exact h.add _ (h.mul hq ha t) _ ha
/-- q is 2 or 3: some times of a word that is in it bring the word in -/
theorem Sub.unmul {q n : Nat} {S : List (List Nat)} (h : Sub q n S) (hq : q = 2 ∨ q = 3) {s : Nat} {w : List Nat} (hw : Wd q n w) (h0 : s % q ≠ 0) (hs : mulW q s w ∈ S) : w ∈ S := by
  have q2 : 2 ≤ q := by omega
  have twice : ∀ t, mulW q (s * t % q) w ∈ S := fun t => by
    induction t with
    | zero => rw [Nat.mul_zero, Nat.zero_mod, mulW_zero, hw.1]; exact h.zero
    | succ t ih =>
      have e : s * (t + 1) % q = ((s * t % q) + s) % q := by rw [Nat.mod_add_mod, Nat.mul_succ]
      rw [e, ← mulW_mul]
      exact h.add _ ih _ hs
  have key : ∃ t, s * t % q = 1 := by
    rcases hq with e | e
    · subst e
      refine ⟨1, ?_⟩
      omega
    · subst e
      rcases (show s % 3 = 1 ∨ s % 3 = 2 by omega) with e | e
      · exact ⟨1, by omega⟩
      · exact ⟨2, by omega⟩
  obtain ⟨t, ht⟩ := key
  have := twice t
  rw [ht, mulW_one hw] at this
  exact this
/-- the list with one word more, as the law makes it -/
def ext (q : Nat) (S : List (List Nat)) (w : List Nat) : List (List Nat) := (List.range q).flatMap fun t => S.map fun a => addW q a (mulW q t w)
theorem mem_ext {q : Nat} {S : List (List Nat)} {w x : List Nat} : x ∈ ext q S w ↔ ∃ t, t < q ∧ ∃ a ∈ S, addW q a (mulW q t w) = x := by
  unfold ext
  rw [List.mem_flatMap]
  constructor
  · rintro ⟨t, ht, hx⟩
    obtain ⟨a, ha, e⟩ := List.mem_map.mp hx
    exact ⟨t, List.mem_range.mp ht, a, ha, e⟩
  · rintro ⟨t, ht, a, ha, e⟩
    exact ⟨t, List.mem_range.mpr ht, List.mem_map.mpr ⟨a, ha, e⟩⟩
theorem ext_apart {q n : Nat} {S : List (List Nat)} (h : Sub q n S) (hq : q = 2 ∨ q = 3) {w : List Nat} (hw : Wd q n w) (hn : w ∉ S) {t u : Nat} (ht : t < q) (hu : u < q) {a b : List Nat} (ha : a ∈ S) (hb : b ∈ S) (e : addW q a (mulW q t w) = addW q b (mulW q u w)) : t = u := by
  refine Classical.byContradiction fun ne => hn ?_
  have q0 : 0 < q := by omega
  have q2 : 2 ≤ q := by omega
  -- a = b + s w
  have e1 : a = addW q b (mulW q ((u + (q - t)) % q) w) := by
    rw [← mulW_mul, ← addW_assoc, ← e, addW_back (by omega) (h.wd a ha) hw]
  have e2 : mulW q ((u + (q - t)) % q) w = addW q a (mulW q (q - 1) b) := by
    have hb' := h.wd b hb
    have hm : Wd q n (mulW q ((u + (q - t)) % q) w) := mulW_wd q0 hw
    have e3 := addW_back (q := q) (n := n) (t := 1) (w := b) (by omega) hm hb'
    rw [mulW_one hb'] at e3
    rw [addW_comm q b] at e1
    rw [← e1] at e3
    exact e3.symm
  refine h.unmul hq (s := (u + (q - t)) % q) hw ?_ ?_
  · rw [Nat.mod_mod]
    rcases Nat.lt_or_gt_of_ne ne with z | z
    · rw [Nat.mod_eq_sub_mod (by omega), Nat.mod_eq_of_lt (by omega)]
      omega
    · rw [Nat.mod_eq_of_lt (by omega)]
      omega
  · rw [e2]
    exact h.add _ ha _ (h.mul q2 hb _)
theorem nodup_map_in {α β : Type} {f : α → β} : ∀ {l : List α}, l.Nodup → (∀ a ∈ l, ∀ b ∈ l, f a = f b → a = b) → (l.map f).Nodup
  | [], _, _ => List.nodup_nil
  | x :: l, h, hi => by
    have h' := List.nodup_cons.mp h
    rw [List.map_cons, List.nodup_cons]
    refine ⟨fun hm => ?_, nodup_map_in h'.2 fun a ha b hb => hi a (List.mem_cons_of_mem _ ha) b (List.mem_cons_of_mem _ hb)⟩
    obtain ⟨y, hy, e⟩ := List.mem_map.mp hm
    have := hi y (List.mem_cons_of_mem _ hy) x List.mem_cons_self e
    rw [this] at hy
    exact h'.1 hy
theorem nodup_flat {α β : Type} {f : α → List β} : ∀ {l : List α}, l.Nodup → (∀ a ∈ l, (f a).Nodup) → (∀ a ∈ l, ∀ b ∈ l, ∀ x, x ∈ f a → x ∈ f b → a = b) → (l.flatMap f).Nodup
  | [], _, _, _ => List.nodup_nil
  | x :: l, h, h1, h2 => by
    have h' := List.nodup_cons.mp h
    rw [List.flatMap_cons, List.nodup_append]
    refine ⟨h1 x List.mem_cons_self, nodup_flat h'.2 (fun a ha => h1 a (List.mem_cons_of_mem _ ha)) fun a ha b hb => h2 a (List.mem_cons_of_mem _ ha) b (List.mem_cons_of_mem _ hb), fun y hy z hz e => ?_⟩
    obtain ⟨b, hb, hzb⟩ := List.mem_flatMap.mp hz
    have := h2 x List.mem_cons_self b (List.mem_cons_of_mem _ hb) y hy (by rw [e]; exact hzb)
    rw [this] at h'
    exact h'.1 hb
theorem ext_sub {q n : Nat} {S : List (List Nat)} (h : Sub q n S) (hq : q = 2 ∨ q = 3) {w : List Nat} (hw : Wd q n w) (hn : w ∉ S) : Sub q n (ext q S w) := by
  have q0 : 0 < q := by omega
  refine ⟨fun x hx => ?_, ?_, ?_, fun x hx y hy => ?_⟩
  · obtain ⟨t, ht, a, ha, rfl⟩ := mem_ext.mp hx
    exact addW_wd q0 (h.wd a ha) (mulW_wd q0 hw)
  · refine nodup_flat List.nodup_range (fun t ht => nodup_map_in h.nd fun a ha b hb e => addW_cancel (Nat.le_of_lt (List.mem_range.mp ht)) (h.wd a ha) (h.wd b hb) hw e) fun t ht u hu x hx hy => ?_
    obtain ⟨a, ha, e1⟩ := List.mem_map.mp hx
    obtain ⟨b, hb, e2⟩ := List.mem_map.mp hy
    exact ext_apart h hq hw hn (List.mem_range.mp ht) (List.mem_range.mp hu) ha hb (e1.trans e2.symm)
  · exact mem_ext.mpr ⟨0, q0, zer n, h.zero, by rw [mulW_zero, hw.1, addW_zer (zer_wd q0)]⟩
  · obtain ⟨t, ht, a, ha, rfl⟩ := mem_ext.mp hx
    obtain ⟨u, hu, b, hb, rfl⟩ := mem_ext.mp hy
    refine mem_ext.mpr ⟨(t + u) % q, Nat.mod_lt _ q0, addW q a b, h.add a ha b hb, ?_⟩
    rw [← mulW_mul, addW_assoc, addW_assoc, ← addW_assoc q b, addW_comm q b, addW_assoc q (mulW q t w)]
theorem ext_old {q n : Nat} {S : List (List Nat)} (h : Sub q n S) (hq : 0 < q) {w : List Nat} (hw : Wd q n w) : ∀ a ∈ S, a ∈ ext q S w := fun a ha => mem_ext.mpr ⟨0, hq, a, ha, by rw [mulW_zero, hw.1, addW_zer (h.wd a ha)]⟩
theorem ext_new {q n : Nat} {S : List (List Nat)} (h : Sub q n S) (hq : 2 ≤ q) {w : List Nat} (hw : Wd q n w) : w ∈ ext q S w := mem_ext.mpr ⟨1, by omega, zer n, h.zero, by rw [mulW_one hw, addW_comm, addW_zer hw]⟩
/-- one word more, where it is not in -/
def stp (q : Nat) (S : List (List Nat)) (w : List Nat) : List (List Nat) := if w ∈ S then S else ext q S w
/-- all sums of a row of words -/
def sums (q n : Nat) (ws : List (List Nat)) : List (List Nat) := ws.foldl (stp q) [zer n]
theorem sub_zero {q n : Nat} (hq : 0 < q) : Sub q n [zer n] := ⟨fun a ha => by rw [List.mem_singleton.mp ha]; exact zer_wd hq, List.nodup_cons.mpr ⟨by simp, List.nodup_nil⟩, List.mem_singleton.mpr rfl, fun a ha b hb => by
  rw [List.mem_singleton.mp ha, List.mem_singleton.mp hb, addW_zer (zer_wd hq)]
  exact List.mem_singleton.mpr rfl⟩
theorem stp_sub {q n : Nat} {S : List (List Nat)} (h : Sub q n S) (hq : q = 2 ∨ q = 3) {w : List Nat} (hw : Wd q n w) : Sub q n (stp q S w) := by
  unfold stp
  split
  · exact h
  · exact ext_sub h hq hw ‹_›
theorem fold_sub {q n : Nat} (hq : q = 2 ∨ q = 3) : ∀ {ws : List (List Nat)} {S : List (List Nat)}, Sub q n S → (∀ w ∈ ws, Wd q n w) → Sub q n (ws.foldl (stp q) S)
  | [], _, h, _ => h
  | w :: ws, S, h, hw => fold_sub hq (ws := ws) (stp_sub h hq (hw w List.mem_cons_self)) fun u hu => hw u (List.mem_cons_of_mem _ hu)
theorem sums_sub {q n : Nat} (hq : q = 2 ∨ q = 3) {ws : List (List Nat)} (hw : ∀ w ∈ ws, Wd q n w) : Sub q n (sums q n ws) := fold_sub hq (sub_zero (by omega)) hw
theorem stp_old {q n : Nat} {S : List (List Nat)} (h : Sub q n S) (hq : q = 2 ∨ q = 3) {w : List Nat} (hw : Wd q n w) : ∀ a ∈ S, a ∈ stp q S w := fun a ha => by
  unfold stp
  split
  · exact ha
  · exact ext_old h (by omega) hw a ha
theorem stp_new {q n : Nat} {S : List (List Nat)} (h : Sub q n S) (hq : q = 2 ∨ q = 3) {w : List Nat} (hw : Wd q n w) : w ∈ stp q S w := by
  unfold stp
  split
  · assumption
  · exact ext_new h (by omega) hw
theorem fold_old {q n : Nat} (hq : q = 2 ∨ q = 3) : ∀ {ws : List (List Nat)} {S : List (List Nat)}, Sub q n S → (∀ w ∈ ws, Wd q n w) → (∀ a ∈ S, a ∈ ws.foldl (stp q) S) ∧ ∀ w ∈ ws, w ∈ ws.foldl (stp q) S
  | [], _, _, _ => ⟨fun _ h => h, fun w h => absurd h (by simp)⟩
  | u :: ws, S, h, hw => by
    have hu := hw u List.mem_cons_self
    obtain ⟨h1, h2⟩ := fold_old hq (ws := ws) (stp_sub h hq hu) fun x hx => hw x (List.mem_cons_of_mem _ hx)
    refine ⟨fun a ha => h1 a (stp_old h hq hu a ha), fun w hm => ?_⟩
    rcases List.mem_cons.mp hm with e | hm
    · rw [e]; exact h1 u (stp_new h hq hu)
    · exact h2 w hm
/-- the least closed list: what holds the words holds their sums -/
theorem fold_least {q n : Nat} (hq : 2 ≤ q) {T : List (List Nat)} (hT : Sub q n T) : ∀ {ws : List (List Nat)} {S : List (List Nat)}, (∀ a ∈ S, a ∈ T) → (∀ w ∈ ws, w ∈ T) → ∀ a ∈ ws.foldl (stp q) S, a ∈ T
  | [], _, h, _ => h
  | w :: ws, S, h, hw => fold_least hq hT (ws := ws) (S := stp q S w) (fun a ha => by
      unfold stp at ha
      split at ha
      · exact h a ha
      · obtain ⟨t, _, b, hb, rfl⟩ := mem_ext.mp ha
        exact hT.add _ (h b hb) _ (hT.mul hq (hw w List.mem_cons_self) t)) fun u hu => hw u (List.mem_cons_of_mem _ hu)
theorem sums_mono {q n : Nat} (hq : q = 2 ∨ q = 3) {ws us : List (List Nat)} (hw : ∀ w ∈ ws, Wd q n w) (hu : ∀ w ∈ us, Wd q n w) (h : ∀ w ∈ us, w ∈ sums q n ws) : ∀ a ∈ sums q n us, a ∈ sums q n ws :=
  fold_least (by omega) (sums_sub hq hw) (fun a ha => by rw [List.mem_singleton.mp ha]; exact (sums_sub hq hw).zero) h
theorem sums_has {q n : Nat} (hq : q = 2 ∨ q = 3) {ws : List (List Nat)} (hw : ∀ w ∈ ws, Wd q n w) : ∀ w ∈ ws, w ∈ sums q n ws := (fold_old hq (sub_zero (by omega)) hw).2
theorem perm_of_same {α : Type} [DecidableEq α] {a b : List α} (ha : a.Nodup) (hb : b.Nodup) (h : ∀ x, x ∈ a ↔ x ∈ b) : a.Perm b := (List.perm_ext_iff_of_nodup ha hb).mpr h
/-- the order of the row does not matter -/
theorem sums_perm {q n : Nat} (hq : q = 2 ∨ q = 3) {ws us : List (List Nat)} (hw : ∀ w ∈ ws, Wd q n w) (h : ∀ w, w ∈ us ↔ w ∈ ws) : (sums q n us).Perm (sums q n ws) := by
  have hu : ∀ w ∈ us, Wd q n w := fun w hm => hw w ((h w).mp hm)
  refine perm_of_same (sums_sub hq hu).nd (sums_sub hq hw).nd fun x => ⟨sums_mono hq hw hu (fun w hm => sums_has hq hw w ((h w).mp hm)) x, sums_mono hq hu hw (fun w hm => sums_has hq hu w ((h w).mpr hm)) x⟩
/-- the list in the program's order -/
theorem ext_split {q n : Nat} {S : List (List Nat)} (h : ∀ a ∈ S, Wd q n a) {w : List Nat} (hw : Wd q n w) {k : Nat} (hq : q = k + 1) : ext q S w = S ++ ((List.range k).map fun t => mulW q (t + 1) w).flatMap fun m => S.map fun a => addW q a m := by
  unfold ext
  rw [hq, List.range_succ_eq_map, List.flatMap_cons]
  have e0 : (S.map fun a => addW (k + 1) a (mulW (k + 1) 0 w)) = S := by
    rw [mulW_zero, hw.1]
    have : ∀ l : List (List Nat), (∀ a ∈ l, Wd q n a) → l.map (fun a => addW (k + 1) a (zer n)) = l := by
      intro l
      induction l with
      | nil => intro _; rfl
      | cons a l ih =>
        intro hl
        rw [List.map_cons, ih fun x hx => hl x (List.mem_cons_of_mem _ hx), ← hq, addW_zer (hl a List.mem_cons_self)]
    exact this S h
  rw [e0, List.flatMap_map, List.flatMap_map]
theorem len_sub {α : Type} [DecidableEq α] : ∀ {a b : List α}, a.Nodup → (∀ x ∈ a, x ∈ b) → a.length ≤ b.length
  | [], _, _, _ => Nat.zero_le _
  | x :: a, b, h, hs => by
    have h' := List.nodup_cons.mp h
    have hx := hs x List.mem_cons_self
    have ih := len_sub (a := a) (b := b.erase x) h'.2 fun y hy => (List.mem_erase_of_ne fun e => h'.1 (by rw [← e]; exact hy)).mpr (hs y (List.mem_cons_of_mem _ hy))
    rw [List.length_erase_of_mem hx] at ih
    have := List.length_pos_of_mem hx
    rw [List.length_cons]
    omega
/-- how many -/
theorem Sub.len_le {q n : Nat} {S : List (List Nat)} (h : Sub q n S) : S.length ≤ q ^ n := by
  have h1 : ∀ a ∈ S, a ∈ allD q n := fun a ha => allD_all (h.wd a ha)
  rw [← allD_len]
  exact len_sub h.nd h1
end Wa
/-! numbers in bits as texts -/
namespace Wa
open PySem PySem.Spec PyProof.Rows L2 Builtin
theorem gives_after_typeNameOfCut {k0 : Nat} {v : Value} {T : String} {k : String → Sem Fin} {m : Made} (hT : ∀ s : Shared, s.TypeIs v T)
    (hn : (Value.type T == Value.type "builtin_function_or_method") = false) (g : ∀ n, Gives (k n) m) : Gives (do let n ← typeNameOfCut k0 v; k n) m := fun prog w A R s hq => by
  unfold typeNameOfCut shownTypeOf
  refine wpAny_bind (wpAny_bind (wpAny_bind (wpAny_typeOf (hT s) ?_)))
  simp only [hn, Bool.false_eq_true, if_false]
  refine wpAny_pure ?_
  show wpAny _ _ (pure _) _ _ s
  exact wpAny_pure (g _ prog w A R s hq)
/-- the bits of a number as a text -/
def bitsS (n : Nat) : Str := ⟨((Nat.toDigits 2 n).map Char.toNat).toArray⟩
theorem field_b {ds : List Nat} (h : ds ≠ []) : (⟨(List.replicate ((-1 : Int) - ((([] : List Nat).length : Int) + (([] : List Nat).length : Int) + (([] : List Nat).length : Int)) - ((if ds.isEmpty = true then [] else List.replicate ((0 : Int).toNat - ds.length) 48 ++ ds).length : Int)).toNat 32 ++ [] ++ [] ++ List.replicate 0 32 ++ (if ds.isEmpty = true then [] else List.replicate ((0 : Int).toNat - ds.length) 48 ++ ds) ++ [] ++ List.replicate 0 32).toArray⟩ : Str) = ⟨ds.toArray⟩ := by
  have e1 : ds.isEmpty = false := by cases ds with
    | nil => exact absurd rfl h
    | cons _ _ => rfl
  rw [e1]
  have e2 : (0 : Int).toNat - ds.length = 0 := by omega
  simp only [Bool.false_eq_true, if_false, e2, List.replicate_zero, List.nil_append, List.append_nil, List.length_nil]
  have e3 : ((-1 : Int) - (((0 : Nat) : Int) + ((0 : Nat) : Int) + ((0 : Nat) : Int)) - (ds.length : Int)).toNat = 0 := by omega
  rw [e3]
  rfl
theorem format_b_eq (n : Nat) (t u : Tok) : «int.__format__» ⟨[.int n t, .str ⟨#[98]⟩ u], []⟩ = (typeNameOf (.str ⟨#[98]⟩ u) >>= fun _ => typeNameOfCut 200 (.int n t) >>= fun _ =>
    retStr ⟨(List.replicate ((-1 : Int) - ((([] : List Nat).length : Int) + (([] : List Nat).length : Int) + (([] : List Nat).length : Int)) - ((if ((Nat.toDigits 2 n).map Char.toNat).isEmpty = true then [] else List.replicate ((0 : Int).toNat - ((Nat.toDigits 2 n).map Char.toNat).length) 48 ++ ((Nat.toDigits 2 n).map Char.toNat)).length : Int)).toNat 32 ++ [] ++ [] ++ List.replicate 0 32 ++ (if ((Nat.toDigits 2 n).map Char.toNat).isEmpty = true then [] else List.replicate ((0 : Int).toNat - ((Nat.toDigits 2 n).map Char.toNat).length) 48 ++ ((Nat.toDigits 2 n).map Char.toNat)) ++ [] ++ List.replicate 0 32).toArray⟩) := by
  kernel_rfl
theorem toDigits_ne (n : Nat) : (Nat.toDigits 2 n).map Char.toNat ≠ [] := fun h => by
  have h1 := List.map_eq_nil_iff.mp h
  have h2 := Nat.length_toDigits_pos (b := 2) (n := n)
  rw [h1] at h2
  exact absurd h2 (by decide)
theorem gives_format_b (n : Nat) (t u : Tok) : Gives («int.__format__» ⟨[.int n t, .str ("b" : Str) u], []⟩) (.str (bitsS n)) := by
  have eb : ("b" : Str) = ⟨#[98]⟩ := by decide +kernel
  rw [eb, format_b_eq]
  refine gives_after_typeNameOf (T := "str") (fun s => typeIs_str s _ _) (by decide) fun _ => ?_
  refine gives_after_typeNameOfCut (T := "int") (fun s => typeIs_int s _ _) (by decide) fun name => ?_
  rw [field_b (toDigits_ne n)]
  exact .of_eq rfl
section
variable {X : Cx}
/-- {x:b} -/
def tFmtB (te : TE) : TE := fun σ H Q => te σ H fun x H1 => ∃ n : Nat, x = .int n ∧ (bitsS n).length ≤ sizeLine ∧ Q (.str (bitsS n)) H1
theorem pe_fmtB {e : Expr} {te : TE} {k : Nat} {p p2 pos : Pos} (he : PE X e te) : PE X (.FormattedValue e (-1) (some (.JoinedStr [.Constant (.str ("b" : Str)) k p] p2)) pos) (tFmtB te) := by
  refine ⟨fun pins s σ H Q I h => ?_⟩
  refine wpAny_FormattedValue_spec (thn (he.run pins s σ H _ I h) fun v s1 hv => ?_)
  obtain ⟨x, H1, I1, r1, n, rfl, hz, q⟩ := hv
  obtain ⟨t, rfl⟩ := r1
  refine thn ((pe_joined1 pe_str).run pins s1 σ H1 (fun y H2 => y = .str ("b" : Str) ∧ H2 = H1) I1 ⟨rfl, rfl⟩) fun v2 s2 hv2 => ?_
  obtain ⟨y, H2, I2, r2, rfl, rfl⟩ := hv2
  obtain ⟨t2, rfl⟩ := r2
  refine ⟨_, t2, rfl, ?_⟩
  exact wpAny_formatField_spec (T := "int") (by decide +kernel) (fun s' => typeIs_int s' _ _) F.slot_int_format F.entry_int_format (fun a b => F.args_int_format_2 a b) (fun u => gives_format_b n t u) ⟨.str (bitsS n), H2, I2.tok _, ⟨_, rfl⟩, q⟩ (by decide +kernel) hz
end
end Wa
/-! min of a list of numbers, or None -/
namespace Wa
open PySem PySem.Spec PyProof.Rows L2
theorem minOf_least (x : Int) : ∀ xs : List Int, PySem.W.minOf x xs ∈ x :: xs ∧ ∀ y ∈ x :: xs, PySem.W.minOf x xs ≤ y := by
  intro xs
  unfold PySem.W.minOf
  induction xs generalizing x with
  | nil => exact ⟨List.mem_cons_self, fun y hy => by rw [List.mem_singleton.mp hy]; exact Int.le_refl _⟩
  | cons z zs ih =>
    rw [List.foldl_cons]
    by_cases h : PySem.W.DatumOrd.lt z x = true
    · rw [if_pos h]
      have hl : z < x := of_decide_eq_true h
      obtain ⟨i1, i2⟩ := ih z
      refine ⟨List.mem_cons_of_mem _ i1, fun y hy => ?_⟩
      rcases List.mem_cons.mp hy with e | e
      · have := i2 z List.mem_cons_self
        omega
      · exact i2 y e
    · rw [if_neg h]
      have hl : ¬ z < x := fun q => h (decide_eq_true q)
      obtain ⟨i1, i2⟩ := ih x
      refine ⟨?_, fun y hy => ?_⟩
      · rcases List.mem_cons.mp i1 with e | e
        · rw [e]; exact List.mem_cons_self
        · exact List.mem_cons_of_mem _ (List.mem_cons_of_mem _ e)
      · have hx := i2 x List.mem_cons_self
        rcases List.mem_cons.mp hy with e | e
        · rw [e]; exact hx
        · rcases List.mem_cons.mp e with e | e
          · rw [e]; omega
          · exact i2 y (List.mem_cons_of_mem _ e)
section
variable {X : Cx}
def tMinD (K : PySem.W.Frag) (ta : TA) : TE := fun σ H Q => ta σ H fun vs H1 => ∃ (a : Addr) (ns : List Int), vs = [.ref a] ∧ SqL K H1 a (ns.map V.int) ∧ (ns = [] → Q .non H1) ∧ (ns ≠ [] → ∀ m ∈ ns, (∀ y ∈ ns, m ≤ y) → Q (.int m) H1)
/-- min(xs, default=None) -/
theorem pe_minD {e : Expr} {ta : TA} {p p2 kp pos : Pos} {k : Nat} (hc : X.calm = true) (hu : X.A.units + 64 < cLine) (hg : Gl X "min") (hm : X.mg "min" = none) (ha : PA X [e] ta)
    (he : backTo pos (starEach [e] X.env) = (false, eval e X.env) :: backTo pos (starEach [] X.env) := by rfl) :
    PE X (.Call (.Name "min" p) [e] [⟨some ("default" : Str), .Constant .none k p2, kp⟩] pos) (tMinD X.K ta) := by
  refine ⟨fun pins s σ H Q I h => ?_⟩
  refine wpAny_Call_Name_kw (ld_blt I hg hm (u := .builtin "min") (by first | rfl | decide +kernel) ?_ (by first | decide +kernel | decide) (by first | decide +kernel | decide))
  refine PyProof.Rows.callWith_kw (thn (ha.run pos pins s σ H _ I h) fun us s1 ⟨vs, H1, I1, r, a, ns, ev, hs, q0, q1⟩ => ?_) he (by rw [he]; rfl)
  subst ev
  rw [Vals.ref1 r]
  refine thn ((pk_cons (nm := some ("default" : Str)) (kpos := kp) pe_non pk_nil).run pos pins s1 σ H1 (fun zs H2 => zs = [.non] ∧ H2 = H1) I1 ⟨rfl, rfl⟩) fun ws s2 ⟨zs, H2, I2, rz, ez, eh⟩ => ?_
  subst ez
  subst eh
  have ews : ws = [Value.none] := by
    cases rz with
    | cons r t =>
      cases t
      cases r
      rfl
  subst ews
  obtain ⟨its, rv, hl, _⟩ := I2.list hs
  show wpAny _ _ (call (.builtin "min") [.ref a] [(("default" : Str), .none)]) _ _ s2
  refine PySem.W.min_list_datum_default (xs := ns) (I2.ok.hd hc) hl.isList (PySem.W.HoldAll.of_ints rv.ints) (show X.A.units + 1 + 0 < cLine by omega) (fun e h' tk hk => ?_) fun y ys i v h' tk e hi hv hk => ?_
  · exact ⟨.non, H2, I2.kept hk, rfl, q0 e⟩
  · obtain ⟨as, hv⟩ := hv
    obtain ⟨l1, l2⟩ := minOf_least y ys
    obtain ⟨t, rfl⟩ : ∃ t, v = Value.int (PySem.W.minOf y ys) t := by
      cases hv
      exact ⟨_, rfl⟩
    exact ⟨.int (PySem.W.minOf y ys), H2, I2.kept hk, ⟨t, rfl⟩, q1 (by rw [e]; exact fun z => by cases z) _ (by rw [e]; exact l1) (by rw [e]; exact l2)⟩
end
end Wa
namespace Wa
open PySem PySem.Spec PyProof.Rows L2
/-! sorted of texts, any number of them -/
def tv : Value → Str
  | .str x _ => x
  | _ => ⟨#[]⟩
def ltTv (v u : Value) : Bool := decide ((tv v).cps.toList < (tv u).cps.toList)
theorem lex_asymm {a b : List Nat} (h : a < b) : ¬ b < a := fun h' => List.lt_irrefl a (List.lt_trans h h')
theorem swo_text : SrtO.Swo ltTv := by
  refine ⟨fun x y h => decide_eq_false (lex_asymm (of_decide_eq_true h)), fun x y z h1 h2 => ?_⟩
  have a := of_decide_eq_false h1
  have b := of_decide_eq_false h2
  refine decide_eq_false fun hc => ?_
  exact absurd hc (List.not_lt.mpr (List.le_trans (List.not_lt.mp a) (List.not_lt.mp b)))
theorem texts_mem : ∀ {vs : List Value} {ss : List Str}, StrsAre vs ss → ∀ v ∈ vs, ∃ x t, v = Value.str x t
  | _, _, .nil, v, h => absurd h (by simp)
  | _, _, .cons n t r, v, h => by
    rcases List.mem_cons.mp h with e | h
    · exact ⟨n, t, e⟩
    · exact texts_mem r v h
theorem texts_tv : ∀ {vs : List Value}, (∀ v ∈ vs, ∃ x t, v = Value.str x t) → StrsAre vs (vs.map tv)
  | [], _ => .nil
  | v :: vs, h => by
    obtain ⟨x, t, e⟩ := h v List.mem_cons_self
    subst e
    exact .cons x t (texts_tv fun u hu => h u (List.mem_cons_of_mem _ hu))
theorem tv_texts : ∀ {vs : List Value} {ss : List Str}, StrsAre vs ss → vs.map tv = ss
  | _, _, .nil => rfl
  | _, _, .cons n t r => congrArg (n :: ·) (tv_texts r)
section
variable {prog : Program} {w : World} {A : Around} {s : Shared}
theorem text_cmp {vs : List Value} {ss : List Str} (hI : StrsAre vs ss) : SrtO.Cmp prog w A s oneType' (fun p => p.1 ∈ vs) (SrtO.lt2 ltTv) := by
  intro p q hm hm'
  obtain ⟨a, t, e⟩ := texts_mem hI _ hm
  obtain ⟨b, u, e'⟩ := texts_mem hI _ hm'
  show wpAny (model prog w) A (keyLt' oneType' p.1 q.1) (fun r s' => s' = s ∧ r = ltTv p.1 q.1) (fun _ _ => False) s
  rw [e, e', keyLt'_oneType]
  exact oneLt_str ⟨rfl, rfl⟩
theorem texts_sortable {a : Addr} {vs : List Value} {ss : List Str} (hI : StrsAre vs ss) (h2 : 2 ≤ vs.length) : SrtO.SortableO prog w A s a vs ltTv := by
  intro h' _
  refine ⟨oneType', fun Q E hq => ?_, text_cmp hI⟩
  match vs, hI, h2 with
  | v1 :: v2 :: rest, hI, _ =>
    rw [keyKind_strs hI]
    exact wpAny_pure hq
  | [], _, h => exact absurd h (by decide)
  | [v], _, h => exact absurd h (by simp)
end
/-- rising, by the signs' codes -/
def Rising (ys : List Str) : Prop := ys.Pairwise fun a b => ¬ b.cps.toList < a.cps.toList
def rSortedT (K : PySem.W.Frag) : List V → Hp → VK → Prop := fun vs H Q => ∃ (a : Addr) (xs : List Str), vs = [V.ref a] ∧ SqL K H a (xs.map V.str) ∧ ∀ (ys : List Str) (p : Addr), ys.Perm xs → Rising ys → H p = none → Q (.ref p) (upd H p (.lst (ys.map V.str)))
theorem cr_sortedT {X : Cx} : CallR X (.builtin "sorted") (rSortedT X.K) := by
  intro pins s σ H vs us Q I r h
  obtain ⟨a, xs, rfl, hs, q⟩ := h
  obtain ⟨its, rv, hl, hz⟩ := I.list hs
  rw [Vals.ref1 r]
  have hi := rv.strs
  refine SrtO.sorted_ord swo_text hl.isList (by rw [← rv.length]; exact hz) (fun h2 h₁ a' _ _ => texts_sortable hi h2) fun out h1 h2 => ?_
  have k1 : StrsAre out (out.map tv) := texts_tv fun v hv => texts_mem hi v (h2.perm.mem_iff.mp hv)
  have k2 : (out.map tv).Perm xs := by
    have q := h2.perm.map tv
    rw [tv_texts hi] at q
    exact q
  have k3 : Rising (out.map tv) := List.pairwise_map.mpr (h1.imp fun {x y} h => of_decide_eq_false h)
  obtain ⟨ep, he'⟩ := PyProof.Rows.sortedAll_at s.heap its out.toArray
  have hlen : ((out.map tv).map V.str).length ≤ sizeLine := by
    rw [List.length_map, k2.length_eq]
    rw [List.length_map] at hz
    exact hz
  exact ⟨.ref _, upd H (s.heap.objs.size + 1) (.lst ((out.map tv).map V.str)), I.laid (t' := s.toks) (fun _ _ => PyProof.Rows.sortedAll_old) (Nat.le_succ _) ⟨hlen, out, ep, vals_of_strs k1, he'⟩, rfl, q _ _ k2 k3 (I.hok.fresh (Nat.le_succ _))⟩
/-- two rising lists of the same texts are one -/
theorem rising_eq : ∀ {a b : List Str}, Rising a → Rising b → a.Perm b → a = b
  | [], b, _, _, h => (List.Perm.nil_eq h)
  | x :: a, [], _, _, h => by cases h.length_eq
  | x :: a, y :: b, ha, hb, h => by
    have ha' := List.pairwise_cons.mp ha
    have hb' := List.pairwise_cons.mp hb
    have e : x = y := by
      have h1 : x ∈ y :: b := h.mem_iff.mp List.mem_cons_self
      have h2 : y ∈ x :: a := h.mem_iff.mpr List.mem_cons_self
      rcases List.mem_cons.mp h1 with e | h1
      · exact e
      · rcases List.mem_cons.mp h2 with e | h2
        · exact e.symm
        · have c1 := hb'.1 x h1
          have c2 := ha'.1 y h2
          exact str_ext (List.le_antisymm (List.not_lt.mp c2) (List.not_lt.mp c1))
    subst e
    rw [rising_eq ha'.2 hb'.2 (List.Perm.cons_inv h)]
end Wa
namespace Wa
open PySem PySem.Spec PyProof.Rows L2
/-! spans, rising -/
def tws (ws : List (List Nat)) : List Str := ws.map wd
theorem tws_v (ws : List (List Nat)) : (tws ws).map V.str = vws ws := by
  unfold tws vws
  rw [List.map_map]
  rfl
/-- a rising list of the words of S -/
def RisW (R S : List (List Nat)) : Prop := R.Perm S ∧ Rising (tws R)
theorem risW_of {ys : List Str} {S : List (List Nat)} (h : ys.Perm (tws S)) (hr : Rising ys) : ∃ R, ys = tws R ∧ RisW R S := by
  obtain ⟨R, e, hp⟩ : ∃ R, ys = tws R ∧ R.Perm S := by
    have key : ∀ (ys : List Str), (∀ y ∈ ys, ∃ w, y = wd w) → ∃ R, ys = tws R := by
      intro ys
      induction ys with
      | nil => exact fun _ => ⟨[], rfl⟩
      | cons y ys ih =>
        intro hy
        obtain ⟨w, e⟩ := hy y List.mem_cons_self
        obtain ⟨R, e2⟩ := ih fun z hz => hy z (List.mem_cons_of_mem _ hz)
        exact ⟨w :: R, by rw [e, e2]; rfl⟩
    obtain ⟨R, e⟩ := key ys fun y hy => by
      obtain ⟨w, _, e⟩ := List.mem_map.mp (h.mem_iff.mp hy)
      exact ⟨w, e.symm⟩
    refine ⟨R, e, ?_⟩
    rw [e] at h
    rw [List.perm_iff_count]
    intro a
    have := (List.perm_iff_count.mp h) (wd a)
    have cnt : ∀ l : List (List Nat), (tws l).count (wd a) = l.count a := by
      intro l
      induction l with
      | nil => rfl
      | cons x l ih =>
        show (wd x :: tws l).count (wd a) = _
        rw [List.count_cons, List.count_cons, ih]
        by_cases e : x = a
        · rw [e]
          simp
        · have e' : ¬ wd x = wd a := fun z => e (wd_inj z)
          rw [if_neg (by simp [e']), if_neg (by simp [e])]
    rw [cnt, cnt] at this
    exact this
  exact ⟨R, e, hp, by rw [← e]; exact hr⟩
theorem risW_eq {R1 R2 S1 S2 : List (List Nat)} (h1 : RisW R1 S1) (h2 : RisW R2 S2) (hp : S1.Perm S2) : R1 = R2 := by
  have e : tws R1 = tws R2 := rising_eq h1.2 h2.2 (((h1.1.trans hp).trans h2.1.symm).map wd)
  have inj : ∀ a b : List (List Nat), tws a = tws b → a = b := by
    intro a
    induction a with
    | nil => intro b hb; cases b with
      | nil => rfl
      | cons _ _ => cases hb
    | cons x a ih => intro b hb; cases b with
      | nil => cases hb
      | cons y b =>
        have h : wd x :: tws a = wd y :: tws b := hb
        injection h with h1 h2
        rw [wd_inj h1, ih b h2]
  exact inj _ _ e
end Wa
namespace Wa
open PySem PySem.Spec PyProof.Rows L2
/-! turned about -/
def turned (ws : List (List Nat)) (i : Nat) : List (List Nat) := if i = 1 then ws.reverse else ws
theorem turned_mem {ws : List (List Nat)} {i : Nat} : ∀ w, w ∈ turned ws i ↔ w ∈ ws := fun w => by
  unfold turned
  split
  · exact List.mem_reverse
  · exact Iff.rfl
theorem turned_len {ws : List (List Nat)} {i : Nat} : (turned ws i).length = ws.length := by
  unfold turned
  split
  · exact List.length_reverse
  · rfl
theorem vws_rev (ws : List (List Nat)) : (vws ws).reverse = vws ws.reverse := by
  unfold vws
  rw [List.map_reverse]
theorem vws_drop (ws : List (List Nat)) : (vws ws).dropLast = vws ws.dropLast := by
  unfold vws
  rw [List.map_dropLast]
theorem vws_tail (ws : List (List Nat)) : (vws ws).eraseIdx 0 = vws ws.tail := by
  cases ws <;> rfl
end Wa
namespace Wa
open PySem PySem.Spec PyProof.Rows L2
/-! comprehensions by what each turn gives -/
theorem Gr.alst {H H' : Hp} (g : Gr H H') {a : Addr} {xs : List V} (h : H a = some (.lst xs)) : H' a = some (.lst xs) := g.lst h
/-- what an iterator hands out while what stood stands -/
structure Hands (J : It) (H1 : Hp) (n : Nat) (R : Nat → Hp → V → Prop) : Prop where
  go : ∀ i H', i < n → Gr H1 H' → J.go i H'
  yld : ∀ i H' x H'', i < n → Gr H1 H' → J.yld i H' x H'' → Gr H' H'' ∧ R i H'' x
  stop : ∀ H', Gr H1 H' → J.stop n H'
theorem hands_list {K : PySem.W.Frag} {H1 : Hp} {a : Addr} {xs : List V} (h : SqL K H1 a xs) : Hands (Itl K a) H1 xs.length (fun i _ x => xs[i]? = some x) where
  go := fun i H' hi g => itl_go (g.seq h) hi
  yld := fun i H' x H'' hi g y => by
    obtain ⟨rfl, e⟩ := itl_yld (g.seq h) y
    exact ⟨Gr.refl _, e⟩
  stop := fun H' g => itl_stop (g.seq h) rfl
theorem hands_range {H1 : Hp} (lo : Int) (n : Nat) : Hands (Itr lo n) H1 n (fun i _ x => x = .int (lo + i)) where
  go := fun i H' hi g => hi
  yld := fun i H' x H'' hi g y => by
    obtain ⟨rfl, e⟩ := y
    exact ⟨Gr.refl _, e⟩
  stop := fun H' g => Nat.le_refl _
theorem hands_str {H1 : Hp} (ds : List Nat) : Hands (Its (wd ds)) H1 ds.length (fun i _ x => ∃ d, ds[i]? = some d ∧ x = .str (wd [d])) where
  go := fun i H' hi g => by
    show i < (wd ds).cps.size
    have : (wd ds).cps.size = ds.length := wd_len ds
    omega
  yld := fun i H' x H'' hi g y => by
    obtain ⟨rfl, c1, h1, rfl⟩ := y
    obtain ⟨d, e, rfl⟩ := wd_at h1
    exact ⟨Gr.refl _, d, e, rfl⟩
  stop := fun H' g => by
    show (wd ds).cps.size ≤ ds.length
    have : (wd ds).cps.size = ds.length := wd_len ds
    omega
theorem filt_range (p : Nat → Bool) (f : Nat → V) (i : Nat) : ((List.range (i + 1)).filter p).map f = ((List.range i).filter p).map f ++ (if p i = true then [f i] else []) := by
  rw [List.range_succ, List.filter_append, List.map_append]
  congr 1
  by_cases e : p i = true
  · rw [if_pos e, List.filter_cons_of_pos e]
    rfl
  · rw [if_neg e, List.filter_cons_of_neg e]
    rfl
theorem filt_len (p : Nat → Bool) (f : Nat → V) (i : Nat) : (((List.range i).filter p).map f).length ≤ i := by
  rw [List.length_map]
  refine Nat.le_trans (List.length_filter_le _ _) ?_
  rw [List.length_range]
  exact Nat.le_refl _
/-- a comprehension: at each turn a test p i and a value f i -/
theorem lcG {J : It} {H1 : Hp} {n : Nat} {R : Nat → Hp → V → Prop} {g : TG} {tt : TT} {te : TE} {vs : List Nat} {σ : L2.St} {D : Addr} {Qd : Hp → Prop} (hJ : Hands J H1 n R) (p : Nat → Bool) (f : Nat → V) (nD : H1 D = none) (hz : n ≤ 16000000)
    (hs : ∀ i x H' (Y : VK) (N : Hp → Prop), i < n → Gr H1 H' → R i H' x → (p i = true → ∀ H'', Gr H' H'' → Y (f i) H'') → (p i = false → ∀ H'', Gr H' H'' → N H'') →
      g x (wipe σ vs) H' fun σ2 H2 => wipe σ2 vs = wipe σ vs ∧ tt σ2 H2 fun b H3 => if b = true then te σ2 H3 Y else N H3)
    (hd : ∀ H', Gr H1 H' → H' D = some (.lst (((List.range n).filter p).map f)) → Qd H') :
    ∃ W : Nat → Nat → Hp → Prop, (∃ m, W 0 m (upd H1 D (.lst []))) ∧ ∀ i m H, W i m H →
      (J.stop i H ∧ Qd H) ∨ (J.go i H ∧ ∃ Nx : Hp → Prop, (∀ H', Nx H' → ∃ m', m' < m ∧ W (i + 1) m' H') ∧ ∀ x H', J.yld i H x H' → g x (wipe σ vs) H' fun σ2 H2 => wipe σ2 vs = wipe σ vs ∧ tt σ2 H2 fun b H3 =>
        if b = true then te σ2 H3 fun y H4 => ∃ acc, H4 D = some (.lst acc) ∧ acc.length < sizeLine ∧ Nx (upd H4 D (.lst (acc ++ [y]))) else Nx H3) := by
  refine walk_n n (fun i H' => Gr H1 H' ∧ H' D = some (.lst (((List.range i).filter p).map f))) ⟨(Gr.refl H1).new nD, upd_same⟩ (fun i H' hi ⟨i1, i2⟩ => ⟨hJ.go i H' hi i1, fun x H'' y => ?_⟩) (fun H' ⟨i1, i2⟩ => ⟨hJ.stop H' i1, hd H' i1 i2⟩)
  obtain ⟨g1, r1⟩ := hJ.yld i H' x H'' hi i1 y
  have gi := i1.trans g1
  have e := filt_range p f i
  refine hs i x H'' _ _ hi gi r1 (fun hp H3 g3 => ?_) (fun hp H3 g3 => ?_)
  · rw [if_pos hp] at e
    have hl := filt_len p f i
    exact ⟨_, g3.lst (g1.lst i2), sz' (by omega), (gi.trans g3).over nD, by rw [upd_same, e]⟩
  · rw [if_neg (by rw [hp]; exact Bool.false_ne_true), List.append_nil] at e
    exact ⟨gi.trans g3, by rw [e]; exact g3.lst (g1.lst i2)⟩
theorem range_filter_map {α : Type} (l : List α) (p : α → Bool) (f : α → V) (d : α) : ((List.range l.length).filter fun i => p (l.getD i d)).map (fun i => f (l.getD i d)) = (l.filter p).map f := by
  induction l with
  | nil => rfl
  | cons x l ih =>
    rw [List.length_cons, List.range_succ_eq_map, List.filter_cons, List.filter_map]
    have e1 : (fun i => p ((x :: l).getD i d)) ∘ Nat.succ = fun i => p (l.getD i d) := rfl
    rw [e1, List.filter_cons]
    by_cases e : p x = true
    · rw [if_pos (show p ((x :: l).getD 0 d) = true from e), if_pos e, List.map_cons, List.map_cons, List.map_map]
      show f x :: _ = f x :: _
      rw [← ih]
      rfl
    · rw [if_neg (show ¬ p ((x :: l).getD 0 d) = true from e), if_neg e, List.map_map, ← ih]
      rfl
abbrev HandsL {α : Type} (J : It) (H1 : Hp) (l : List α) (φ : α → V) : Prop := Hands J H1 l.length (fun i _ x => ∃ d, l[i]? = some d ∧ x = φ d)
theorem handsL_list {α : Type} {K : PySem.W.Frag} {H1 : Hp} {a : Addr} {l : List α} {φ : α → V} (h : SqL K H1 a (l.map φ)) : HandsL (Itl K a) H1 l φ where
  go := fun i H' hi g => itl_go (g.seq h) (by rw [List.length_map]; exact hi)
  yld := fun i H' x H'' hi g y => by
    obtain ⟨rfl, e⟩ := itl_yld (g.seq h) y
    rw [List.getElem?_map, List.getElem?_eq_getElem hi] at e
    exact ⟨Gr.refl _, l[i], List.getElem?_eq_getElem hi, (Option.some.inj e).symm⟩
  stop := fun H' g => itl_stop (g.seq h) (List.length_map ..)
theorem handsL_str {H1 : Hp} (ds : List Nat) : HandsL (Its (wd ds)) H1 ds (fun d => .str (wd [d])) := hands_str ds
theorem handsL_range {H1 : Hp} (lo : Int) (n : Nat) : HandsL (Itr lo n) H1 (List.range n) (fun i : Nat => .int (lo + i)) where
  go := fun i H' hi g => by
    rw [List.length_range] at hi
    exact hi
  yld := fun i H' x H'' hi g y => by
    rw [List.length_range] at hi
    obtain ⟨rfl, e⟩ := y
    exact ⟨Gr.refl _, i, List.getElem?_range hi, e⟩
  stop := fun H' g => by
    rw [List.length_range]
    exact Nat.le_refl n
/-- .. where what is handed out for d is told by Φ -/
abbrev HandsR {α : Type} (J : It) (H1 : Hp) (l : List α) (Φ : α → Hp → V → Prop) : Prop := Hands J H1 l.length (fun i H x => ∃ d, l[i]? = some d ∧ Φ d H x)
theorem lcRel {α : Type} {J : It} {H1 : Hp} {l : List α} {Φ : α → Hp → V → Prop} {g : TG} {tt : TT} {te : TE} {vs : List Nat} {σ : L2.St} {D : Addr} {Qd : Hp → Prop} (hJ : HandsR J H1 l Φ) (p : α → Bool) (f : α → V) (nD : H1 D = none) (hz : l.length ≤ 16000000)
    (hs : ∀ d x H' (Y : VK) (N : Hp → Prop), d ∈ l → Gr H1 H' → Φ d H' x → (p d = true → ∀ H'', Gr H' H'' → Y (f d) H'') → (p d = false → ∀ H'', Gr H' H'' → N H'') →
      g x (wipe σ vs) H' fun σ2 H2 => wipe σ2 vs = wipe σ vs ∧ tt σ2 H2 fun b H3 => if b = true then te σ2 H3 Y else N H3)
    (hd : ∀ H', Gr H1 H' → H' D = some (.lst ((l.filter p).map f)) → Qd H') :
    ∃ W : Nat → Nat → Hp → Prop, (∃ m, W 0 m (upd H1 D (.lst []))) ∧ ∀ i m H, W i m H →
      (J.stop i H ∧ Qd H) ∨ (J.go i H ∧ ∃ Nx : Hp → Prop, (∀ H', Nx H' → ∃ m', m' < m ∧ W (i + 1) m' H') ∧ ∀ x H', J.yld i H x H' → g x (wipe σ vs) H' fun σ2 H2 => wipe σ2 vs = wipe σ vs ∧ tt σ2 H2 fun b H3 =>
        if b = true then te σ2 H3 fun y H4 => ∃ acc, H4 D = some (.lst acc) ∧ acc.length < sizeLine ∧ Nx (upd H4 D (.lst (acc ++ [y]))) else Nx H3) := by
  cases l with
  | nil => exact lcG hJ (fun _ => false) (fun _ => .non) nD (Nat.zero_le _) (fun i x H' Y N hi => absurd hi (Nat.not_lt_zero i)) fun H' g1 e => hd H' g1 e
  | cons d r =>
    have key := range_filter_map (d :: r) p f d
    generalize hL : (d :: r) = l at *
    refine lcG hJ (fun i => p (l.getD i d)) (fun i => f (l.getD i d)) nD hz (fun i x H' Y N hi g1 ⟨u, eu, ex⟩ hy hn => ?_) fun H' g1 e => hd H' g1 (by rw [key] at e; exact e)
    have ed : l.getD i d = u := by rw [List.getD_eq_getElem?_getD, eu]; rfl
    rw [ed] at hy hn
    exact hs u x H' Y N (List.mem_of_getElem? eu) g1 ex hy hn
/-- a comprehension over a list l, shown as φ x: each x by a test p x and a value f x -/
theorem lcH {α : Type} {J : It} {H1 : Hp} {l : List α} {φ : α → V} {g : TG} {tt : TT} {te : TE} {vs : List Nat} {σ : L2.St} {D : Addr} {Qd : Hp → Prop} (hJ : HandsL J H1 l φ) (p : α → Bool) (f : α → V) (nD : H1 D = none) (hz : l.length ≤ 16000000)
    (hs : ∀ x H' (Y : VK) (N : Hp → Prop), x ∈ l → Gr H1 H' → (p x = true → ∀ H'', Gr H' H'' → Y (f x) H'') → (p x = false → ∀ H'', Gr H' H'' → N H'') →
      g (φ x) (wipe σ vs) H' fun σ2 H2 => wipe σ2 vs = wipe σ vs ∧ tt σ2 H2 fun b H3 => if b = true then te σ2 H3 Y else N H3)
    (hd : ∀ H', Gr H1 H' → H' D = some (.lst ((l.filter p).map f)) → Qd H') :
    ∃ W : Nat → Nat → Hp → Prop, (∃ m, W 0 m (upd H1 D (.lst []))) ∧ ∀ i m H, W i m H →
      (J.stop i H ∧ Qd H) ∨ (J.go i H ∧ ∃ Nx : Hp → Prop, (∀ H', Nx H' → ∃ m', m' < m ∧ W (i + 1) m' H') ∧ ∀ x H', J.yld i H x H' → g x (wipe σ vs) H' fun σ2 H2 => wipe σ2 vs = wipe σ vs ∧ tt σ2 H2 fun b H3 =>
        if b = true then te σ2 H3 fun y H4 => ∃ acc, H4 D = some (.lst acc) ∧ acc.length < sizeLine ∧ Nx (upd H4 D (.lst (acc ++ [y]))) else Nx H3) := lcRel (Φ := fun d _ x => x = φ d) hJ p f nD hz (fun d x H' Y N hm g1 e hy hn => by
    subst e
    exact hs d H' Y N hm g1 hy hn) hd
theorem hands_zip {α β : Type} {K : PySem.W.Frag} {H1 : Hp} {a b : Addr} {l : List α} {m : List β} {φ : α → V} {ψ : β → V} (ha : SqL K H1 a (l.map φ)) (hb : SqL K H1 b (m.map ψ)) :
    HandsR (Itz K a b) H1 (l.zip m) (fun d H x => ∃ T, x = .ref T ∧ H T = some (.tup [φ d.1, ψ d.2])) where
  go := fun i H' hi g => by
    rw [List.length_zip] at hi
    exact ⟨_, _, _, _, g.seq ha, g.seq hb, by rw [List.getElem?_map, List.getElem?_eq_getElem (show i < l.length by omega)]; rfl, by rw [List.getElem?_map, List.getElem?_eq_getElem (show i < m.length by omega)]; rfl⟩
  yld := fun i H' x H'' hi g y => by
    have hi2 := hi
    rw [List.length_zip] at hi2
    obtain ⟨T, u, v, rfl, nT, rfl, h1, h2⟩ := y
    have e1 := h1 _ (g.seq ha)
    have e2 := h2 _ (g.seq hb)
    rw [List.getElem?_map, List.getElem?_eq_getElem (show i < l.length by omega)] at e1
    rw [List.getElem?_map, List.getElem?_eq_getElem (show i < m.length by omega)] at e2
    cases e1
    cases e2
    refine ⟨(Gr.refl _).new nT, (l[i]'(by omega), m[i]'(by omega)), ?_, T, rfl, upd_same⟩
    rw [List.getElem?_eq_getElem hi, List.getElem_zip]
  stop := fun H' g => by
    refine ⟨_, _, g.seq ha, g.seq hb, ?_⟩
    rw [List.length_map, List.length_map, List.length_zip]
    omega
theorem hands_enum {α : Type} {K : PySem.W.Frag} {H1 : Hp} {a : Addr} {l : List α} {φ : α → V} (ha : SqL K H1 a (l.map φ)) :
    HandsR (Ite K a) H1 l.zipIdx (fun d H x => ∃ T, x = .ref T ∧ H T = some (.tup [.int (d.2 : Nat), φ d.1])) where
  go := fun i H' hi g => by
    rw [List.length_zipIdx] at hi
    exact ⟨_, _, g.seq ha, by rw [List.getElem?_map, List.getElem?_eq_getElem hi]; rfl⟩
  yld := fun i H' x H'' hi g y => by
    have hi2 := hi
    rw [List.length_zipIdx] at hi2
    obtain ⟨T, u, rfl, nT, rfl, h1⟩ := y
    have e1 := h1 _ (g.seq ha)
    rw [List.getElem?_map, List.getElem?_eq_getElem hi2] at e1
    cases e1
    refine ⟨(Gr.refl _).new nT, (l[i], i), ?_, T, rfl, upd_same⟩
    rw [List.getElem?_zipIdx, List.getElem?_eq_getElem hi2]
    simp
  stop := fun H' g => by
    refine ⟨_, g.seq ha, ?_⟩
    rw [List.length_map, List.length_zipIdx]
    exact Nat.le_refl _
theorem lcL {α : Type} {K : PySem.W.Frag} {H1 : Hp} {a : Addr} {l : List α} {φ : α → V} {g : TG} {tt : TT} {te : TE} {vs : List Nat} {σ : L2.St} {D : Addr} {Qd : Hp → Prop} (ha : SqL K H1 a (l.map φ)) (p : α → Bool) (f : α → V) (nD : H1 D = none) (hz : l.length ≤ 16000000)
    (hs : ∀ x H' (Y : VK) (N : Hp → Prop), x ∈ l → Gr H1 H' → (p x = true → ∀ H'', Gr H' H'' → Y (f x) H'') → (p x = false → ∀ H'', Gr H' H'' → N H'') →
      g (φ x) (wipe σ vs) H' fun σ2 H2 => wipe σ2 vs = wipe σ vs ∧ tt σ2 H2 fun b H3 => if b = true then te σ2 H3 Y else N H3)
    (hd : ∀ H', Gr H1 H' → H' D = some (.lst ((l.filter p).map f)) → Qd H') :
    ∃ W : Nat → Nat → Hp → Prop, (∃ m, W 0 m (upd H1 D (.lst []))) ∧ ∀ i m H, W i m H →
      ((Itl K a).stop i H ∧ Qd H) ∨ ((Itl K a).go i H ∧ ∃ Nx : Hp → Prop, (∀ H', Nx H' → ∃ m', m' < m ∧ W (i + 1) m' H') ∧ ∀ x H', (Itl K a).yld i H x H' → g x (wipe σ vs) H' fun σ2 H2 => wipe σ2 vs = wipe σ vs ∧ tt σ2 H2 fun b H3 =>
        if b = true then te σ2 H3 fun y H4 => ∃ acc, H4 D = some (.lst acc) ∧ acc.length < sizeLine ∧ Nx (upd H4 D (.lst (acc ++ [y]))) else Nx H3) := lcH (handsL_list ha) p f nD hz hs hd
/-- words: each w of ws by a test and a word -/
theorem lcW {K : PySem.W.Frag} {H1 : Hp} {a : Addr} {ws : List (List Nat)} {g : TG} {tt : TT} {te : TE} {vs : List Nat} {σ : L2.St} {D : Addr} {Qd : Hp → Prop} (ha : SqL K H1 a (vws ws)) (p : List Nat → Bool) (f : List Nat → List Nat) (nD : H1 D = none) (hz : ws.length ≤ 16000000)
    (hs : ∀ w H' (Y : VK) (N : Hp → Prop), w ∈ ws → Gr H1 H' → (p w = true → ∀ H'', Gr H' H'' → Y (.str (wd (f w))) H'') → (p w = false → ∀ H'', Gr H' H'' → N H'') →
      g (.str (wd w)) (wipe σ vs) H' fun σ2 H2 => wipe σ2 vs = wipe σ vs ∧ tt σ2 H2 fun b H3 => if b = true then te σ2 H3 Y else N H3)
    (hd : ∀ H', Gr H1 H' → H' D = some (.lst (vws ((ws.filter p).map f))) → Qd H') :
    ∃ W : Nat → Nat → Hp → Prop, (∃ m, W 0 m (upd H1 D (.lst []))) ∧ ∀ i m H, W i m H →
      ((Itl K a).stop i H ∧ Qd H) ∨ ((Itl K a).go i H ∧ ∃ Nx : Hp → Prop, (∀ H', Nx H' → ∃ m', m' < m ∧ W (i + 1) m' H') ∧ ∀ x H', (Itl K a).yld i H x H' → g x (wipe σ vs) H' fun σ2 H2 => wipe σ2 vs = wipe σ vs ∧ tt σ2 H2 fun b H3 =>
        if b = true then te σ2 H3 fun y H4 => ∃ acc, H4 D = some (.lst acc) ∧ acc.length < sizeLine ∧ Nx (upd H4 D (.lst (acc ++ [y]))) else Nx H3) :=
  lcL (φ := fun w => V.str (wd w)) ha p (fun w => .str (wd (f w))) nD hz hs fun H' g1 e => hd H' g1 (by unfold vws; rw [List.map_map]; exact e)
/-- a comprehension of two lists -/
theorem lc2L {α β : Type} {K : PySem.W.Frag} {H1 : Hp} {a b : Addr} {l : List α} {φ : α → V} {m : List β} {ψ : β → V} {wi1 : TI} {te : TE} {vs vs1 : List Nat} {σ : L2.St} {D : Addr} {Qd : Hp → Prop} {v v1 : Nat} (ha : SqL K H1 a (l.map φ)) (hb : SqL K H1 b (m.map ψ)) (f : α → β → V) (nD : H1 D = none) (hz : l.length * m.length ≤ 16000000)
    (hi : ∀ x H' (Z : It → Hp → Prop), x ∈ l → Gr H1 H' → Z (Itl K b) H' → wi1 ((wipe σ vs).set v (some (φ x))) H' Z)
    (hw : ∀ x, wipe ((wipe σ vs).set v (some (φ x))) vs = wipe σ vs) (hw1 : ∀ x y, wipe ((wipe ((wipe σ vs).set v (some (φ x))) vs1).set v1 (some (ψ y))) vs1 = wipe ((wipe σ vs).set v (some (φ x))) vs1)
    (hs : ∀ x y H' (Y : VK), x ∈ l → y ∈ m → Gr H1 H' → (∀ H'', Gr H' H'' → Y (f x y) H'') → te ((wipe ((wipe σ vs).set v (some (φ x))) vs1).set v1 (some (ψ y))) H' Y)
    (hd : ∀ H', Gr H1 H' → H' D = some (.lst (l.flatMap fun x => m.map (f x))) → Qd H') :
    ∃ W : Nat → Nat → Hp → Prop, (∃ m, W 0 m (upd H1 D (.lst []))) ∧ ∀ i m H, W i m H →
      ((Itl K a).stop i H ∧ Qd H) ∨ ((Itl K a).go i H ∧ ∃ Nx : Hp → Prop, (∀ H', Nx H' → ∃ m', m' < m ∧ W (i + 1) m' H') ∧ ∀ x H', (Itl K a).yld i H x H' → gName v x (wipe σ vs) H' fun σ2 H2 => wipe σ2 vs = wipe σ vs ∧ tYes σ2 H2 fun b H3 =>
        if b = true then wi1 σ2 H3 fun J1 H4 => ∃ W1 : Nat → Nat → Hp → Prop, (∃ m, W1 0 m H4) ∧ ∀ j k H, W1 j k H →
          (J1.stop j H ∧ Nx H) ∨ (J1.go j H ∧ ∃ Nx1 : Hp → Prop, (∀ H', Nx1 H' → ∃ k', k' < k ∧ W1 (j + 1) k' H') ∧ ∀ x H', J1.yld j H x H' → gName v1 x (wipe σ2 vs1) H' fun σ3 H5 => wipe σ3 vs1 = wipe σ2 vs1 ∧ tYes σ3 H5 fun b H6 =>
            if b = true then te σ3 H6 fun y H7 => ∃ acc, H7 D = some (.lst acc) ∧ acc.length < sizeLine ∧ Nx1 (upd H7 D (.lst (acc ++ [y]))) else Nx1 H6)
        else Nx H3) := by
  have ll : (l.map φ).length = l.length := List.length_map ..
  have lm : (m.map ψ).length = m.length := List.length_map ..
  have lf : ∀ (l' : List α), (l'.flatMap fun x => m.map (f x)).length = l'.length * m.length := fun l' => flat_len fun x _ => List.length_map ..
  refine walk_n l.length (fun i H' => Gr H1 H' ∧ H' D = some (.lst ((l.take i).flatMap fun x => m.map (f x)))) ⟨(Gr.refl H1).new nD, upd_same⟩ (fun i H' hi1 ⟨i1, i2⟩ => ⟨itl_go (i1.seq ha) (by rw [ll]; exact hi1), fun x H'' y => ?_⟩) (fun H' ⟨i1, i2⟩ => ⟨itl_stop (i1.seq ha) ll, hd H' i1 (by rw [List.take_length] at i2; exact i2)⟩)
  obtain ⟨rfl, ex⟩ := itl_yld (i1.seq ha) y
  have gi : l[i]? = some l[i] := List.getElem?_eq_getElem hi1
  have hm : l[i] ∈ l := List.getElem_mem hi1
  have e9 := flat_take (f := fun x => m.map (f x)) gi
  rw [List.getElem?_map, gi] at ex
  cases ex
  generalize l[i] = x at gi hm e9
  refine ⟨hw x, yes (iteT ?_)⟩
  refine hi x H'' _ hm i1 ?_
  have lb : ((l.take i).flatMap fun x => m.map (f x)).length + m.length ≤ 16000000 := by
    rw [lf, List.length_take, ← Nat.succ_mul]
    exact Nat.le_trans (Nat.mul_le_mul_right _ (by omega)) hz
  refine walk_n m.length (fun j H2 => Gr H1 H2 ∧ H2 D = some (.lst (((l.take i).flatMap fun x => m.map (f x)) ++ (m.take j).map (f x)))) ⟨i1, by rw [List.take_zero, List.map_nil, List.append_nil]; exact i2⟩ (fun j H2 hj ⟨j1, j2⟩ => ⟨itl_go (j1.seq hb) (by rw [lm]; exact hj), fun z H3 y => ?_⟩) (fun H2 ⟨j1, j2⟩ => ⟨itl_stop (j1.seq hb) lm, j1, ?_⟩)
  · obtain ⟨rfl, ez⟩ := itl_yld (j1.seq hb) y
    have gj : m[j]? = some m[j] := List.getElem?_eq_getElem hj
    have hmj : m[j] ∈ m := List.getElem_mem hj
    rw [List.getElem?_map, gj] at ez
    cases ez
    generalize m[j] = u at gj hmj
    refine ⟨hw1 x u, yes (iteT ?_)⟩
    refine hs x u H3 _ hm hmj j1 fun H4 g4 => ⟨_, g4.lst j2, ?_, (j1.trans g4).over nD, ?_⟩
    · rw [List.length_append, List.length_map, List.length_take]
      exact sz' (by omega)
    · rw [upd_same, List.take_add_one, gj, List.map_append, List.append_assoc]
      rfl
  · rw [List.take_length] at j2
    rw [e9]
    exact j2
theorem sum_cast (w : List Nat) : (w.map fun d : Nat => (d : Int)).sum = ((w.sum : Nat) : Int) := by
  induction w with
  | nil => rfl
  | cons x w ih => rw [List.map_cons, List.sum_cons, ih, List.sum_cons, Int.natCast_add]
theorem filter_yes {α : Type} (l : List α) : l.filter (fun _ => true) = l := List.filter_eq_self.mpr fun _ _ => rfl
end Wa
namespace Wa
open PySem PySem.Spec PyProof.Rows L2
/-! facts about heaps carried on -/
theorem at_same {H H9 : Hp} {l : Addr} {o : HO} (hU : upd H l o = H9) : H9 l = some o := by
  rw [← hU]
  exact upd_same
theorem at_ne {H H9 : Hp} {l a : Addr} {o : HO} {x : Option HO} (hU : upd H l o = H9) (n : a ≠ l) (h : H a = x) : H9 a = x := by
  rw [← hU, upd_ne n]
  exact h
theorem at_oth {H H9 : Hp} {l a : Addr} {x : HO} (hU : Others l H H9) (n : a ≠ l) (h : H a = some x) : H9 a = some x := hU a x n h
theorem at_pop {H H9 : Hp} {l a : Addr} {x : HO} (hU : ∀ b, b ≠ l → ∀ o, H b = some o → H9 b = some o) (n : a ≠ l) (h : H a = some x) : H9 a = some x := hU a n x h
theorem at_gr {H H9 : Hp} {a : Addr} {xs : List V} (g : Gr H H9) (h : H a = some (.lst xs)) : H9 a = some (.lst xs) := g.lst h
theorem at_grT {H H9 : Hp} {a : Addr} {xs : List V} (g : Gr H H9) (h : H a = some (.tup xs)) : H9 a = some (.tup xs) := g.tup h
theorem at_sm {H H9 : Hp} {a : Addr} {x : HO} (g : Same H H9) (h : H a = some x) : H9 a = some x := g a x h
theorem tb_gr {H H9 : Hp} {P : Addr} (g : Gr H H9) (h : GxR.TabG H P) : GxR.TabG H9 P := g.tab P h
theorem tb_sm {H H9 : Hp} {P : Addr} (g : Same H H9) (h : GxR.TabG H P) : GxR.TabG H9 P := (Gr.of g).tab P h
theorem tb_new {H H9 : Hp} {l P : Addr} {o : HO} (hU : upd H l o = H9) (n : H l = none) (h : GxR.TabG H P) : GxR.TabG H9 P := by
  rw [← hU]
  exact ((Gr.refl H).new n).tab P h
theorem tb_ne {H : Hp} {l P : Addr} {xs : List V} (h : GxR.TabG H P) (hl : H l = some (.lst xs)) : P ≠ l := by
  obtain ⟨ps, e, _⟩ := h
  intro z
  rw [z, hl] at e
  cases e
theorem tb_upd {H H9 : Hp} {l P : Addr} {o : HO} {xs : List V} (hU : upd H l o = H9) (hl : H l = some (.lst xs)) (h : GxR.TabG H P) : GxR.TabG H9 P := by
  have n := tb_ne h hl
  obtain ⟨ps, e, t⟩ := h
  exact ⟨ps, at_ne hU n e, t⟩
theorem tb_oth {H H9 : Hp} {l P : Addr} {xs : List V} (hU : Others l H H9) (hl : H l = some (.lst xs)) (h : GxR.TabG H P) : GxR.TabG H9 P := by
  have n := tb_ne h hl
  obtain ⟨ps, e, t⟩ := h
  exact ⟨ps, hU _ _ n e, t⟩
theorem tb_pop {H H9 : Hp} {l P : Addr} {xs : List V} (hU : ∀ b, b ≠ l → ∀ o, H b = some o → H9 b = some o) (hl : H l = some (.lst xs)) (h : GxR.TabG H P) : GxR.TabG H9 P := by
  have n := tb_ne h hl
  obtain ⟨ps, e, t⟩ := h
  exact ⟨ps, hU _ n _ e, t⟩
theorem ne_none {H : Hp} {a b : Addr} {xs : List V} (h' : H b = none) (h : H a = some (.lst xs)) : a ≠ b := ne_of_none h h'
theorem ne_none' {H : Hp} {a b : Addr} {xs : List V} (h' : H a = none) (h : H b = some (.lst xs)) : a ≠ b := (ne_of_none h h').symm
theorem ne_noneT {H : Hp} {a b : Addr} {xs : List V} (h' : H b = none) (h : H a = some (.tup xs)) : a ≠ b := ne_of_none h h'
theorem ne_noneT' {H : Hp} {a b : Addr} {xs : List V} (h' : H a = none) (h : H b = some (.tup xs)) : a ≠ b := (ne_of_none h h').symm
theorem ne_kind {H : Hp} {a b : Addr} {xs ys : List V} (h : H a = some (.tup xs)) (h' : H b = some (.lst ys)) : a ≠ b := fun z => by
  rw [z, h'] at h
  cases h
/-! comparing lists of words, of numbers -/
section
variable {K : PySem.W.Frag} {H : Hp} {a b : Addr} {A B : List (List Nat)} {Q : VK}
theorem eqW (ha : H a = some (.lst (vws A))) (hb : H b = some (.lst (vws B))) (fa : Figs A) (fb : Figs B) (h : Q (.bl (decide (A = B))) H) : rEqD K (.ref a) (.ref b) H Q :=
  ⟨dws A, dws B, .lst (sq ha) (dp_ws _), .lst (sq hb) (dp_ws _), sh_ws fa, sh_ws fb, by rw [eqv_ws]; exact h⟩
theorem neW (ha : H a = some (.lst (vws A))) (hb : H b = some (.lst (vws B))) (fa : Figs A) (fb : Figs B) (h : Q (.bl (!decide (A = B))) H) : rNeD K (.ref a) (.ref b) H Q :=
  ⟨dws A, dws B, .lst (sq ha) (dp_ws _), .lst (sq hb) (dp_ws _), sh_ws fa, sh_ws fb, by rw [eqv_ws]; exact h⟩
theorem eqW1 (ha : H a = some (.lst (vws A))) (hb : H b = some (.lst (vws A))) (fa : Figs A) (h : Q (.bl true) H) : rEqD K (.ref a) (.ref b) H Q := eqW ha hb fa fa (by rw [decide_eq_true rfl]; exact h)
theorem neW1 (ha : H a = some (.lst (vws A))) (hb : H b = some (.lst (vws A))) (fa : Figs A) (h : Q (.bl false) H) : rNeD K (.ref a) (.ref b) H Q := neW ha hb fa fa (by rw [decide_eq_true rfl]; exact h)
end
theorem figs_nil : Figs [] := fun w hw => absurd hw (by simp)
theorem figs_of_mem {q n : Nat} {ws : List (List Nat)} (hq : q ≤ 3) (h : ∀ w ∈ ws, Wd q n w) : Figs ws := figs_of hq h
/-! sorted lists of words -/
def leW (a b : List Nat) : Bool := decide (a ≤ b)
def srt (ws : List (List Nat)) : List (List Nat) := ws.mergeSort leW
theorem srt_perm (ws : List (List Nat)) : (srt ws).Perm ws := List.mergeSort_perm ..
theorem srt_mem {ws : List (List Nat)} {w : List Nat} : w ∈ srt ws ↔ w ∈ ws := (srt_perm ws).mem_iff
theorem srt_len (ws : List (List Nat)) : (srt ws).length = ws.length := (srt_perm ws).length_eq
theorem map_lt : ∀ {a b : List Nat}, a.map (48 + ·) < b.map (48 + ·) ↔ a < b
  | [], [] => by simp
  | [], y :: b => by simp
  | x :: a, [] => by simp
  | x :: a, y :: b => by
    have ih := map_lt (a := a) (b := b)
    rw [List.map_cons, List.map_cons, List.cons_lt_cons_iff, List.cons_lt_cons_iff, ih]
    constructor
    · rintro (h | ⟨h, h'⟩)
      · exact .inl (by omega)
      · exact .inr ⟨by omega, h'⟩
    · rintro (h | ⟨h, h'⟩)
      · exact .inl (by omega)
      · exact .inr ⟨by omega, h'⟩
theorem srt_ris (ws : List (List Nat)) : RisW (srt ws) ws := by
  refine ⟨srt_perm ws, ?_⟩
  have h : (srt ws).Pairwise fun a b => leW a b = true := List.pairwise_mergeSort (le := leW) (fun a b c h1 h2 => decide_eq_true (List.le_trans (of_decide_eq_true h1) (of_decide_eq_true h2)))
    (fun a b => by
      unfold leW
      rw [Bool.or_eq_true, decide_eq_true_eq, decide_eq_true_eq]
      exact List.le_total a b) ws
  show ((srt ws).map wd).Pairwise _
  rw [List.pairwise_map]
  refine h.imp fun {a b} h => ?_
  rw [wd_list, wd_list, map_lt]
  exact List.not_lt.mpr (of_decide_eq_true h)
theorem srt_of {R S : List (List Nat)} (h : RisW R S) : R = srt S := risW_eq h (srt_ris S) (List.Perm.refl _)
theorem srt_congr {S T : List (List Nat)} (h : S.Perm T) : srt S = srt T := risW_eq (srt_ris S) (srt_ris T) h
theorem srt_srt (S : List (List Nat)) : srt (srt S) = srt S := srt_congr (srt_perm S)
theorem Figs.srt {ws : List (List Nat)} (h : Figs ws) : Figs (srt ws) := fun w hw => h w (srt_mem.mp hw)
def rSortW (K : PySem.W.Frag) : List V → Hp → VK → Prop := fun vs H Q => ∃ (a : Addr) (ws : List (List Nat)), vs = [V.ref a] ∧ SqL K H a (vws ws) ∧ ∀ (H' : Hp) (p : Addr), Gr H H' → H p = none → H' p = some (.lst (vws (srt ws))) → Q (.ref p) H'
theorem cr_sortW {X : Cx} : CallR X (.builtin "sorted") (rSortW X.K) := by
  intro pins s σ H vs us Q I r h
  obtain ⟨a, ws, rfl, hs, q⟩ := h
  refine cr_sortedT pins s σ H _ us Q I r ⟨a, tws ws, rfl, by rw [tws_v]; exact hs, fun ys p hp hr np => ?_⟩
  obtain ⟨R, rfl, hR⟩ := risW_of hp hr
  rw [srt_of hR, tws_v]
  exact q _ p ((Gr.refl H).new np) np upd_same
/-- a new object, by what is known of the heap behind it -/
theorem newO {H : Hp} {o : HO} {Q : VK} (h : ∀ H' p, Gr H H' → H p = none → H' p = some o → Q (.ref p) H') : ∀ p, H p = none → Q (.ref p) (upd H p o) := fun p np => h _ p ((Gr.refl H).new np) np upd_same
end Wa
namespace Wa
open PySem PySem.Spec PyProof.Rows L2
/-- two ways that go on alike -/
theorem join {goal : Prop} {C P : Hp → Prop} (main : (∀ Hx, P Hx → C Hx) → goal) (rest : ∀ Hx, P Hx → C Hx) : goal := main rest
/-- the last word of a list goes -/
theorem popW {ws : List (List Nat)} (h : ws ≠ []) : ∃ w, (vws ws)[(vws ws).length - 1]? = some (V.str (wd w)) := by
  have hl : ws.length - 1 < ws.length := by
    have := List.length_pos_iff.mpr h
    omega
  refine ⟨ws[ws.length - 1], ?_⟩
  rw [vws_len, vws_get, List.getElem?_eq_getElem hl]
  rfl
end Wa
namespace Wa
open PySem PySem.Spec PyProof.Rows L2
/-! data of several layers compared -/
def Nice (n : Nat) (d : PyData) : Prop := d.canLay0 = true ∧ d.depth ≤ n
theorem nice_all {n : Nat} : ∀ {ds : List PyData}, (∀ d ∈ ds, Nice n d) → PyData.canLayAll0 ds = true ∧ PyData.depthAll ds ≤ n
  | [], _ => ⟨rfl, Nat.zero_le _⟩
  | d :: r, h => by
    obtain ⟨i1, i2⟩ := nice_all fun x hx => h x (List.mem_cons_of_mem _ hx)
    obtain ⟨j1, j2⟩ := h d List.mem_cons_self
    refine ⟨?_, ?_⟩
    · show (d.canLay0 && PyData.canLayAll0 r) = true
      rw [i1, j1]
      rfl
    · show max d.depth (PyData.depthAll r) ≤ n
      omega
theorem nice_list {n : Nat} {ds : List PyData} (h : ∀ d ∈ ds, Nice n d) : Nice (n + 1) (.list ds) := ⟨(nice_all h).1, by
  have := (nice_all h).2
  show PyData.depthAll ds + 1 ≤ n + 1
  omega⟩
theorem nice_tup {n : Nat} {ds : List PyData} (h : ∀ d ∈ ds, Nice n d) : Nice (n + 1) (.tuple ds) := ⟨(nice_all h).1, by
  have := (nice_all h).2
  show PyData.depthAll ds + 1 ≤ n + 1
  omega⟩
theorem Nice.mono {n m : Nat} {d : PyData} (h : Nice n d) (hm : n ≤ m) : Nice m d := ⟨h.1, Nat.le_trans h.2 hm⟩
theorem nice_int (n : Nat) (i : Int) : Nice n (.int i) := ⟨rfl, Nat.zero_le _⟩
theorem nice_str (n : Nat) {w : List Nat} (h : ∀ d ∈ w, d < 10) : Nice n (.str (wd w)) := ⟨wd_ok h, Nat.zero_le _⟩
theorem nice_ws {A : List (List Nat)} (h : Figs A) : Nice 1 (dws A) := nice_list fun d hd => by
  obtain ⟨w, hw, rfl⟩ := List.mem_map.mp hd
  exact nice_str 0 (h w hw)
theorem nice_ns (A : List Int) : Nice 1 (dns A) := nice_list fun d hd => by
  obtain ⟨w, hw, rfl⟩ := List.mem_map.mp hd
  exact nice_int 0 w
theorem Nice.shaped {n : Nat} {d : PyData} (h : Nice n d) (hn : n ≤ 64) : SeqAt.shaped d = true := by
  unfold SeqAt.shaped
  rw [Bool.and_eq_true]
  exact ⟨h.1, decide_eq_true (Nat.le_trans h.2 hn)⟩
section
variable {K : PySem.W.Frag} {H : Hp} {x y : V} {d : PyData} {Q : VK} {n : Nat}
theorem eqD1 (hx : Dp K H x d) (hy : Dp K H y d) (hn : Nice n d) (h64 : n ≤ 64) (h : Q (.bl true) H) : rEqD K x y H Q := ⟨d, d, hx, hy, hn.shaped h64, hn.shaped h64, by rw [SeqAt.eqv_refl d hn.1]; exact h⟩
theorem neD1 (hx : Dp K H x d) (hy : Dp K H y d) (hn : Nice n d) (h64 : n ≤ 64) (h : Q (.bl false) H) : rNeD K x y H Q := ⟨d, d, hx, hy, hn.shaped h64, hn.shaped h64, by rw [SeqAt.eqv_refl d hn.1]; exact h⟩
end
theorem dpW {K : PySem.W.Frag} {H : Hp} {a : Addr} {A : List (List Nat)} (h : H a = some (.lst (vws A))) : Dp K H (.ref a) (dws A) := .lst (sq h) (dp_ws _)
theorem dpN {K : PySem.W.Frag} {H : Hp} {a : Addr} {A : List Int} (h : H a = some (.lst (A.map V.int))) : Dp K H (.ref a) (dns A) := .lst (sq h) (dp_ns _)
theorem dpL2 {K : PySem.W.Frag} {H : Hp} {a : Addr} {x y : V} {d e : PyData} (h : H a = some (.lst [x, y])) (hx : Dp K H x d) (hy : Dp K H y e) : Dp K H (.ref a) (.list [d, e]) := .lst (sq h) (.cons hx (.cons hy .nil))
theorem dpT2 {K : PySem.W.Frag} {H : Hp} {a : Addr} {x y : V} {d e : PyData} (h : H a = some (.tup [x, y])) (hx : Dp K H x d) (hy : Dp K H y e) : Dp K H (.ref a) (.tuple [d, e]) := .tup (.inl (.inl h)) (.cons hx (.cons hy .nil))
theorem nice_l2 {n : Nat} {d e : PyData} (h1 : Nice n d) (h2 : Nice n e) : Nice (n + 1) (.list [d, e]) := nice_list fun x hx => by
  rcases List.mem_cons.mp hx with z | z
  · rw [z]; exact h1
  · rw [List.mem_singleton.mp z]; exact h2
theorem nice_t2 {n : Nat} {d e : PyData} (h1 : Nice n d) (h2 : Nice n e) : Nice (n + 1) (.tuple [d, e]) := nice_tup fun x hx => by
  rcases List.mem_cons.mp hx with z | z
  · rw [z]; exact h1
  · rw [List.mem_singleton.mp z]; exact h2
end Wa
namespace Wa
open PySem PySem.Spec PyProof.Rows L2
/-! len, list, by a named question -/
def rLen (K : PySem.W.Frag) : List V → Hp → VK → Prop := fun xs H Q => ∃ p ys, xs = [.ref p] ∧ (SqL K H p ys ∨ SqT K H p ys) ∧ Q (.int ys.length) H
theorem call_lenK {X : Cx} : CallR X (.builtin "len") (rLen X.K) := call_len_seq
def rListOf (K : PySem.W.Frag) : List V → Hp → VK → Prop := fun xs H Q => ∃ p ys, xs = [.ref p] ∧ (SqL K H p ys ∨ SqT K H p ys) ∧ ∀ l, H l = none → Q (.ref l) (upd H l (.lst ys))
theorem call_listK {X : Cx} : CallR X (.type "list") (rListOf X.K) := call_list_of
end Wa
namespace Wa
open PySem PySem.Spec PyProof.Rows L2
/-! sizes by drawn numbers -/
/-- how long words may be -/
def cap (q : Nat) : Nat := if q = 2 then 8 else 5
theorem cap_pos (q : Nat) : 0 < cap q := by
  unfold cap
  split <;> decide
theorem cap_at {q : Nat} (h : q = 2 ∨ q = 3) : atI [V.int 8, V.int 5] ((q : Int) - 2) = some (.int (cap q : Nat)) := by
  rcases h with h | h <;> rw [h] <;> rfl
theorem two_three (x : Int) : ∃ q : Nat, 2 + x % 2 = (q : Int) ∧ (q = 2 ∨ q = 3) := ⟨(2 + x % 2).toNat, by omega, by omega⟩
theorem len_qn {q : Nat} (h : q = 2 ∨ q = 3) (y : Int) : ∃ n : Nat, 1 + y % ((cap q : Nat) : Int) = (n : Int) ∧ QN q n := by
  have h0 := cap_pos q
  have e1 := Int.emod_nonneg y (show ((cap q : Nat) : Int) ≠ 0 by omega)
  have e2 := Int.emod_lt_of_pos y (show (0 : Int) < ((cap q : Nat) : Int) by omega)
  refine ⟨(1 + y % ((cap q : Nat) : Int)).toNat, by omega, ?_⟩
  rcases h with h | h
  · subst h
    have : cap 2 = 8 := rfl
    exact .inl ⟨rfl, by omega, by omega⟩
  · subst h
    have : cap 3 = 5 := rfl
    exact .inr ⟨rfl, by omega, by omega⟩
theorem two_of {a b : Nat} (k : Bool) : ∃ m : Nat, (m = a ∨ m = b) ∧ atI [V.int (a : Int), V.int (b : Int)] (if k = true then 1 else 0) = some (.int (m : Int)) := by
  cases k
  · exact ⟨a, .inl rfl, rfl⟩
  · exact ⟨b, .inr rfl, rfl⟩
end Wa
namespace Wa
open PySem PySem.Spec PyProof.Rows L2
/-! operators, the value renamed -/
section
variable {x y z : Int} {H : Hp} {Q : VK}
theorem rdAdd (e : x + y = z) (h : Q (.int z) H) : rI0 (fun i j => V.int (i + j)) (.int x) (.int y) H Q := ⟨x, y, rfl, rfl, by rw [← e] at h; exact h⟩
theorem rdSub (e : x - y = z) (h : Q (.int z) H) : rI0 (fun i j => V.int (i - j)) (.int x) (.int y) H Q := ⟨x, y, rfl, rfl, by rw [← e] at h; exact h⟩
theorem rdMod (h0 : 0 < y) (e : x % y = z) (h : Q (.int z) H) : rI (fun _ j => 0 < j) (fun i j => V.int (i % j)) (.int x) (.int y) H Q := ⟨x, y, rfl, rfl, h0, by rw [← e] at h; exact h⟩
theorem rdDiv (h0 : CDiv x y) (e : x / y = z) (h : Q (.int z) H) : rI CDiv (fun i j => V.int (i / j)) (.int x) (.int y) H Q := ⟨x, y, rfl, rfl, h0, by rw [← e] at h; exact h⟩
end
end Wa
namespace Wa
open PySem PySem.Spec PyProof.Rows L2
theorem join2 {α : Type} {goal : Prop} {C P : α → Hp → Prop} (main : (∀ x Hx, P x Hx → C x Hx) → goal) (rest : ∀ x Hx, P x Hx → C x Hx) : goal := main rest
end Wa
namespace Wa
open PySem PySem.Spec PyProof.Rows L2
/-- what stood stands but for what is at a; tables may have grown -/
structure OG (a : Addr) (H H' : Hp) : Prop where
  keep : ∀ b o, b ≠ a → H b = some o → (∀ ps, o ≠ .tbl ps) → H' b = some o
  tab : ∀ b, b ≠ a → GxR.TabG H b → GxR.TabG H' b
  there : ∀ b o, H b = some o → ∃ o', H' b = some o'
theorem OG.gr {a : Addr} {H H' : Hp} (g : Gr H H') : OG a H H' := ⟨fun b o _ e n => g.keep b o e n, fun b _ h => g.tab b h, g.there⟩
theorem OG.trans {a : Addr} {H H1 H2 : Hp} (x : OG a H H1) (y : OG a H1 H2) : OG a H H2 := ⟨fun b o n e t => y.keep b o n (x.keep b o n e t) t, fun b n h => y.tab b n (x.tab b n h), fun b o e => by
  obtain ⟨o1, e1⟩ := x.there b o e
  exact y.there b o1 e1⟩
theorem OG.pop {a : Addr} {H H' : Hp} (h : ∀ b, b ≠ a → ∀ o, H b = some o → H' b = some o) (ha : ∃ o, H' a = some o) : OG a H H' := ⟨fun b o n e _ => h b n o e, fun b n t => by
  obtain ⟨ps, e, q⟩ := t
  exact ⟨ps, h b n _ e, q⟩, fun b o e => by
  by_cases hb : b = a
  · rw [hb]; exact ha
  · exact ⟨o, h b hb o e⟩⟩
theorem OG.others {a : Addr} {H H' : Hp} (h : Others a H H') (ha : ∃ o, H' a = some o) : OG a H H' := OG.pop (fun b n o e => h b o n e) ha
theorem OG.over {a p : Addr} {H H1 : Hp} {o : HO} (g : OG a H H1) (h : H p = none) : OG a H (upd H1 p o) where
  keep := fun b u n e t => by
    rw [upd_ne (ne_of_none e h)]
    exact g.keep b u n e t
  tab := fun b n hb => by
    obtain ⟨ps, e, q⟩ := g.tab b n hb
    obtain ⟨ps0, e0, _⟩ := hb
    exact ⟨ps, by rw [upd_ne (ne_of_none e0 h)]; exact e, q⟩
  there := fun b u e => by
    rw [upd_ne (ne_of_none e h)]
    exact g.there b u e
theorem OG.free {a l : Addr} {H H' : Hp} (g : OG a H H') (h : H' l = none) : H l = none := by
  cases q : H l with
  | none => rfl
  | some o =>
    obtain ⟨o', e⟩ := g.there l o q
    rw [e] at h
    cases h
theorem at_og {H H9 : Hp} {l a : Addr} {xs : List V} (g : OG l H H9) (n : a ≠ l) (h : H a = some (.lst xs)) : H9 a = some (.lst xs) := g.keep a _ n h fun _ z => by cases z
theorem at_ogT {H H9 : Hp} {l a : Addr} {xs : List V} (g : OG l H H9) (n : a ≠ l) (h : H a = some (.tup xs)) : H9 a = some (.tup xs) := g.keep a _ n h fun _ z => by cases z
theorem tb_og {H H9 : Hp} {l P : Addr} {xs : List V} (g : OG l H H9) (hl : H l = some (.lst xs)) (h : GxR.TabG H P) : GxR.TabG H9 P := g.tab P (tb_ne h hl) h
end Wa
namespace Wa
open PySem PySem.Spec PyProof.Rows L2
theorem flat_vws (S : List (List Nat)) : (vws S).all flatV = true := by
  rw [List.all_eq_true]
  intro x hx
  obtain ⟨w, _, rfl⟩ := List.mem_map.mp hx
  rfl
theorem in_wsv (w : List Nat) (S : List (List Nat)) : inV (.str (wd w)) (vws S) = decide (w ∈ S) := by
  have key : inV (.str (wd w)) (vws S) = true ↔ w ∈ S := by
    unfold inV vws
    rw [List.any_map, List.any_eq_true]
    constructor
    · rintro ⟨u, hu, e⟩
      have e : (wd u == wd w) = true := e
      rw [← wd_inj (beq_iff_eq.mp e)]
      exact hu
    · intro h
      exact ⟨w, h, by show (wd w == wd w) = true; exact beq_self_eq_true _⟩
  by_cases h : w ∈ S
  · rw [decide_eq_true h]; exact key.mpr h
  · rw [decide_eq_false h, Bool.eq_false_iff]; exact fun z => h (key.mp z)
theorem inW {K : PySem.W.Frag} {H : Hp} {a : Addr} {S : List (List Nat)} {w : List Nat} {Q : VK} (ha : H a = some (.lst (vws S))) (h : Q (.bl (decide (w ∈ S))) H) : rIn K false (.str (wd w)) (.ref a) H Q :=
  ⟨a, _, rfl, .inl (sq ha), rfl, flat_vws S, by rw [in_wsv]; exact h⟩
theorem notInW {K : PySem.W.Frag} {H : Hp} {a : Addr} {S : List (List Nat)} {w : List Nat} {Q : VK} (ha : H a = some (.lst (vws S))) (h : Q (.bl (!decide (w ∈ S))) H) : rIn K true (.str (wd w)) (.ref a) H Q :=
  ⟨a, _, rfl, .inl (sq ha), rfl, flat_vws S, by rw [in_wsv]; exact h⟩
end Wa
namespace Wa
open PySem PySem.Spec PyProof.Rows L2
def topS (i : Nat) : Stmt := PySem.Challenge.pw_wordsapart_k43_texts_of_papers_looked_at.main.body.getD i (.Pass ⟨0, 0, 0, 0⟩)
abbrev sNumberIn : Stmt := topS 13
abbrev sPartsIn : Stmt := topS 14
abbrev sReadNumber : Stmt := topS 15
abbrev sReadInmost : Stmt := topS 16
abbrev sReadPaper : Stmt := topS 17
abbrev sDraws : Stmt := topS 19
abbrev sPop : Stmt := topS 20
abbrev sLNumber : Stmt := topS 21
abbrev sLPaper : Stmt := topS 22
abbrev sLPapText : Stmt := topS 23
abbrev sLSame : Stmt := topS 24
abbrev sLNumIn : Stmt := topS 25
abbrev sLPlainIn : Stmt := topS 26
abbrev sLPaperIn : Stmt := topS 27
abbrev sLOnly : Stmt := topS 28
abbrev sLBent42 : Stmt := topS 29
abbrev sLOdd : Stmt := topS 30
abbrev sLaw : Stmt := topS 31
end Wa
namespace Wa
open PySem PySem.Spec PyProof.Rows L2
/-! marks, and the distance by them -/
/-- how many bits are one -/
def ones (n : Nat) : Nat := (Nat.toDigits 2 n).count '1'
theorem ones_step {n d : Nat} (hd : d < 2) : ones (2 * n + d) = ones n + d := by
  have h1 : ones d = d := by
    rcases (show d = 0 ∨ d = 1 by omega) with e | e <;> rw [e] <;> decide
  by_cases h0 : n = 0
  · subst h0
    rw [Nat.mul_zero, Nat.zero_add, h1]
    have : ones 0 = 0 := by decide
    omega
  · have := Nat.toDigits_append_toDigits (b := 2) (n := n) (d := d) (by decide) (by omega) hd
    have e : ones (2 * n + d) = ones n + ones d := by
      unfold ones
      rw [← this, List.count_append]
    rw [e, h1]
theorem ones_eight {n x : Nat} (hx : x < 8) : ones (8 * n + x) = ones n + ones x := by
  have e1 : 8 * n + x = 2 * (2 * (2 * n + x / 4) + x / 2 % 2) + x % 2 := by omega
  have e2 : x = 2 * (2 * (2 * 0 + x / 4) + x / 2 % 2) + x % 2 := by omega
  have h1 : ones (8 * n + x) = ones n + x / 4 + x / 2 % 2 + x % 2 := by rw [e1, ones_step (by omega), ones_step (by omega), ones_step (by omega)]
  have h2 : ones x = ones 0 + x / 4 + x / 2 % 2 + x % 2 := by
    have := ones_step (n := 2 * (2 * 0 + x / 4) + x / 2 % 2) (d := x % 2) (by omega)
    rw [← e2, ones_step (by omega), ones_step (by omega)] at this
    exact this
  have h3 : ones 0 = 0 := by decide
  omega
theorem xor_eight {a b x y : Nat} (hx : x < 8) (hy : y < 8) : (8 * a + x) ^^^ (8 * b + y) = 8 * (a ^^^ b) + (x ^^^ y) := by
  have hm : ((8 * a + x) ^^^ (8 * b + y)) % 2 ^ 3 = x ^^^ y := by
    rw [Nat.xor_mod_two_pow]
    have e1 : (8 * a + x) % 2 ^ 3 = x := by show (8 * a + x) % 8 = x; omega
    have e2 : (8 * b + y) % 2 ^ 3 = y := by show (8 * b + y) % 8 = y; omega
    rw [e1, e2]
  have hd : ((8 * a + x) ^^^ (8 * b + y)) / 2 ^ 3 = a ^^^ b := by
    rw [Nat.xor_div_two_pow]
    have e1 : (8 * a + x) / 2 ^ 3 = a := by show (8 * a + x) / 8 = a; omega
    have e2 : (8 * b + y) / 2 ^ 3 = b := by show (8 * b + y) / 8 = b; omega
    rw [e1, e2]
  have hm' : ((8 * a + x) ^^^ (8 * b + y)) % 8 = x ^^^ y := hm
  have hd' : ((8 * a + x) ^^^ (8 * b + y)) / 8 = a ^^^ b := hd
  omega
def mk (m : Nat) (w : List Nat) : Nat := w.foldl (fun n s => 8 * n + 2 ^ s) m
theorem mk_snoc (m : Nat) (w : List Nat) (s : Nat) : mk m (w ++ [s]) = 8 * mk m w + 2 ^ s := by
  unfold mk
  rw [List.foldl_append]
  rfl
theorem mk_lt : ∀ (w : List Nat), (∀ d ∈ w, d < 3) → mk 0 w < 8 ^ w.length := by
  have key : ∀ (w : List Nat) (m k : Nat), (∀ d ∈ w, d < 3) → m < 8 ^ k → mk m w < 8 ^ (k + w.length) := by
    intro w
    induction w with
    | nil => exact fun m k _ h => h
    | cons x w ih =>
      intro m k hw hm
      have hx := hw x List.mem_cons_self
      have h2 : 2 ^ x ≤ 4 := by
        rcases (show x = 0 ∨ x = 1 ∨ x = 2 by omega) with e | e | e <;> rw [e] <;> decide
      have := ih (8 * m + 2 ^ x) (k + 1) (fun d h => hw d (List.mem_cons_of_mem _ h)) (by rw [Nat.pow_succ]; omega)
      rw [List.length_cons, show k + (w.length + 1) = k + 1 + w.length by omega]
      exact this
  intro w hw
  have := key w 0 0 hw (by decide)
  rw [Nat.zero_add] at this
  exact this
theorem ones_two {x y : Nat} (hx : x < 3) (hy : y < 3) : 2 ^ x ^^^ 2 ^ y < 8 ∧ ones (2 ^ x ^^^ 2 ^ y) = 2 * (if x = y then 0 else 1) := by
  rcases (show x = 0 ∨ x = 1 ∨ x = 2 by omega) with e | e | e <;> rcases (show y = 0 ∨ y = 1 ∨ y = 2 by omega) with e' | e' | e' <;> rw [e, e'] <;> decide
theorem gap_eq : ∀ (a b : List Nat) (m k : Nat), a.length = b.length → (∀ d ∈ a, d < 3) → (∀ d ∈ b, d < 3) → ones (mk m a ^^^ mk k b) = ones (m ^^^ k) + 2 * dist a b
  | [], [], m, k, _, _, _ => rfl
  | [], _ :: _, _, _, h, _, _ => by cases h
  | _ :: _, [], _, _, h, _, _ => by cases h
  | x :: a, y :: b, m, k, h, ha, hb => by
    have hx := ha x List.mem_cons_self
    have hy := hb y List.mem_cons_self
    have ih := gap_eq a b (8 * m + 2 ^ x) (8 * k + 2 ^ y) (by injection h) (fun d h => ha d (List.mem_cons_of_mem _ h)) (fun d h => hb d (List.mem_cons_of_mem _ h))
    have p8 : ∀ z, z < 3 → 2 ^ z < 8 := fun z hz => by
      rcases (show z = 0 ∨ z = 1 ∨ z = 2 by omega) with e | e | e <;> rw [e] <;> decide
    obtain ⟨l1, l2⟩ := ones_two hx hy
    rw [xor_eight (p8 x hx) (p8 y hy), ones_eight l1, l2] at ih
    show ones (mk (8 * m + 2 ^ x) a ^^^ mk (8 * k + 2 ^ y) b) = ones (m ^^^ k) + 2 * ((if x = y then 0 else 1) + dist a b)
    rw [ih]
    omega
theorem gap_dist {a b : List Nat} (h : a.length = b.length) (ha : ∀ d ∈ a, d < 3) (hb : ∀ d ∈ b, d < 3) : ones (mk 0 a ^^^ mk 0 b) = 2 * dist a b := by
  rw [gap_eq a b 0 0 h ha hb]
  have : ones (0 ^^^ 0) = 0 := by decide
  omega
theorem bits_count (n : Nat) : Txt.count (bitsS n) ("1" : Str) = (ones n : Int) := by
  have e0 : ("1" : Str) = ⟨#[49]⟩ := by decide +kernel
  rw [e0, count_sign]
  congr 1
  show ((Nat.toDigits 2 n).map Char.toNat).count 49 = _
  unfold ones
  have key : ∀ l : List Char, (l.map Char.toNat).count 49 = l.count '1' := by
    intro l
    induction l with
    | nil => rfl
    | cons c l ih =>
      rw [List.map_cons, List.count_cons, List.count_cons, ih]
      by_cases e : c = '1'
      · rw [e]
        rfl
      · rw [if_neg (by
          intro z
          have h : c.toNat = 49 := beq_iff_eq.mp z
          exact e (Char.toNat_inj.mp h)), if_neg (by intro z; exact e (beq_iff_eq.mp z))]
  exact key _
theorem bits_len {n k : Nat} (h : n < 2 ^ k) (hk : 0 < k) : (bitsS n).length ≤ k := by
  show ((Nat.toDigits 2 n).map Char.toNat).toArray.size ≤ k
  rw [List.size_toArray, List.length_map]
  exact (Nat.length_toDigits_le_iff (by decide) hk).mpr h
end Wa
namespace Wa
open PySem PySem.Spec PyProof.Rows L2
/-! lists of marks -/
def mks (ws : List (List Nat)) : List Int := ws.map fun w => ((mk 0 w : Nat) : Int)
theorem mks_get {ws : List (List Nat)} {i : Nat} {w : List Nat} (h : ws[i]? = some w) : ((mks ws).map V.int)[i]? = some (.int (mk 0 w : Nat)) := by
  unfold mks
  rw [List.getElem?_map, List.getElem?_map, h]
  rfl
theorem mks_len (ws : List (List Nat)) : ((mks ws).map V.int).length = ws.length := by
  unfold mks
  rw [List.length_map, List.length_map]
theorem mks_snoc (ws : List (List Nat)) (w : List Nat) : (mks (ws ++ [w])).map V.int = (mks ws).map V.int ++ [V.int (mk 0 w : Nat)] := by
  unfold mks
  rw [List.map_append, List.map_append]
  rfl
end Wa
namespace Wa
open PySem PySem.Spec PyProof.Rows L2
/-! the least distance -/
def IsMin (m : Nat) (l : List Nat) : Prop := m ∈ l ∧ ∀ y ∈ l, m ≤ y
theorem IsMin.eq {m k : Nat} {l l' : List Nat} (h : IsMin m l) (h' : IsMin k l') (e : ∀ y, y ∈ l ↔ y ∈ l') : m = k := by
  have h1 := h.2 k ((e k).mpr h'.1)
  have h2 := h'.2 m ((e m).mp h.1)
  omega
/-- the distances to the words ahead -/
def ahd (ws : List (List Nat)) (k : Nat) : List Nat := match ws[k]? with | some w => (ws.take k).map (dist w) | none => []
theorem ahd_some {ws : List (List Nat)} {k : Nat} {w : List Nat} (h : ws[k]? = some w) : ahd ws k = (ws.take k).map (dist w) := by
  unfold ahd
  rw [h]
def gps (ws : List (List Nat)) : List Nat := (List.range ws.length).flatMap (ahd ws)
theorem mem_gps {ws : List (List Nat)} {y : Nat} : y ∈ gps ws ↔ ∃ (i j : Nat) (u v : List Nat), i < j ∧ ws[i]? = some u ∧ ws[j]? = some v ∧ dist v u = y := by
  unfold gps
  rw [List.mem_flatMap]
  constructor
  · rintro ⟨j, hj, hy⟩
    have hj := List.mem_range.mp hj
    have gj : ws[j]? = some ws[j] := List.getElem?_eq_getElem hj
    rw [ahd_some gj] at hy
    obtain ⟨u, hu, e⟩ := List.mem_map.mp hy
    obtain ⟨i, hi, ei⟩ := List.getElem_of_mem hu
    rw [List.length_take] at hi
    refine ⟨i, j, u, ws[j], by omega, ?_, gj, e⟩
    rw [List.getElem_take] at ei
    rw [List.getElem?_eq_getElem (by omega), ei]
  · rintro ⟨i, j, u, v, hij, gi, gj, e⟩
    have hj : j < ws.length := (List.getElem?_eq_some_iff.mp gj).1
    refine ⟨j, List.mem_range.mpr hj, ?_⟩
    rw [ahd_some gj]
    refine List.mem_map.mpr ⟨u, ?_, e⟩
    refine List.mem_of_getElem? (i := i) ?_
    rw [List.getElem?_take, if_pos hij]
    exact gi
theorem gps_rev (ws : List (List Nat)) : ∀ y, y ∈ gps ws.reverse ↔ y ∈ gps ws := by
  have key : ∀ (ws : List (List Nat)) y, y ∈ gps ws → y ∈ gps ws.reverse := by
    intro ws y h
    obtain ⟨i, j, u, v, hij, gi, gj, e⟩ := mem_gps.mp h
    have hj : j < ws.length := (List.getElem?_eq_some_iff.mp gj).1
    refine mem_gps.mpr ⟨ws.length - 1 - j, ws.length - 1 - i, v, u, by omega, ?_, ?_, by rw [dist_comm]; exact e⟩
    · rw [List.getElem?_reverse (by omega), show ws.length - 1 - (ws.length - 1 - j) = j by omega]
      exact gj
    · rw [List.getElem?_reverse (by omega), show ws.length - 1 - (ws.length - 1 - i) = i by omega]
      exact gi
  intro y
  refine ⟨fun h => ?_, key ws y⟩
  have := key _ y h
  rw [List.reverse_reverse] at this
  exact this
theorem gps_nil {ws : List (List Nat)} : gps ws = [] ↔ ws.length < 2 := by
  constructor
  · intro h
    apply Classical.byContradiction
    intro z
    have : dist ws[1] ws[0] ∈ gps ws := mem_gps.mpr ⟨0, 1, ws[0], ws[1], by decide, List.getElem?_eq_getElem (by omega), List.getElem?_eq_getElem (by omega), rfl⟩
    rw [h] at this
    cases this
  · intro h
    rw [List.eq_nil_iff_forall_not_mem]
    intro y hy
    obtain ⟨i, j, u, v, hij, gi, gj, e⟩ := mem_gps.mp hy
    have hj : j < ws.length := (List.getElem?_eq_some_iff.mp gj).1
    omega
/-- the least of what each has ahead of it is the least of all -/
theorem min_all {ws : List (List Nat)} {ms : List Nat} (hl : ms.length + 1 = ws.length) (h : ∀ i m, ms[i]? = some m → IsMin m (ahd ws (i + 1))) {m : Nat} (hm : m ∈ ms) (hle : ∀ y ∈ ms, m ≤ y) : IsMin m (gps ws) := by
  obtain ⟨i, hi, ei⟩ := List.getElem_of_mem hm
  have gi : ms[i]? = some m := by rw [List.getElem?_eq_getElem hi, ei]
  refine ⟨List.mem_flatMap.mpr ⟨i + 1, List.mem_range.mpr (by omega), (h i m gi).1⟩, fun y hy => ?_⟩
  obtain ⟨k, hk, hy⟩ := List.mem_flatMap.mp hy
  have hk := List.mem_range.mp hk
  cases k with
  | zero =>
    rw [ahd_some (List.getElem?_eq_getElem hk), List.take_zero] at hy
    cases hy
  | succ k =>
    have gk : ms[k]? = some ms[k] := List.getElem?_eq_getElem (by omega)
    exact Nat.le_trans (hle _ (List.mem_of_getElem? gk)) ((h k _ gk).2 y hy)
def vns (ds : List Nat) : List V := ds.map fun d : Nat => V.int (d : Int)
def ins (ds : List Nat) : List Int := ds.map fun d : Nat => (d : Int)
theorem vns_ins (ds : List Nat) : (ins ds).map V.int = vns ds := by
  unfold ins vns
  rw [List.map_map]
  rfl
theorem vns_len (ds : List Nat) : (vns ds).length = ds.length := List.length_map ..
theorem vns_snoc (ds : List Nat) (d : Nat) : vns (ds ++ [d]) = vns ds ++ [V.int (d : Int)] := List.map_append ..
theorem min_ins {ds : List Nat} {m : Int} (hm : m ∈ ins ds) (hl : ∀ y ∈ ins ds, m ≤ y) : ∃ k : Nat, m = k ∧ IsMin k ds := by
  obtain ⟨k, hk, e⟩ := List.mem_map.mp hm
  refine ⟨k, e.symm, hk, fun y hy => ?_⟩
  have := hl y (List.mem_map.mpr ⟨y, hy, rfl⟩)
  omega
def Ws (ws : List (List Nat)) : Prop := ∃ q n, q ≤ 3 ∧ n ≤ 16 ∧ ∀ w ∈ ws, Wd q n w
theorem cut_mks (ws : List (List Nat)) (k : Nat) (h : k ≤ ws.length) : cutV ((mks ws).map V.int) none (some (k : Int)) = (mks (ws.take k)).map V.int := by
  unfold cutV
  rw [HT.sIx_none, List.drop_zero, Nat.sub_zero]
  have e : HT.sIx ((mks ws).map V.int).length ((mks ws).map V.int).length (some (k : Int)) = k := by
    rw [mks_len, HT.sIx_nat]
    exact Nat.min_eq_left h
  rw [e]
  unfold mks
  rw [List.map_take, List.map_take]
end Wa
namespace Wa
open PySem PySem.Spec PyProof.Rows L2
/-! all, sum over generator expressions, by what each turn gives -/
theorem allG {α : Type} {J : It} {H1 : Hp} {l : List α} {Φ : α → Hp → V → Prop} {g : TG} {te : TE} {vs : List Nat} {σ : L2.St} {Q : VK} (hJ : HandsR J H1 l Φ) (p : α → Bool)
    (hs : ∀ d x H' (Y : VK) (N : Hp → Prop), d ∈ l → Gr H1 H' → Φ d H' x → (∀ H'', Gr H' H'' → Y (.bl (p d)) H'') → g x (wipe σ vs) H' fun σ2 H2 => wipe σ2 vs = wipe σ vs ∧ tYes σ2 H2 fun b H3 => if b = true then te σ2 H3 Y else N H3)
    (hd : ∀ H', Gr H1 H' → Q (.bl (l.all p)) H') : ∃ W : Nat → Nat → List V → Hp → Prop, (∃ m, W 0 m [] H1) ∧ Gx.Turns J g tYes te vs σ (Gx.onAll Q) (Gx.finAll Q) W := by
  refine turns_n l.length (fun i acc H' => Gr H1 H' ∧ ∀ d ∈ l.take i, p d = true) ⟨Gr.refl _, fun d h => absurd h (by simp)⟩ (fun i acc H' hi ⟨i1, i2⟩ => ⟨hJ.go i H' hi i1, fun x H'' y => ?_⟩) (fun acc H' ⟨i1, i2⟩ => ⟨hJ.stop H' i1, ?_⟩)
  · obtain ⟨g1, d, ed, ex⟩ := hJ.yld i H' x H'' hi i1 y
    have hm := List.mem_of_getElem? ed
    refine hs d x H'' _ _ hm (i1.trans g1) ex fun H3 g3 => ⟨p d, rfl, ?_⟩
    have gg := i1.trans (g1.trans g3)
    by_cases e : p d = true
    · rw [if_pos e]
      refine ⟨gg, fun u hu => ?_⟩
      rw [List.take_add_one, ed] at hu
      rcases List.mem_append.mp hu with z | z
      · exact i2 u z
      · rw [List.mem_singleton.mp z]
        exact e
    · rw [if_neg e]
      have ef : l.all p = false := by
        rw [Bool.eq_false_iff]
        intro z
        exact e (List.all_eq_true.mp z d hm)
      have := hd H3 gg
      rw [ef] at this
      exact this
  · rw [List.take_length] at i2
    have := hd H' i1
    rw [List.all_eq_true.mpr i2] at this
    exact this
theorem isum_app (a : List V) (i : Int) : Gx.isum (a ++ [.int i]) = Gx.isum a + i := by
  induction a with
  | nil => show i + 0 = 0 + i; omega
  | cons x a ih =>
    cases x <;> show _ = _ <;> first | exact ih | skip
    rename_i j
    show j + Gx.isum (a ++ [.int i]) = j + Gx.isum a + i
    omega
/-! the least, the greatest -/
def mnL : List Nat → Nat
  | [] => 0
  | [x] => x
  | x :: y :: r => min x (mnL (y :: r))
theorem mnL_is : ∀ {l : List Nat}, l ≠ [] → IsMin (mnL l) l
  | [], h => absurd rfl h
  | [x], _ => ⟨List.mem_singleton.mpr rfl, fun y hy => by rw [List.mem_singleton.mp hy]; exact Nat.le_refl x⟩
  | x :: y :: r, _ => by
    obtain ⟨h1, h2⟩ := mnL_is (l := y :: r) (by simp)
    show IsMin (min x (mnL (y :: r))) _
    refine ⟨?_, fun z hz => ?_⟩
    · by_cases h : x ≤ mnL (y :: r)
      · rw [Nat.min_eq_left h]
        exact List.mem_cons_self
      · rw [Nat.min_eq_right (by omega)]
        exact List.mem_cons_of_mem _ h1
    · rcases List.mem_cons.mp hz with e | hz
      · rw [e]
        exact Nat.min_le_left ..
      · exact Nat.le_trans (Nat.min_le_right ..) (h2 z hz)
theorem mnL_eq {l : List Nat} {m : Nat} (h : IsMin m l) : m = mnL l := by
  have hne : l ≠ [] := fun z => by
    have := h.1
    rw [z] at this
    cases this
  exact h.eq (mnL_is hne) fun y => Iff.rfl
def mxL (l : List Nat) : Nat := l.foldl max 0
theorem foldl_max : ∀ (l : List Nat) (a : Nat), a ≤ l.foldl max a ∧ (∀ y ∈ l, y ≤ l.foldl max a) ∧ (l.foldl max a = a ∨ l.foldl max a ∈ l)
  | [], a => ⟨Nat.le_refl _, fun y h => absurd h (by simp), .inl rfl⟩
  | x :: l, a => by
    obtain ⟨h1, h2, h3⟩ := foldl_max l (max a x)
    show a ≤ l.foldl max (max a x) ∧ _
    refine ⟨by omega, fun y hy => ?_, ?_⟩
    · show y ≤ l.foldl max (max a x)
      rcases List.mem_cons.mp hy with e | hy
      · rw [e]; omega
      · exact h2 y hy
    · show l.foldl max (max a x) = a ∨ l.foldl max (max a x) ∈ x :: l
      rcases h3 with e | h3
      · by_cases h : a ≤ x
        · rw [e, Nat.max_eq_right h]
          exact .inr List.mem_cons_self
        · exact .inl (by omega)
      · exact .inr (List.mem_cons_of_mem _ h3)
theorem mxL_ge {l : List Nat} : ∀ y ∈ l, y ≤ mxL l := (foldl_max l 0).2.1
theorem mxL_eq {l : List Nat} {m : Nat} (hm : m ∈ l) (h : ∀ y ∈ l, y ≤ m) : m = mxL l := by
  have h1 := mxL_ge m hm
  rcases (foldl_max l 0).2.2 with e | e
  · have : mxL l = 0 := e
    omega
  · have := h _ e
    have : mxL l ≤ m := this
    omega
theorem mxL_mem {l : List Nat} (h : l ≠ []) : mxL l ∈ l := by
  rcases (foldl_max l 0).2.2 with e | e
  · obtain ⟨x, r, rfl⟩ := List.exists_cons_of_ne_nil h
    have h1 := mxL_ge (l := x :: r) x List.mem_cons_self
    have e : mxL (x :: r) = 0 := e
    have : x = 0 := by omega
    rw [e]
    rw [← this]
    exact List.mem_cons_self
  · exact e
end Wa
namespace Wa
open PySem PySem.Spec PyProof.Rows L2
/-! lists taken in order -/
def farA (d : Int) (u : List Nat) (C : List (List Nat)) : Bool := C.all fun w => decide (d ≤ (dist u w : Int))
def gstep (d : Int) (C : List (List Nat)) (w : List Nat) : List (List Nat) := if farA d w C = true then C ++ [w] else C
theorem gstep_pos {d : Int} {C : List (List Nat)} {w : List Nat} (h : farA d w C = true) : gstep d C w = C ++ [w] := by
  unfold gstep
  rw [if_pos h]
theorem gstep_neg {d : Int} {C : List (List Nat)} {w : List Nat} (h : ¬ farA d w C = true) : gstep d C w = C := by
  unfold gstep
  rw [if_neg h]
def grd (q n : Nat) (d : Int) (C : List (List Nat)) : List (List Nat) := (allD q n).foldl (gstep d) C
theorem gfold_mem {d : Int} : ∀ (L C : List (List Nat)), ∀ w ∈ L.foldl (gstep d) C, w ∈ C ∨ w ∈ L
  | [], _, w, h => .inl h
  | x :: L, C, w, h => by
    rcases gfold_mem L (gstep d C x) w h with z | z
    · unfold gstep at z
      split at z
      · rcases List.mem_append.mp z with z | z
        · exact .inl z
        · exact .inr (by rw [List.mem_singleton.mp z]; exact List.mem_cons_self)
      · exact .inl z
    · exact .inr (List.mem_cons_of_mem _ z)
theorem gfold_len {d : Int} : ∀ (L C : List (List Nat)), (L.foldl (gstep d) C).length ≤ C.length + L.length
  | [], _ => Nat.le_refl _
  | x :: L, C => by
    have := gfold_len (d := d) L (gstep d C x)
    have h2 : (gstep d C x).length ≤ C.length + 1 := by
      unfold gstep
      split
      · rw [List.length_append]; exact Nat.le_refl _
      · omega
    show (L.foldl (gstep d) (gstep d C x)).length ≤ C.length + (L.length + 1)
    omega
theorem gfold_take {d : Int} {L C : List (List Nat)} {i : Nat} {w : List Nat} (h : L[i]? = some w) : (L.take (i + 1)).foldl (gstep d) C = gstep d ((L.take i).foldl (gstep d) C) w := by
  rw [List.take_add_one, h, List.foldl_append]
  rfl
theorem allD_wd {q n : Nat} : ∀ w ∈ allD q n, Wd q n w := fun w h => ⟨(allD_mem h).1, (allD_mem h).2⟩
theorem grd_wd {q n : Nat} {d : Int} {C : List (List Nat)} (h : ∀ w ∈ C, Wd q n w) : ∀ w ∈ grd q n d C, Wd q n w := fun w hw => by
  rcases gfold_mem _ _ w hw with z | z
  · exact h w z
  · exact allD_wd w z
theorem near_nil {d : Int} {C : List (List Nat)} {u : List Nat} : (C.filter fun w => decide ((dist w u : Int) < d)) = [] ↔ farA d u C = true := by
  unfold farA
  rw [List.filter_eq_nil_iff, List.all_eq_true]
  constructor
  · intro h w hw
    have := h w hw
    rw [dist_comm u w]
    exact decide_eq_true (by
      have h2 : ¬ (dist w u : Int) < d := fun z => this (decide_eq_true z)
      omega)
  · intro h w hw z
    have h1 := of_decide_eq_true (h w hw)
    have h2 := of_decide_eq_true z
    rw [dist_comm u w] at h1
    omega
/-- no two nearer than that -/
def Apt (d : Int) (ws : List (List Nat)) : Prop := ws.Pairwise fun a b => d ≤ (dist a b : Int)
theorem apt_snoc {d : Int} {ws : List (List Nat)} {w : List Nat} (h : Apt d ws) (hw : ∀ u ∈ ws, d ≤ (dist u w : Int)) : Apt d (ws ++ [w]) := List.pairwise_append.mpr ⟨h, List.pairwise_singleton .., fun a ha b hb => by rw [List.mem_singleton.mp hb]; exact hw a ha⟩
theorem gfold_apt {d : Int} : ∀ (L C : List (List Nat)), Apt d C → Apt d (L.foldl (gstep d) C)
  | [], _, h => h
  | x :: L, C, h => by
    refine gfold_apt L (gstep d C x) ?_
    unfold gstep
    split
    · rename_i e
      refine apt_snoc h fun u hu => ?_
      have := of_decide_eq_true (List.all_eq_true.mp e u hu)
      rw [dist_comm]
      exact this
    · exact h
theorem gfold_sub {d : Int} : ∀ (L C : List (List Nat)), ∀ w ∈ C, w ∈ L.foldl (gstep d) C
  | [], _, w, h => h
  | x :: L, C, w, h => by
    refine gfold_sub L (gstep d C x) w ?_
    unfold gstep
    split
    · exact List.mem_append_left _ h
    · exact h
theorem far_not {d : Int} {C : List (List Nat)} {u : List Nat} (h : ¬ farA d u C = true) : ∃ c ∈ C, (dist c u : Int) < d := by
  apply Classical.byContradiction
  intro z
  refine h (List.all_eq_true.mpr fun c hc => decide_eq_true ?_)
  apply Classical.byContradiction
  intro y
  exact z ⟨c, hc, by rw [dist_comm]; omega⟩
theorem gfold_cover {d : Int} : ∀ (L C : List (List Nat)), ∀ w ∈ L, w ∈ L.foldl (gstep d) C ∨ ∃ c ∈ L.foldl (gstep d) C, (dist c w : Int) < d
  | [], _, w, h => absurd h (by simp)
  | x :: L, C, w, h => by
    rcases List.mem_cons.mp h with e | h
    · subst e
      by_cases e : farA d w C = true
      · exact .inl (gfold_sub L _ w (by rw [gstep_pos e]; exact List.mem_append_right _ (List.mem_singleton.mpr rfl)))
      · obtain ⟨c, hc, hd⟩ := far_not e
        exact .inr ⟨c, gfold_sub L _ c (by rw [gstep_neg e]; exact hc), hd⟩
    · exact gfold_cover L (gstep d C x) w h
theorem gfold_stay {d : Int} : ∀ (L C : List (List Nat)), (∀ w ∈ L, ¬ farA d w C = true) → L.foldl (gstep d) C = C
  | [], _, _ => rfl
  | x :: L, C, h => by
    show L.foldl (gstep d) (gstep d C x) = C
    rw [gstep_neg (h x List.mem_cons_self)]
    exact gfold_stay L C fun w hw => h w (List.mem_cons_of_mem _ hw)
theorem dist_self : ∀ (a : List Nat), dist a a = 0
  | [] => rfl
  | x :: a => by
    show (if x = x then 0 else 1) + dist a a = 0
    rw [if_pos rfl, dist_self a]
/-- every word is near one of it -/
def Cov (q n : Nat) (d : Int) (C : List (List Nat)) : Prop := ∀ w ∈ allD q n, w ∈ C ∨ ∃ c ∈ C, (dist c w : Int) < d
theorem grd_cov {q n : Nat} {d : Int} {C : List (List Nat)} : Cov q n d (srt (grd q n d C)) := fun w hw => by
  rcases gfold_cover (d := d) (allD q n) C w hw with h | ⟨c, hc, h⟩
  · exact .inl (srt_mem.mpr h)
  · exact .inr ⟨c, srt_mem.mpr hc, h⟩
theorem cov_near {q n : Nat} {d : Int} {C : List (List Nat)} (hd : 1 ≤ d) (h : Cov q n d C) {w : List Nat} (hw : w ∈ allD q n) : ∃ c ∈ C, (dist c w : Int) < d := by
  rcases h w hw with h | h
  · exact ⟨w, h, by rw [dist_self]; show (0 : Int) < d; omega⟩
  · exact h
theorem cov_stay {q n : Nat} {d : Int} {C : List (List Nat)} (hd : 1 ≤ d) (h : Cov q n d C) : grd q n d C = C := gfold_stay _ _ fun w hw e => by
  obtain ⟨c, hc, hl⟩ := cov_near hd h hw
  have := of_decide_eq_true (List.all_eq_true.mp e c hc)
  rw [dist_comm] at this
  omega
theorem apt_srt {d : Int} {C : List (List Nat)} (h : Apt d C) : Apt d (srt C) := ((srt_perm C).pairwise_iff fun {x y} h => by rw [dist_comm]; exact h).mpr h
theorem allD_head {q : Nat} (hq : 1 ≤ q) : ∀ n, ∃ r, allD q n = List.replicate n 0 :: r
  | 0 => ⟨[], rfl⟩
  | n + 1 => by
    obtain ⟨r, e⟩ := allD_head hq n
    obtain ⟨k, rfl⟩ : ∃ k, q = k + 1 := ⟨q - 1, by omega⟩
    refine ⟨((List.range k).map Nat.succ).map (fun s => List.replicate n 0 ++ [s]) ++ r.flatMap fun w => (List.range (k + 1)).map fun s => w ++ [s], ?_⟩
    show (allD (k + 1) n).flatMap (fun w => (List.range (k + 1)).map fun s => w ++ [s]) = _
    rw [e, List.flatMap_cons, List.range_succ_eq_map, List.map_cons, List.replicate_succ', List.cons_append]
theorem grd_zero {q n : Nat} {d : Int} (hq : 1 ≤ q) : List.replicate n 0 ∈ grd q n d [] := by
  obtain ⟨r, e⟩ := allD_head hq n
  unfold grd
  rw [e]
  exact gfold_sub r _ _ (by rw [gstep_pos (show farA d (List.replicate n 0) [] = true from rfl)]; exact List.mem_singleton.mpr rfl)
def far (ws : List (List Nat)) (d : Int) : Bool := (gps ws).all fun y => decide (d ≤ (y : Int))
theorem far_iff {ws : List (List Nat)} {d : Int} : far ws d = true ↔ ∀ y ∈ gps ws, d ≤ (y : Int) := by
  unfold far
  rw [List.all_eq_true]
  exact ⟨fun h y hy => of_decide_eq_true (h y hy), fun h y hy => decide_eq_true (h y hy)⟩
theorem far_of_apt {ws : List (List Nat)} {d : Int} (h : Apt d ws) : far ws d = true := far_iff.mpr fun y hy => by
  obtain ⟨i, j, u, v, hij, gi, gj, e⟩ := mem_gps.mp hy
  obtain ⟨h1, e1⟩ := List.getElem?_eq_some_iff.mp gi
  obtain ⟨h2, e2⟩ := List.getElem?_eq_some_iff.mp gj
  have := List.pairwise_iff_getElem.mp h i j h1 h2 hij
  rw [e1, e2, dist_comm, e] at this
  exact this
end Wa
namespace Wa
open PySem PySem.Spec PyProof.Rows L2
/-! ways to choose; waves -/
def chs : Nat → Nat → Nat
  | _, 0 => 1
  | 0, _ + 1 => 0
  | n + 1, k + 1 => chs n k + chs n (k + 1)
theorem chs_zero (n : Nat) : chs n 0 = 1 := by cases n <;> rfl
theorem chs_big : ∀ {n k : Nat}, n < k → chs n k = 0
  | 0, 0, h => absurd h (by decide)
  | 0, k + 1, _ => rfl
  | n + 1, 0, h => absurd h (by omega)
  | n + 1, k + 1, h => by
    show chs n k + chs n (k + 1) = 0
    rw [chs_big (by omega), chs_big (by omega)]
theorem chs_self : ∀ n, chs n n = 1
  | 0 => rfl
  | n + 1 => by
    show chs n n + chs n (n + 1) = 1
    rw [chs_self n, chs_big (by omega)]
/-- told * (a + i + 1) = (i + 1) * next -/
theorem chs_step : ∀ (m k : Nat), chs m k * (m - k) = chs m (k + 1) * (k + 1)
  | 0, k => by
    show _ * (0 - k) = 0 * _
    rw [Nat.zero_sub, Nat.mul_zero, Nat.zero_mul]
  | m + 1, 0 => by
    have ih := chs_step m 0
    show chs (m + 1) 0 * (m + 1) = (chs m 0 + chs m 1) * 1
    rw [chs_zero, chs_zero] at *
    have : chs m (0 + 1) = chs m 1 := rfl
    omega
  | m + 1, k + 1 => by
    have h1 := chs_step m k
    have h2 := chs_step m (k + 1)
    show (chs m k + chs m (k + 1)) * (m + 1 - (k + 1)) = (chs m (k + 1) + chs m (k + 2)) * (k + 2)
    by_cases hk : k + 1 ≤ m
    · obtain ⟨d, rfl⟩ : ∃ d, m = k + 1 + d := ⟨m - (k + 1), by omega⟩
      rw [show k + 1 + d - k = d + 1 by omega] at h1
      rw [show k + 1 + d - (k + 1) = d by omega] at h2
      rw [show k + 1 + d + 1 - (k + 1) = d + 1 by omega]
      have h2' : chs (k + 1 + d) (k + 2) * (k + 2) = chs (k + 1 + d) (k + 1) * d := h2.symm
      rw [Nat.add_mul, h1, Nat.add_mul, h2', Nat.mul_add, Nat.mul_add, Nat.mul_add]
      omega
    · by_cases e : m = k
      · subst e
        rw [Nat.sub_self, Nat.mul_zero, chs_big (show m < m + 1 by omega), chs_big (show m < m + 2 by omega), Nat.zero_add, Nat.zero_mul]
      · rw [chs_big (show m < k by omega), chs_big (show m < k + 1 by omega), chs_big (show m < k + 2 by omega)]
        omega
theorem chs_up (a i : Nat) : chs (a + (i + 1)) (i + 1) * (i + 1) = chs (a + i) i * (a + i + 1) := by
  have h := chs_step (a + i) i
  show (chs (a + i) i + chs (a + i) (i + 1)) * (i + 1) = _
  rw [Nat.add_mul, ← h, show a + i - i = a by omega, ← Nat.mul_add, show i + 1 + a = a + i + 1 by omega]
theorem chs_symm : ∀ (a b : Nat), chs (a + b) a = chs (a + b) b
  | 0, b => by rw [Nat.zero_add, chs_zero, chs_self]
  | a + 1, 0 => by rw [Nat.add_zero, chs_zero, chs_self]
  | a + 1, b + 1 => by
    have h1 := chs_symm a (b + 1)
    have h2 := chs_symm (a + 1) b
    rw [show a + 1 + (b + 1) = (a + 1 + b) + 1 by omega]
    show chs (a + 1 + b) a + chs (a + 1 + b) (a + 1) = chs (a + 1 + b) b + chs (a + 1 + b) (b + 1)
    rw [show a + (b + 1) = a + 1 + b by omega] at h1
    omega
theorem chs_le : ∀ (n k : Nat), chs n k ≤ 2 ^ n
  | 0, 0 => by decide
  | 0, _ + 1 => Nat.zero_le _
  | n + 1, 0 => by rw [chs_zero]; exact Nat.pow_pos (by decide)
  | n + 1, k + 1 => by
    have h1 := chs_le n k
    have h2 := chs_le n (k + 1)
    show chs n k + chs n (k + 1) ≤ 2 ^ (n + 1)
    rw [Nat.pow_succ]
    omega
/-- nought out of range -/
def wys (m s : Int) : Int := if 0 ≤ s ∧ s ≤ m then (chs m.toNat s.toNat : Int) else 0
theorem wys_nat (m s : Nat) : wys (m : Int) (s : Int) = (chs m s : Int) := by
  unfold wys
  by_cases h : s ≤ m
  · rw [if_pos ⟨by omega, by omega⟩, Int.toNat_natCast, Int.toNat_natCast]
  · rw [if_neg (by omega), chs_big (by omega)]
    rfl
def wpt (q n k i j : Nat) : Int := (if j % 2 = 0 then 1 else -1) * ((((q - 1) ^ (k - j) * chs i j * chs (n - i) (k - j) : Nat)) : Int)
def wav (q n k i : Nat) : Int := ((List.range (k + 1)).map (wpt q n k i)).sum
theorem wpt_bound {q n k i j : Nat} (hq : q ≤ 3) (hk : k ≤ 24) (hn : n ≤ 24) (hi : i ≤ n) : (wpt q n k i j).natAbs ≤ 2 ^ 48 := by
  have h1 : (q - 1) ^ (k - j) ≤ 2 ^ 24 := Nat.le_trans (Nat.pow_le_pow_left (show q - 1 ≤ 2 by omega) _) (Nat.pow_le_pow_right (by decide) (by omega))
  have h2 : chs i j * chs (n - i) (k - j) ≤ 2 ^ 24 := by
    refine Nat.le_trans (Nat.mul_le_mul (chs_le i j) (chs_le (n - i) (k - j))) ?_
    rw [← Nat.pow_add]
    exact Nat.pow_le_pow_right (by decide) (by omega)
  have h3 : (q - 1) ^ (k - j) * chs i j * chs (n - i) (k - j) ≤ 2 ^ 48 := by
    rw [Nat.mul_assoc]
    exact Nat.le_trans (Nat.mul_le_mul h1 h2) (by decide)
  unfold wpt
  rw [Int.natAbs_mul, Int.natAbs_natCast]
  split
  · show 1 * _ ≤ _
    omega
  · show 1 * _ ≤ _
    omega
theorem sum_bound (B : Nat) : ∀ (l : List Int), (∀ x ∈ l, x.natAbs ≤ B) → l.sum.natAbs ≤ l.length * B
  | [], _ => Nat.zero_le _
  | x :: l, h => by
    have ih := sum_bound B l fun y hy => h y (List.mem_cons_of_mem _ hy)
    have hx := h x List.mem_cons_self
    rw [List.sum_cons, List.length_cons, Nat.succ_mul]
    have := Int.natAbs_add_le x l.sum
    omega
theorem wav_bound {q n k i : Nat} (hq : q ≤ 3) (hk : k ≤ 24) (hn : n ≤ 24) (hi : i ≤ n) : (wav q n k i).natAbs ≤ 2 ^ 53 := by
  unfold wav
  refine Nat.le_trans (sum_bound (2 ^ 48) _ fun x hx => ?_) ?_
  · obtain ⟨j, _, rfl⟩ := List.mem_map.mp hx
    exact wpt_bound hq hk hn hi
  · rw [List.length_map, List.length_range]
    exact Nat.le_trans (Nat.mul_le_mul_right _ (show k + 1 ≤ 25 by omega)) (by decide)
/-- the swells by the counts -/
def swl (q n : Nat) (cs : List Int) : List Int := (List.range (n + 1)).map fun k => ((cs.zipIdx.map fun d => d.1 * wav q n k d.2)).sum
end Wa
namespace Wa
open PySem PySem.Spec PyProof.Rows L2
/-- x *= y -/
theorem ip_mul {X : Cx} : PIp X .Mult (rI CMul fun i j => .int (i * j)) := by
  intro pins s σ H x y v u Q I rx ry ⟨i, j, ex, ey, hc, q⟩
  subst ex
  subst ey
  obtain ⟨t, ev⟩ := rx
  obtain ⟨t2, eu⟩ := ry
  rw [ev, eu]
  exact imul_int ⟨.int _, H, I.tok _, ⟨_, rfl⟩, q⟩ hc.ok
end Wa
namespace Wa
open PySem PySem.Spec PyProof.Rows L2 LamX
/-! calls around which nothing is being shown: str of lists -/
/-- a def's promise where no list is being shown around the call -/
structure FnG (P : Program) (w : World) (K : PySem.W.Frag) (mg : Str → Option Value) (base : Heap) (k : Nat) (f : Addr) (fd : FuncData) (ps : List Str) (sp : Sp) : Prop where
  len : ∀ vs H Q E, sp vs H Q E → vs.length = ps.length
  go : ∀ (B : Around), B.guards = some [] → Room k B → ∀ (out : List Env) (z : Shared) (H : Hp), Env0 P w K mg base B out z H → ∀ (ag : Args) (us : List Value) (vs : List V) (Q : VK) (E : XK),
    BindsTo z fd ag (ps.zip us) → Vals vs us → sp vs H Q E → codeAny (model P w) B (.call (.ref f) ag) (CR CX0 out P w H z Q E) z
theorem FnG.of {P : Program} {w : World} {K : PySem.W.Frag} {mg : Str → Option Value} {base : Heap} {k : Nat} {f : Addr} {fd : FuncData} {ps : List Str} {sp : Sp} (F : FnOk P w K mg base CX0 k f fd ps sp) : FnG P w K mg base k f fd ps sp :=
  ⟨F.len, fun B _ hr out z H e ag us vs Q E hb hv hs => F.run B out z H ag us vs Q E hr e hb hv hs⟩
/-- from the def's body -/
theorem FnG.mk' {P : Program} {w : World} {K : PySem.W.Frag} {mg : Str → Option Value} {base : Heap} {x qual : Str} {st : Stmt} {f : Addr} {fd : FuncData} {N ps : List Str} {k : Nat} {sp : Sp} (F : Fun K x qual st f fd) (S : FnScope N ps (defScope st)) (len : ∀ vs H Q E, sp vs H Q E → vs.length = ps.length)
    (bd : ∀ (cdv : Value) (A : Around) (outer : List Env) (s : Shared) (H : Hp) (vs : List V) (Q : VK) (E : XK), A.guards = some [] → Room k (A.deeper (envOfC qual (defScope st) s.heap.objs.size f cdv)) → sp vs H Q E →
      ∃ t, PSs (cxOf CX0 P w K mg base N qual (defScope st) f cdv A outer s H E).nox (defBody st) t ∧ t { nx := fun _ H' => Q .non H', rt := Q } (start N vs) H) : FnG P w K mg base (k + 1) f fd ps sp := by
  obtain ⟨oc, od, kV, doc, pm, an, cdv, ct, osl, efd, look, code⟩ := F.ex
  subst efd
  constructor
  · exact len
  intro B gB room out z H env ag us vs Q E bound rel spec
  have kept : ∀ b o, base.get? b = some o → z.heap.get? b = some o := fun b o e => (env.bs b o e).1
  have there : K.In z.heap := env.mod.kin.keeps kept
  refine codeAny_call_function room.depth (there _ _ look) rfl S.co S.gen rfl (PySem.W.codeRec_of there code) (bound _ _ _ _ ?_)
  refine wpAny_newFunctionEnv_cells S.kind (fun y hy => ?_) fun ev hev z1 inside => ?_
  · rcases S.par y.1 (List.of_mem_zip (a := y.1) (b := y.2) hy).1 with q | q
    · exact Or.inl q
    · exact Or.inr ⟨q, PySem.W.cellsFrom_some _ _ _ (Or.inl q)⟩
  subst hev
  refine ⟨(env.mod.nolimit.keeps kept).keeps inside.toInCall.keep, codeAny_func ?_⟩
  obtain ⟨t, ht, hq⟩ := bd cdv B out z H vs Q E gB (room.deeper _) spec
  refine wpAny_mono (ht.nox.run [] z1 (start N vs) H _ (inv_start S room.hd env (len _ _ _ _ spec) rel inside) hq) (fun fl z2 res => ?_) fun e z2 res => res
  cases fl with
  | brk => exact res.elim fun _ r => r.elim fun _ r => r.2.elim
  | cont => exact res.elim fun _ r => r.elim fun _ r => r.2.elim
  | next =>
    obtain ⟨σ2, H2, J, q⟩ := res
    exact ⟨V.non, H2, J.os, J.bare, J.base, J.hok, rfl, q⟩
  | ret u =>
    obtain ⟨v, σ2, H2, J, rv, q⟩ := res
    exact ⟨v, H2, J.os, J.bare, J.base, J.hok, rv, q⟩
/-- f(e, ..) where nothing is being shown -/
theorem pe_callG {X : Cx} {k : Nat} {f : Addr} {fd : FuncData} {ps : List Str} {sp : Sp} {x : Str} {p pos : Pos} {e : Expr} {es : List Expr} {t : TA} {E : XK} (F : FnG X.prog X.w X.K X.mg X.base k f fd ps sp) (gu : X.A.guards = some []) (hr : Room k X.A) (hg : Gl X x) (hm : X.mg x = some (.ref f))
    (hk : PySem.W.keepIn X.K (.ref f) = true) (hb : Binds X.K fd ps []) (hx : Passes CX0 X E) (ha : PA X (e :: es) t) (hdb : (x == ("__debug__" : Str)) = false := by decide)
    (he : starEach (e :: es) X.env = (false, eval e X.env) :: starEach es X.env := by rfl) (hpl : (backTo pos (starEach es X.env)).any (·.1) = false := by rfl) : PE X (.Call (.Name x p) (e :: es) [] pos) (tCall sp [] E t) := by
  constructor
  intro pins s σ H Q I want
  refine wpAny_Call_Name_kw (ld_glob I hg hm ?_ hdb)
  refine PySem.W.callWith_K (h₀ := X.base) I.ok.mod.kin hk (thn (ha.run pos pins s σ H _ I want) ?_) he hpl
  rintro us z ⟨vs, H1, I1, rel, q⟩
  refine ⟨I1.kIn, ?_⟩
  have hl : (us ++ []).length = ps.length := by
    rw [List.append_nil, ← rel.length, ← F.len _ _ _ _ q, List.append_nil]
  have bnd := hb z us I1.kIn hl
  rw [List.append_nil] at bnd
  rw [List.append_nil] at q
  refine wpAny_call (codeAny_mono (F.go X.A gu hr X.stack z H1 I1.env0 ⟨us, []⟩ us vs Q E bnd rel q) ?_)
  intro r z2 done
  cases r with
  | error err => exact hx pins σ H1 z err z2 I1 done
  | ok fl =>
    cases fl with
    | ret u => exact I1.after done
    | next => exact done.elim
    | brk => exact done.elim
    | cont => exact done.elim
/-- str of data -/
def rStrD (K : PySem.W.Frag) : List V → Hp → VK → Prop := fun xs H Q => ∃ (a : Addr) (d : PyData), xs = [.ref a] ∧ Dp K H (.ref a) d ∧ d.showable = true ∧ d.hasDict = false ∧ d.depth ≤ 40 ∧ d.shown.length ≤ sizeLine ∧ Q (.str d.shown) H
theorem call_strD {X : Cx} (gu : X.A.guards = some []) (hu : X.A.units + 64 < cLine) : CallR X (.type "str") (rStrD X.K) := by
  intro pins s σ H xs us Q I r want
  obtain ⟨a, d, ex, hd, h1, h2, h3, h4, q⟩ := want
  subst ex
  rw [Vals.ref1 r]
  obtain ⟨as, rd⟩ := Dp.reads I d (.ref a) (.ref a) hd rfl
  refine str_of_reads rd h1 (fun z => by rw [h2] at z; cases z) gu (by omega) (fun b o e => e) (fun h' u tk kp => ?_) h4
  exact ⟨.str d.shown, H, I.call' (ch := []) rfl (Un.kept kp) (I.hok.kept kp) I.bare fun b hb => absurd hb (by simp), ⟨u, rfl⟩, q⟩
end Wa
namespace Wa
open PySem PySem.Spec PyProof.Rows L2 LamX
/-! the end of a row whose law shows lists -/
section
variable {P : Program} {w : World} {K : PySem.W.Frag} {mg mb : Str → Option Value} {k : Nat} {fa a : Addr} {cs : List (Addr × Addr)} {fd : FuncData} {x : Str} {sp : Sp} {z : Shared} {vs : List Value} {ns : List Int}
/-- what is tracked at first: the tables, and the script where the written part has it not -/
noncomputable def trk (K : PySem.W.Frag) (cs : List (Addr × Addr)) (a : Addr) (o : Obj) (ns : List Int) : Hp := fun b =>
  if b ∈ cs.map (·.2) then some (.tbl #[]) else if b = a ∧ K.lookup a = none then some (.frz o (.lst (ns.map V.int))) else none
abbrev scr (vs : List Value) : Obj := { cls := .type "list", data := .seq vs.toArray }
theorem trk_tab {o : Obj} {p : Addr × Addr} (hp : p ∈ cs) : trk K cs a o ns p.2 = some (.tbl #[]) := if_pos (List.mem_map.mpr ⟨p, hp, rfl⟩)
theorem trk_some {o : Obj} {b : Addr} {u : HO} (e : trk K cs a o ns b = some u) : (b ∈ cs.map (·.2) ∧ u = .tbl #[]) ∨ (b ∉ cs.map (·.2) ∧ b = a ∧ K.lookup a = none ∧ u = .frz o (.lst (ns.map V.int))) := by
  unfold trk at e
  by_cases h : b ∈ cs.map (·.2)
  · rw [if_pos h] at e
    exact Or.inl ⟨h, (Option.some.inj e).symm⟩
  · rw [if_neg h] at e
    by_cases h2 : b = a ∧ K.lookup a = none
    · rw [if_pos h2] at e
      exact Or.inr ⟨h, h2.1, h2.2, (Option.some.inj e).symm⟩
    · rw [if_neg h2] at e
      cases e
theorem law_callG (inK : K.In z.heap) (gl : z.heap.Ns mainGlobals mg) (bl : z.heap.Ns builtinsNs mb) (bb : ∀ x : Str, x ≠ "__name__" → mb x = bootBuiltins x) (lim : z.heap.NoLimit) (gens : z.gens = #[])
    (tabs : ∀ p ∈ cs, z.heap.get? p.2 = some { cls := .none, data := .fields #[] }) (notK : ∀ p ∈ cs, K.lookup p.2 = none) (heads : ∀ p ∈ cs, PySem.W.CodeHd z.heap p.1 p.2)
    (bmod : ∃ (bm : Addr) (ob : Obj), mg "__builtins__" = some (.ref bm) ∧ bm ≠ builtinsNs ∧ z.heap.get? bm = some ob ∧ ob.cls = .type "module" ∧ ob.dict = some builtinsNs ∧ ob.data = .plain)
    (list : z.heap.get? a = some (scr vs)) (intsV : IntsAre vs ns) (short : ns.length ≤ sizeLine) (room : Room k callerA)
    (F : ∀ base : Heap, K.In base → base.Ns mainGlobals mg → (∀ p ∈ cs, TabB base mg p.1 p.2) → FnG P w K mg base k fa fd [x] sp) (bind : ∀ (s : Shared) (u : Value), BindsTo s fd ⟨[u], []⟩ [(x, u)])
    (want : ∀ H : Hp, (∀ p ∈ cs, H p.2 = some (.tbl #[])) → SqL K H a (ns.map V.int) → sp [.ref a] H (fun v _ => v = .bl true) fun _ _ _ => False) :
    codeAny (model P w) callerA (.call (.ref fa) ⟨[.ref a], []⟩) (fun r s' => r = .ok (.ret (.bool true)) ∧ OldK z.heap s'.heap ∧ s'.os = z.os ∧ AllBare s'.gens) z := by
  have tabAt : ∀ b, b ∈ cs.map (·.2) → z.heap.get? b = some { cls := .none, data := .fields #[] } := by
    intro b hb
    obtain ⟨p, hp, rfl⟩ := List.mem_map.mp hb
    exact tabs p hp
  have aNot : a ∉ cs.map (·.2) := by
    intro hb
    have e := (tabAt a hb).symm.trans list
    cases e
  generalize hH : trk K cs a (scr vs) ns = H
  have trkd : ∀ {b u}, H b = some u → (b ∈ cs.map (·.2) ∧ u = .tbl #[]) ∨ (b ∉ cs.map (·.2) ∧ b = a ∧ K.lookup a = none ∧ u = .frz (scr vs) (.lst (ns.map V.int))) := by
    intro b u e
    rw [← hH] at e
    exact trk_some e
  have onTab : ∀ p ∈ cs, H p.2 = some (.tbl #[]) := by
    intro p hp
    rw [← hH]
    exact trk_tab hp
  have hok : HOk P w H z.heap := by
    intro b u e
    rcases trkd e with ⟨hb, rfl⟩ | ⟨_, rfl, _, rfl⟩
    · exact tabAt b hb
    · exact ⟨list, by rw [List.length_map]; exact short, vs, _, vals_ints intsV, list⟩
  have seen : SqL K H a (ns.map V.int) := by
    cases q : K.lookup a with
    | none =>
      refine Or.inl (Or.inr ⟨scr vs, ?_⟩)
      rw [← hH]
      show (if a ∈ cs.map (·.2) then _ else if a = a ∧ K.lookup a = none then _ else _) = _
      rw [if_neg aNot, if_pos ⟨rfl, q⟩]
    | some o =>
      have e := (inK a o q).symm.trans list
      cases e
      exact Or.inr ⟨_, vs.toArray, _, q, rfl, rfl, rfl, by rw [List.size_toArray, intsV.length]; exact short, by simpa using vals_ints intsV⟩
  -- what is not tracked stands in the base
  have free : ∀ {b : Addr} {o : Obj}, z.heap.get? b = some o → o ≠ scr vs → o ≠ { cls := .none, data := .fields #[] } → H b = none := by
    intro b o e n1 n2
    cases q : H b with
    | none => rfl
    | some u =>
      rcases trkd q with ⟨hb, _⟩ | ⟨_, hb, _⟩
      · exact absurd (Option.some.inj (e.symm.trans (tabAt b hb))) n2
      · rw [hb] at e
        exact absurd (Option.some.inj (e.symm.trans list)) n1
  have inB : ∀ {b : Addr} {o : Obj}, z.heap.get? b = some o → H b = none → (hidT z.heap H).get? b = some o := fun e n => hidT_get e n
  have nsB : ∀ {b : Addr} {m : Str → Option Value}, z.heap.Ns b m → (hidT z.heap H).Ns b m := by
    rintro b m ⟨o, es, ep, e, d, r⟩
    exact ⟨o, es, ep, inB e (free e (fun c => by rw [c] at d; cases d) fun c => by rw [c] at d; cases d), d, r⟩
  have kB : K.In (hidT z.heap H) := by
    intro b o e
    refine inB (inK b o e) ?_
    cases q : H b with
    | none => rfl
    | some u =>
      rcases trkd q with ⟨hb, _⟩ | ⟨_, hb, n, _⟩
      · obtain ⟨p, hp, rfl⟩ := List.mem_map.mp hb
        rw [notK p hp] at e
        cases e
      · rw [hb, n] at e
        cases e
  obtain ⟨mc, c1, c2⟩ := lim
  have modB : L2.Mod K mg (hidT z.heap H) := ⟨kB, nsB gl, ⟨mb, nsB bl, bb⟩, ⟨mc, nsB c1, c2⟩⟩
  have tabB : ∀ p ∈ cs, TabB (hidT z.heap H) mg p.1 p.2 := by
    intro p hp
    have at2 := tabs p hp
    refine ⟨?_, ?_, ?_⟩
    · obtain ⟨o, us, file, tf, flags, tg, inF, text, tt, e1, r1, r2, r3, rest⟩ := heads p hp
      refine ⟨o, us, file, tf, flags, tg, inF, text, tt, inB e1 (free e1 (fun c => by rw [c] at r2; cases r2) fun c => ?_), r1, r2, r3, rest⟩
      rw [c] at r2
      cases r2
      simp at r3
    · obtain ⟨bm, ob, m1, m2, m3, m4, m5, m6⟩ := bmod
      refine ⟨bm, ob, m1, m2, fun c => ?_, fun c => ?_, inB m3 (free m3 (fun c => by rw [c] at m6; cases m6) fun c => by rw [c] at m6; cases m6), m4, m5, m6⟩
      · obtain ⟨o, es, ep, e, d, _⟩ := gl
        rw [← c, m3] at e
        cases e
        rw [d] at m6
        cases m6
      · rw [c, at2] at m3
        cases m3
        cases m6
    · intro c
      obtain ⟨o, es, ep, e, d, _⟩ := gl
      rw [c, at2] at e
      cases e
      cases d
  have env : Env0 P w K mg (hidT z.heap H) callerA [] z H := {
    frames := rfl
    mod := modB
    bs := fun b o e => of_hidT e
    bsz := Nat.le_of_eq (hidT_size _ _)
    funs := trivial
    frf := fun b hb => absurd hb (List.not_mem_nil)
    hok := hok
    bare := .of_eq gens }
  refine codeAny_mono ((F _ kB (nsB gl) tabB).go callerA rfl room [] z H env ⟨[.ref a], []⟩ [.ref a] [.ref a] _ _ (bind z (.ref a)) (.cons rfl .nil) (want H onTab seen)) ?_
  intro r s' res
  cases r with
  | error e => exact False.elim res
  | ok fl =>
    cases fl with
    | next => exact res.elim
    | brk => exact res.elim
    | cont => exact res.elim
    | ret u =>
      obtain ⟨v, H', os, bare, un, hok', rel, rfl⟩ := res
      have hu : u = .bool true := rel
      subst hu
      have keep : ∀ b o, b ∉ cs.map (·.2) → z.heap.get? b = some o → s'.heap.get? b = some o := by
        intro b o hb e
        cases q : H b with
        | none => exact un.keep b o e q (fun c => absurd c List.not_mem_nil) List.not_mem_nil
        | some t =>
          rcases trkd q with ⟨c, _⟩ | ⟨_, hba, _, rfl⟩
          · exact absurd c hb
          · have q2 := un.frzs b _ _ q
            obtain ⟨f1, _⟩ := hok b _ q
            obtain ⟨f2, _⟩ := hok' b _ q2
            rw [← e, f1]
            exact f2
      have grew : ∀ p ∈ cs, ∃ more : Array Value, s'.heap.get? p.2 = some { cls := .none, data := .fields more } := by
        intro p hp
        obtain ⟨more, c⟩ := un.tbls p.2 #[] (onTab p hp)
        exact ⟨_, hok' p.2 _ c⟩
      refine ⟨rfl, ⟨?_, ?_⟩, os, bare⟩
      · intro b o e
        by_cases hb : b ∈ cs.map (·.2)
        · obtain ⟨p, hp, rfl⟩ := List.mem_map.mp hb
          obtain ⟨more, hm⟩ := grew p hp
          have e2 := (tabs p hp).symm.trans e
          cases e2
          exact Or.inr (Or.inl ⟨((heads p hp).tab (tabs p hp)).isCodeTable, rfl, #[], more, rfl, by rw [Array.empty_append]; exact hm⟩)
        · exact Or.inl (keep b o hb e)
      · intro b o e
        by_cases hb : b ∈ cs.map (·.2)
        · obtain ⟨p, hp, rfl⟩ := List.mem_map.mp hb
          obtain ⟨more, hm⟩ := grew p hp
          exact ⟨_, hm⟩
        · exact ⟨o, keep b o hb e⟩
end
/-- what a row's end wants of a law that shows lists -/
def LawG (l : PySem.W.OpenLaw) (w : World) (K : PySem.W.Frag) (k n : Nat) (x : Str) (mg : Str → Option Value) (fa : Addr) (h : Heap) : Prop :=
  ∃ (fd : FuncData) (cs : List (Addr × Addr)) (sp : Sp), (∀ p ∈ cs, h.get? p.2 = some { cls := .none, data := .fields #[] }) ∧ (∀ p ∈ cs, K.lookup p.2 = none) ∧ (∀ p ∈ cs, PySem.W.CodeHd h p.1 p.2) ∧ (∀ (s : Shared) (u : Value), BindsTo s fd ⟨[u], []⟩ [(x, u)]) ∧
    (∀ (H : Hp) (a : Addr) (ns : List Int), ns.length ≤ n → (∀ p ∈ cs, H p.2 = some (.tbl #[])) → SqL K H a (ns.map V.int) → sp [.ref a] H (fun v _ => v = .bl true) fun _ _ _ => False) ∧
    ∀ base : Heap, K.In base → base.Ns mainGlobals mg → (∀ p ∈ cs, TabB base mg p.1 p.2) → FnG l.prog w K mg base k fa fd [x] sp
theorem walk_tabsG {l : PySem.W.OpenLaw} {n k : Nat} {q : Program} {loose : List Str} {XP : (Str → Option Value) → Heap → Prop} {YP : World → Heap → Prop} {d : DefRec} {K : Params → PySem.W.Frag} {x : Str} (hn : l.most = some n) (hn2 : n ≤ sizeLine) (hdf : d.params.defaults = []) (hr : Room k callerA)
    (hY : ∀ (w : World) (h : Heap), YP w h → (K w.params).In h)
    (F : ∀ (w : World) (mg : Str → Option Value) (fa : Addr) (h : Heap), (K w.params).In h → h.Ns mainGlobals mg → mg d.name = some (.ref fa) → TabsOf q mg h → LawG l w (K w.params) k n x mg fa h) : PySem.W.WalkO q loose XP YP l.row.toRowW d [] (fun f vs => PySem.call f vs) := by
  refine Att.attach_callB hn hdf fun w s₀ s₁ mg mb fa o pm cd doc a vs ns G Y ho hd hcd hmg hobj hints hlen hbits hg => ?_
  have inK := hY w _ Y
  obtain ⟨fd, cs, sp, t1, t2, t3, hb, hsp, hF⟩ := F w mg fa _ inK G.T.g hmg G.T.tab
  exact law_callG inK G.T.g G.T.b G.T.builtins G.T.nolimit hg t1 t2 t3 G.T.bmain hobj hints (Nat.le_trans hlen hn2) hr hF hb fun H hH hS => hsp H a ns hlen hH hS
end Wa
namespace Wa
open PySem PySem.Spec PyProof.Rows L2
/-! how long what is shown may be -/
theorem int_len {a : Int} {k : Nat} (hk : 0 < k) (h : a.natAbs < 10 ^ k) : (Str.ofString (toString a)).length ≤ k + 1 := by
  have hp : ((10 ^ k : Nat) : Int) = (10 : Int) ^ k := by rw [Int.natCast_pow]; rfl
  by_cases h0 : 0 ≤ a
  · have := toString_length_le h0 hk (by rw [← hp]; omega)
    omega
  · have h1 := len_text_negI (n := a) (by omega)
    have h2 := toString_length_le (v := 0 - a) (by omega) hk (by rw [← hp]; omega)
    omega
theorem list_len (ts : List Str) : (listText ts).length ≤ 2 + piled ts := by
  have h1 : ("[" : Str).length = 1 := by decide +kernel
  have h2 : ("]" : Str).length = 1 := by decide +kernel
  have app : ∀ x y : Str, (x ++ y).length = x.length + y.length := fun x y => by
    show (x.cps ++ y.cps).size = _
    rw [Array.size_append]
    rfl
  unfold listText
  rw [app, h2]
  cases ts with
  | nil =>
    show ("[" : Str).length + 1 ≤ _
    omega
  | cons t r =>
    have e : textFrom 0 "[" (t :: r) = textFrom 1 ("[" ++ t) r := rfl
    rw [e, textFrom_length_pos r 1 _ (by decide), app, h1, piled_cons]
    omega
theorem tup_len (ts : List Str) : (tupleText ts).length ≤ 4 + piled ts := by
  have app : ∀ x y : Str, (x ++ y).length = x.length + y.length := fun x y => by
    show (x.cps ++ y.cps).size = _
    rw [Array.size_append]
    rfl
  have h1 : ("(" : Str).length = 1 := by decide +kernel
  have h2 : (",)" : Str).length = 2 := by decide +kernel
  have h3 : (")" : Str).length = 1 := by decide +kernel
  have hj : (Str.join ", " ts).length ≤ piled ts := by
    cases ts with
    | nil => exact (by decide +kernel : (Str.join ", " []).length ≤ piled [])
    | cons t r =>
      have := join_length_add (t :: r) (by simp)
      omega
  unfold tupleText
  rw [app, app, h1]
  split
  · have : (Str.ofString ",)").length = 2 := h2
    omega
  · have : (Str.ofString ")").length = 1 := h3
    omega
theorem piled_le {B : Nat} : ∀ (ts : List Str), (∀ t ∈ ts, t.length ≤ B) → piled ts ≤ ts.length * (B + 2)
  | [], _ => Nat.zero_le _
  | t :: r, h => by
    have ih := piled_le r fun x hx => h x (List.mem_cons_of_mem _ hx)
    have := h t List.mem_cons_self
    rw [piled_cons, List.length_cons, Nat.succ_mul]
    omega
/-- it can be shown, by at most B signs -/
structure Shw (B : Nat) (d : PyData) : Prop where
  ok : d.showable = true
  nd : d.hasDict = false
  len : d.shown.length ≤ B
theorem Shw.mono {B C : Nat} {d : PyData} (h : Shw B d) (hc : B ≤ C) : Shw C d := ⟨h.ok, h.nd, Nat.le_trans h.len hc⟩
theorem shw_int {a : Int} {k : Nat} (hk : 0 < k) (hk2 : k ≤ 400) (h : a.natAbs < 10 ^ k) : Shw (k + 1) (.int a) := by
  refine ⟨?_, rfl, int_len hk h⟩
  show decide (a.natAbs.log2 < 1920) = true
  refine decide_eq_true ?_
  by_cases h0 : a.natAbs = 0
  · rw [h0]; decide
  · rw [Nat.log2_lt h0]
    refine Nat.lt_of_lt_of_le h (Nat.le_trans (Nat.pow_le_pow_left (show 10 ≤ 2 ^ 3 * 2 by decide) k) ?_)
    rw [show 2 ^ 3 * 2 = 2 ^ 4 by decide, ← Nat.pow_mul]
    exact Nat.pow_le_pow_right (by decide) (by omega)
theorem shown_all {B : Nat} : ∀ {ds : List PyData}, (∀ d ∈ ds, Shw B d) → PyData.showableAll ds = true ∧ PyData.hasDictAll ds = false ∧ (∀ t ∈ PyData.shownAll ds, t.length ≤ B) ∧ (PyData.shownAll ds).length = ds.length
  | [], _ => ⟨rfl, rfl, fun t h => absurd h (by simp [PyData.shownAll]), rfl⟩
  | d :: r, h => by
    obtain ⟨i1, i2, i3, i4⟩ := shown_all fun x hx => h x (List.mem_cons_of_mem _ hx)
    have hd := h d List.mem_cons_self
    refine ⟨?_, ?_, fun t ht => ?_, ?_⟩
    · show (d.showable && PyData.showableAll r) = true
      rw [hd.ok, i1]; rfl
    · show (d.hasDict || PyData.hasDictAll r) = false
      rw [hd.nd, i2]; rfl
    · rcases List.mem_cons.mp (show t ∈ d.shown :: PyData.shownAll r from ht) with e | e
      · rw [e]; exact hd.len
      · exact i3 t e
    · show (PyData.shownAll r).length + 1 = r.length + 1
      rw [i4]
theorem shw_list {B : Nat} {ds : List PyData} (h : ∀ d ∈ ds, Shw B d) : Shw (2 + ds.length * (B + 2)) (.list ds) := by
  obtain ⟨i1, i2, i3, i4⟩ := shown_all h
  refine ⟨i1, i2, Nat.le_trans (list_len _) ?_⟩
  have := piled_le _ i3
  rw [i4] at this
  omega
theorem shw_tup {B : Nat} {ds : List PyData} (h : ∀ d ∈ ds, Shw B d) : Shw (4 + ds.length * (B + 2)) (.tuple ds) := by
  obtain ⟨i1, i2, i3, i4⟩ := shown_all h
  refine ⟨i1, i2, Nat.le_trans (tup_len _) ?_⟩
  have := piled_le _ i3
  rw [i4] at this
  omega
theorem shw_ns {k : Nat} {ns : List Int} (hk : 0 < k) (hk2 : k ≤ 400) (h : ∀ a ∈ ns, a.natAbs < 10 ^ k) : Shw (2 + ns.length * (k + 3)) (dns ns) := by
  have := shw_list (B := k + 1) (ds := ns.map PyData.int) fun d hd => by
    obtain ⟨a, ha, rfl⟩ := List.mem_map.mp hd
    exact shw_int hk hk2 (h a ha)
  rw [List.length_map] at this
  exact this
/-- the reading of str of a list of numbers -/
theorem strN {K : PySem.W.Frag} {H : Hp} {a : Addr} {ns : List Int} {Q : VK} {B : Nat} (ha : H a = some (.lst (ns.map V.int))) (hs : Shw B (dns ns)) (hB : B ≤ 16000000) (h : Q (.str (dns ns).shown) H) : rStrD K [.ref a] H Q :=
  ⟨a, dns ns, rfl, dpN ha, hs.ok, hs.nd, Nat.le_trans (nice_ns ns).2 (by decide), sz (Nat.le_trans hs.len hB), h⟩
end Wa
namespace Wa
open PySem PySem.Spec PyProof.Rows L2
theorem tCi {v : V} {σ : L2.St} {H : Hp} {Q : VK} (h : Q v H) : tC v σ H Q := h
end Wa
/-! any over a generator expression -/
namespace Gx
open PySem PySem.Spec PyProof.Rows L2
def onAny : VK → List V → V → Hp → Prop → Prop := fun Q _ y H C => ∃ b, y = .bl b ∧ if b = true then Q (.bl true) H else C
def finAny : VK → List V → Hp → Prop := fun Q _ H => Q (.bl false) H
theorem boot_any_ : bootBuiltins "any" = some (.builtin "any") := by decide +kernel
section
variable {X : Cx} {pins : List (Addr × Obj)} {σ : L2.St} {elt tg iter : Expr} {ifs : List Expr} {scope : Scope} {gpos : Pos} {J : It} {H2 : Hp} {a gn : Nat} {s4 s5 : Shared} {cenv : Env} {fp : List Addr} {it : Addr} {tn : Nat → Heap → Prop} {own : List (Str × Nat)}
  {g : TG} {tt : TT} {te : TE} {k : Nat} {c P : Addr} {Q : VK} {W : Nat → Nat → List V → Hp → Prop}
theorem any_loop (Z : Made X pins σ elt tg iter ifs scope gpos J H2 a gn s4 s5 cenv fp it tn) (hr : Room (k + 3) X.A) {σw : L2.St} : ∀ (n : Nat) (acc : List V) (s : Shared), s.heap.NoLimit → AllBare s.gens → s.heap.IsGen a gn →
    Asleep (model X.prog X.w) X.A.in1.in1 (gcx X s4 H2 cenv fp (X.A.in1.in1.deeper cenv)) σw [a] (fun _ s => s.heap.IsGen a gn) (onAny Q) (finAny Q) gn n acc s →
    codeAny (model X.prog X.w) X.A (.builtin "any.loop" ⟨[.ref a], []⟩) (fun r s' => ∃ v x H', r = .ok (.ret v) ∧ Inv X pins σ H' s' ∧ RelV x v ∧ Q x H') s := by
  have stab : Stable [a] (fun _ s => s.heap.IsGen a gn) := fun _ s s' hk h => gen_at h fun o e => hk a List.mem_cons_self o e
  intro n
  induction n with
  | zero =>
    intro acc s hl hb hg S
    refine codeAny_builtin F.entry_any_loop ?_
    rw [Around.under_plainId F.plain_any_loop _]
    show wpAny _ X.A.in1 (pyNext (.ref a) >>= _) _ _ s
    refine wpAny_bind (gx_next (A1 := X.A.in1) Z hr.hd (by have := hr.dp; show X.A.depth < _; omega) hl hg hb S (fun b hb => by rw [List.mem_singleton.mp hb]; exact gen_stood hg) hg (fun v y acc' H C s' rv I b' hk cr ho go => ?_) (fun acc' H s' I hk cr hf => ?_) stab)
    · obtain ⟨b, rfl, q⟩ := ho
      obtain rfl : v = Value.bool b := rv
      refine wpAny_bind (wpAny_holding (wpAny_truthy_bool ?_))
      refine wpAny_bind (wpAny_letGo ?_)
      cases b with
      | false =>
        rw [if_neg Bool.false_ne_true] at q
        obtain ⟨z, _⟩ := go q s' ⟨rfl, b', fun _ _ _ e => e⟩ rfl (fun b hb => by rw [List.mem_singleton.mp hb]; exact gen_stood cr) cr
        exact absurd z (Nat.lt_irrefl _)
      | true =>
        rw [if_pos rfl] at q
        simp only [if_true]
        exact wpAny_bind (wpAny_rule (wpAny_pure ⟨_, .bl true, H, rfl, I, rfl, q⟩))
    · exact wpAny_bind (wpAny_rule (wpAny_pure ⟨_, .bl false, H, rfl, I, rfl, hf⟩))
  | succ n ih =>
    intro acc s hl hb hg S
    refine codeAny_builtin F.entry_any_loop ?_
    rw [Around.under_plainId F.plain_any_loop _]
    show wpAny _ X.A.in1 (pyNext (.ref a) >>= _) _ _ s
    refine wpAny_bind (gx_next (A1 := X.A.in1) Z hr.hd (by have := hr.dp; show X.A.depth < _; omega) hl hg hb S (fun b hb => by rw [List.mem_singleton.mp hb]; exact gen_stood hg) hg (fun v y acc' H C s' rv I b' hk cr ho go => ?_) (fun acc' H s' I hk cr hf => ?_) stab)
    · obtain ⟨b, rfl, q⟩ := ho
      obtain rfl : v = Value.bool b := rv
      refine wpAny_bind (wpAny_holding (wpAny_truthy_bool ?_))
      refine wpAny_bind (wpAny_letGo ?_)
      cases b with
      | false =>
        rw [if_neg Bool.false_ne_true] at q
        obtain ⟨_, S'⟩ := go q s' ⟨rfl, b', fun _ _ _ e => e⟩ rfl (fun b hb => by rw [List.mem_singleton.mp hb]; exact gen_stood cr) cr
        simp only [Bool.false_eq_true, if_false]
        exact wpAny_pure ⟨plainId_quiet F.plain_any_loop _, ih _ s' I.nolimit b' cr S'⟩
      | true =>
        rw [if_pos rfl] at q
        simp only [if_true]
        exact wpAny_bind (wpAny_rule (wpAny_pure ⟨_, .bl true, H, rfl, I, rfl, q⟩))
    · exact wpAny_bind (wpAny_rule (wpAny_pure ⟨_, .bl false, H, rfl, I, rfl, hf⟩))
theorem pe_anyG {p pos : Pos} {wi : TI} (hr : Room (k + 3) X.A) (hg : Gl X "any") (hm : X.mg "any" = none) (D : Parts X k c P elt tg ifs scope own g tt te) (hi : PI X tg iter wi) (hs : ∀ v, genFold iter X.env v = pure v := by intro _; rfl)
    (he : starEach [.GeneratorExp elt [⟨tg, iter, ifs, 0⟩] scope gpos] X.env = (false, eval (.GeneratorExp elt [⟨tg, iter, ifs, 0⟩] scope gpos) X.env) :: starEach [] X.env := by rfl) :
    PE X (.Call (.Name "any" p) [.GeneratorExp elt [⟨tg, iter, ifs, 0⟩] scope gpos] [] pos) (tGx P wi g tt te (own.map (·.2)) onAny finAny) := by
  refine ⟨fun pins s σ H Q I h => ?_⟩
  refine wpAny_Call_Name_kw (ld_blt I hg hm boot_any_ ?_)
  refine PyProof.Rows.callWith_builtin1 ?_ he (by rfl)
  rw [he]
  show wpAny _ _ (spliced ((false, eval (.GeneratorExp elt [⟨tg, iter, ifs, 0⟩] scope gpos) X.env) :: backTo pos (starEach [] X.env))) _ _ s
  refine Calls.spliced_cons (gx_eval hr D.tab D.code D.co D.ok D.nocell D.dot hi hs I h fun J H2 a gn s4 s5 cenv fp it tn Z hR => ?_)
  obtain ⟨W, ⟨m0, w0⟩, turn⟩ := hR
  obtain ⟨I5, b5⟩ := Z.inv5
  refine Calls.spliced_nil ?_
  refine call_function_tree F.kind_any F.plain_any F.entry_any (F.args_any1 _) ?_
  unfold Builtin.«any»
  refine wpAny_bind (m := oneArg "any" _) (wpAny_pure ?_)
  refine wpAny_bind (wpAny_pyIter_gen Z.isgen ?_)
  have pp : PG (gcx X s4 H2 cenv fp (X.A.in1.in1.deeper cenv)) tg g ∧ PTs (gcx X s4 H2 cenv fp (X.A.in1.in1.deeper cenv)) ifs tt ∧ PE (gcx X s4 H2 cenv fp (X.A.in1.in1.deeper cenv)) elt te := by
    obtain ⟨cd, rfl⟩ := Z.env
    exact ⟨D.pg _ _ _ _ _ _ _, D.pt _ _ _ _ _ _ _ (room_gen hr _), D.pe _ _ _ _ _ _ _ (room_gen hr _)⟩
  have S := made_asleep (B := X.A.in1.in1) (cs := [a]) (CR := fun _ s => s.heap.IsGen a gn) Z D.calm D.co D.ok D.nocell D.nd hr.hd rfl pp.1 pp.2.1 pp.2.2 (fun b hb => by rw [List.mem_singleton.mp hb]; exact Z.young)
    (fun _ s s' hk h => gen_at h fun o e => hk a List.mem_cons_self o e) turn w0 (s := s5) ⟨rfl, b5, fun _ _ _ e => e⟩ rfl
  refine wpAny_pure ⟨plainId_quiet F.plain_any_loop _, codeAny_mono (any_loop Z hr m0 [] s5 I5.nolimit b5 Z.isgen S) fun r s' hx => ?_⟩
  obtain ⟨v, x, H', rfl, I', rv, q⟩ := hx
  exact ⟨x, H', I', rv, q⟩
end
end Gx
namespace Wa
open PySem PySem.Spec PyProof.Rows L2
theorem anyG {α : Type} {J : It} {H1 : Hp} {l : List α} {Φ : α → Hp → V → Prop} {g : TG} {te : TE} {vs : List Nat} {σ : L2.St} {Q : VK} (hJ : HandsR J H1 l Φ) (p : α → Bool)
    (hs : ∀ d x H' (Y : VK) (N : Hp → Prop), d ∈ l → Gr H1 H' → Φ d H' x → (∀ H'', Gr H' H'' → Y (.bl (p d)) H'') → g x (wipe σ vs) H' fun σ2 H2 => wipe σ2 vs = wipe σ vs ∧ tYes σ2 H2 fun b H3 => if b = true then te σ2 H3 Y else N H3)
    (hd : ∀ H', Gr H1 H' → Q (.bl (l.any p)) H') : ∃ W : Nat → Nat → List V → Hp → Prop, (∃ m, W 0 m [] H1) ∧ Gx.Turns J g tYes te vs σ (Gx.onAny Q) (Gx.finAny Q) W := by
  refine turns_n l.length (fun i acc H' => Gr H1 H' ∧ ∀ d ∈ l.take i, p d = false) ⟨Gr.refl _, fun d h => absurd h (by simp)⟩ (fun i acc H' hi ⟨i1, i2⟩ => ⟨hJ.go i H' hi i1, fun x H'' y => ?_⟩) (fun acc H' ⟨i1, i2⟩ => ⟨hJ.stop H' i1, ?_⟩)
  · obtain ⟨g1, d, ed, ex⟩ := hJ.yld i H' x H'' hi i1 y
    have hm := List.mem_of_getElem? ed
    refine hs d x H'' _ _ hm (i1.trans g1) ex fun H3 g3 => ⟨p d, rfl, ?_⟩
    have gg := i1.trans (g1.trans g3)
    by_cases e : p d = true
    · rw [if_pos e]
      have := hd H3 gg
      rw [List.any_eq_true.mpr ⟨d, hm, e⟩] at this
      exact this
    · rw [if_neg e]
      refine ⟨gg, fun u hu => ?_⟩
      rw [List.take_add_one, ed] at hu
      rcases List.mem_append.mp hu with z | z
      · exact i2 u z
      · rw [List.mem_singleton.mp z, Bool.eq_false_iff]
        exact e
  · rw [List.take_length] at i2
    have := hd H' i1
    rw [show l.any p = false from by rw [List.any_eq_false]; exact fun x hx => by rw [i2 x hx]; exact Bool.false_ne_true] at this
    exact this
end Wa
/-! (*a, b) = a list, and the like -/
namespace Wa
open PySem PySem.Spec PyProof.Rows L2
theorem vals_take {xs : List V} {us : List Value} (r : Vals xs us) : ∀ n, Vals (xs.take n) (us.take n) := by
  induction r with
  | nil => intro n; rw [List.take_nil, List.take_nil]; exact .nil
  | cons a b ih =>
    intro n
    cases n with
    | zero => exact .nil
    | succ n => exact .cons a (ih n)
theorem vals_drop {xs : List V} {us : List Value} (r : Vals xs us) : ∀ n, Vals (xs.drop n) (us.drop n) := by
  induction r with
  | nil => intro n; rw [List.drop_nil, List.drop_nil]; exact .nil
  | cons a b ih =>
    intro n
    cases n with
    | zero => exact .cons a b
    | succ n => exact ih n
section
variable {X : Cx} {pos : Pos}
theorem pgs_star {e : Expr} {es : List Expr} {p : Pos} {t : TG} {u : TGs} (h1 : PG X e t) (h2 : PGs X es u)
    (hs : (assignEach (.Starred e p :: es) X.env).map (·.2) = assign e X.env :: (assignEach es X.env).map (·.2) := by rfl) : PGs X (.Starred e p :: es) (gCons t u) := by
  refine ⟨fun pins z σ H vs us Q I r h => ?_⟩
  obtain ⟨v, vr, e1, h⟩ := h
  subst e1
  cases r with
  | cons r rr =>
    rw [hs]
    exact assignInOrder_cons (thn (h1.run pins z σ H _ _ _ I r h) fun _ z1 ⟨σ1, H1, I1, q1⟩ => h2.run pins z1 σ1 H1 _ _ Q I1 rr q1)
/-- the i-th of n targets takes what is left, as a new list -/
def gStar (K : PySem.W.Frag) (n i : Nat) (t : TGs) : TG := fun v σ H Q => ∃ (a : Addr) (xs : List V), v = .ref a ∧ SqL K H a xs ∧ n ≤ xs.length + 1 ∧
  ∀ D, H D = none → t (xs.take i ++ [.ref D] ++ (xs.drop i).drop (xs.length + 1 - n)) σ (upd H D (.lst ((xs.drop i).take (xs.length + 1 - n)))) Q
theorem pg_star {es : List Expr} {k n i : Nat} {t : TGs} (hc : X.calm = true) (h : PGs X es t) (hn : (assignEach es X.env).length = n := by rfl) (hst : (assignEach es X.env).findIdx? (·.1) = some i := by rfl) (hi : i < n := by decide) :
    PG X (.Tuple es k pos) (gStar X.K n i t) := by
  refine ⟨fun pins z σ H v u Q I r hw => ?_⟩
  obtain ⟨a, xs, e1, hq, hl, hw⟩ := hw
  subst e1
  cases r
  obtain ⟨its, rv, pl, hz⟩ := I.list hq
  have lx := rv.length
  have hL := pl.isList
  have hh := I.ok.hd hc
  have hne : a ≠ z.heap.objs.size := by obtain ⟨o, ho, _⟩ := hL; exact Nat.ne_of_lt (Heap.lt_size ho)
  rw [assign_Tuple]
  refine wpAny_bind (wpAny_standAt ?_)
  unfold unpack
  rw [hn, hst]
  refine wpAny_bind (wpAny_holding ?_)
  unfold unpackItems
  refine wpAny_bind ?_
  unfold notIterableAtAll
  refine wpAny_bind (wpAny_specialOf hL.typeIs slot_list_iter.lookup ?_)
  refine wpAny_pure ?_
  simp only [Bool.false_eq_true, if_false]
  refine wpAny_bind (wpAny_holding (wpAny_pyIter_list hL ?_))
  refine wpAny_bind (wpAny_holding (PySem.W.kun_draw hne i 0 _ _ ⟨_, Heap.get?_push_size _ rfl, rfl, rfl⟩ (hL.push _) (by rw [List.size_toArray]; omega) fun h1 it1 sb1 => ?_))
  have hL1 : h1.IsList a its.toArray := (hL.push _).extBut sb1.extBut hne
  rw [Nat.zero_add] at it1
  obtain ⟨oi, hoi, _⟩ := _root_.id it1
  obtain ⟨ol, hol, _⟩ := _root_.id hL1
  rw [List.drop_zero]
  have lf : (its.toArray.toList.take i).length = i := by rw [List.length_take, Array.length_toList, List.size_toArray]; omega
  rw [if_neg (show ¬ ((its.toArray.toList.take i).length < i) by rw [lf]; omega)]
  refine wpAny_bind (wpAny_holding (PySem.W.kun_collect (s := { z with heap := h1 }) (T := "list_iterator") (.inr (.inr (.inl rfl))) (Walks.list (A := X.A.in1) hh z.heap.objs.size a hne its.toArray) (fun j u st => st.1.typeIs) (k := i) (by rw [List.size_toArray]; omega) ⟨it1, hL1⟩ (Heap.lt_size hoi) (Heap.lt_size hol) (fun h2 tk hk => ?_) (by rw [List.size_toArray, ← lx]; exact hz)))
  have e2 : its.toArray.toList = its := by simp
  rw [e2]
  have lr : (its.drop i).length = its.length - i := List.length_drop
  have lm : (its.drop i).length - (n - 1 - i) = xs.length + 1 - n := by rw [lr]; omega
  show wpAny _ _ (if (its.drop i).length < n - 1 - i then _ else _) _ _ _
  rw [if_neg (by rw [lr]; omega)]
  show wpAny _ _ (newList ((its.drop i).take ((its.drop i).length - (n - 1 - i))) >>= fun d => pure (its.take i ++ [d] ++ (its.drop i).drop ((its.drop i).length - (n - 1 - i)))) _ _ _
  rw [lm]
  have kept : ∀ b o, z.heap.get? b = some o → h2.get? b = some o := fun b o e => by
    have hb : b ≠ z.heap.objs.size := Nat.ne_of_lt (Heap.lt_size e)
    exact hk b o hb (sb1.extBut b o hb (Heap.get?_push_of_some _ e))
  have I2 : Inv X pins σ H { z with heap := h2, toks := tk } := I.kept kept
  have lt2 : ((its.drop i).take (xs.length + 1 - n)).length ≤ sizeLine := Nat.le_trans (List.length_take_le ..) (by omega)
  refine wpAny_bind (wpAny_newList ?_ lt2)
  refine wpAny_pure ?_
  have nD : H h2.objs.size = none := I2.hok.fresh (Nat.le_refl _)
  have r2 := vals_take (vals_drop rv i) (xs.length + 1 - n)
  have I3 : Inv X pins σ (upd H h2.objs.size (.lst ((xs.drop i).take (xs.length + 1 - n)))) { z with heap := h2.push { cls := .type "list", data := .seq ((its.drop i).take (xs.length + 1 - n)).toArray }, toks := tk } :=
    I2.laid (fun b u q => Heap.get?_push_of_some _ q) (Nat.le_refl _) ⟨by rw [r2.length]; exact lt2, _, _, r2, Heap.get?_push_size _ rfl⟩
  exact h.run pins _ σ _ _ _ Q I3 (((vals_take rv i).append (.cons (show RelV (.ref h2.objs.size) (.ref h2.objs.size) from rfl) .nil)).append (vals_drop (vals_drop rv i) _)) (hw _ nD)
end
end Wa
namespace Wa
open PySem PySem.Spec PyProof.Rows L2
/-! texts put side by side with a blank between -/
def blank : Str := " "
def dash : Str := "-"
/-- written: the texts with a blank between, or - -/
def shw (ts : List Str) : Str := if ts = [] then dash else Txt.join blank ts
/-- parts between blanks -/
def prt (z : Str) : List Str := if z = dash then [] else Txt.split z blank
theorem blank_tl : TL.tl blank = [32] := by decide +kernel
theorem blank_lo : blank.cps.all (· < 256) = true := by decide +kernel
theorem prt_shw {ts : List Str} (h : ∀ t ∈ ts, 32 ∉ t.cps.toList) (hd : ts ≠ [dash]) : prt (shw ts) = ts := by
  unfold prt shw
  by_cases e : ts = []
  · rw [if_pos e, if_pos rfl, e]
  · rw [if_neg e]
    have sj : Txt.split (Txt.join blank ts) blank = ts := TL.split_join (y := blank) (s := 32) (S := []) blank_tl blank_lo e h
    rw [if_neg, sj]
    intro z
    rw [z] at sj
    exact hd (by rw [← sj]; decide +kernel)
theorem shw_ne {ts : List Str} (h : ts ≠ []) : shw ts = Txt.join blank ts := if_neg h
theorem decV_str (a b : Str) : decide (V.str a = V.str b) = decide (a = b) := by
  by_cases h : a = b
  · rw [h, decide_eq_true rfl, decide_eq_true rfl]
  · rw [decide_eq_false h, decide_eq_false (fun e => h (by injection e))]
theorem decV_int (a b : Int) : decide (V.int a = V.int b) = decide (a = b) := by
  by_cases h : a = b
  · rw [h, decide_eq_true rfl, decide_eq_true rfl]
  · rw [decide_eq_false h, decide_eq_false (fun e => h (by injection e))]
theorem spl_few (S : List Nat) : ∀ (l : List Nat) (k : Nat) (acc : List Nat), (TL.spl S k acc l).length ≤ l.length + 1 ∧ ∀ p ∈ TL.spl S k acc l, p.length ≤ acc.length + l.length
  | [], k, acc => by
    rw [TL.spl_nil]
    exact ⟨Nat.le_refl _, fun p hp => by rw [List.mem_singleton.mp hp]; exact Nat.le_add_right _ _⟩
  | c :: r, 0, acc => by
    cases e : TL.pre S (c :: r) with
    | true =>
      rw [TL.spl_hit e]
      obtain ⟨h1, h2⟩ := spl_few S r (S.length - 1) []
      refine ⟨by rw [List.length_cons, List.length_cons]; omega, fun p hp => ?_⟩
      rcases List.mem_cons.mp hp with z | z
      · rw [z]; exact Nat.le_add_right _ _
      · have := h2 p z
        rw [List.length_nil] at this
        rw [List.length_cons]
        omega
    | false =>
      rw [TL.spl_miss e]
      obtain ⟨h1, h2⟩ := spl_few S r 0 (acc ++ [c])
      refine ⟨by rw [List.length_cons]; omega, fun p hp => ?_⟩
      have := h2 p hp
      rw [List.length_append, List.length_singleton] at this
      rw [List.length_cons]
      omega
  | c :: r, k + 1, acc => by
    obtain ⟨h1, h2⟩ := spl_few S r k acc
    show (TL.spl S k acc r).length ≤ _ ∧ ∀ p ∈ TL.spl S k acc r, _
    refine ⟨by rw [List.length_cons]; omega, fun p hp => ?_⟩
    have := h2 p hp
    rw [List.length_cons]
    omega
theorem split_few {z y : Str} (hy : TL.tl y ≠ []) (hk : y.cps.all (· < 256) = true) : (Txt.split z y).length ≤ z.length + 1 ∧ ∀ t ∈ Txt.split z y, t.length ≤ z.length := by
  have e := TL.split_spl z y hy (TL.kind_ok hk)
  obtain ⟨h1, h2⟩ := spl_few (TL.tl y) (TL.tl z) 0 []
  rw [← e, List.length_map] at h1
  refine ⟨by rw [TL.len_tl]; exact h1, fun t ht => ?_⟩
  have := h2 (TL.tl t) (by rw [← e]; exact List.mem_map.mpr ⟨t, ht, rfl⟩)
  rw [List.length_nil, Nat.zero_add] at this
  rw [TL.len_tl, TL.len_tl]
  exact this
theorem prt_many (z : Str) : (prt z).length ≤ z.length + 1 := by
  unfold prt
  split
  · exact Nat.zero_le _
  · exact (split_few (by rw [blank_tl]; simp) blank_lo).1
theorem prt_len {z t : Str} (h : t ∈ prt z) : t.length ≤ z.length := by
  unfold prt at h
  split at h
  · exact absurd h (by simp)
  · exact (split_few (by rw [blank_tl]; simp) blank_lo).2 t h
def TxL (ts : List Str) : Nat := (ts.map (·.length)).sum + ts.length
theorem handsL_txt {H1 : Hp} (z : Str) : HandsL (Its z) H1 z.cps.toList (fun c => .str ⟨#[c]⟩) where
  go := fun i H' hi _ => by
    show i < z.cps.size
    rw [← Array.length_toList]
    exact hi
  stop := fun H' _ => by
    show z.cps.size ≤ z.cps.toList.length
    rw [Array.length_toList]
    exact Nat.le_refl _
  yld := fun i H' x H'' hi _ y => by
    obtain ⟨rfl, c, ec, rfl⟩ := y
    exact ⟨Gr.refl _, c, by rw [Array.getElem?_toList]; exact ec, rfl⟩
theorem join_len {ts : List Str} : (Txt.join blank ts).length ≤ TxL ts := by
  rw [TL.join_eq, TL.len_tl, TL.tl_join, blank_tl]
  unfold TxL
  have key : ∀ l : List (List Nat), (TL.joinL [32] l).length ≤ (l.map (·.length)).sum + l.length := by
    intro l
    induction l with
    | nil => exact Nat.le_refl _
    | cons p r ih =>
      cases r with
      | nil => show p.length ≤ _; simp
      | cons u r =>
        show (p ++ ([32] ++ TL.joinL [32] (u :: r))).length ≤ _
        rw [List.length_append, List.length_append, List.length_singleton, List.map_cons, List.sum_cons, List.length_cons]
        omega
  have := key (ts.map TL.tl)
  rw [List.map_map, List.length_map] at this
  have e : ((fun x : List Nat => x.length) ∘ TL.tl) = fun t : Str => t.length := by
    funext t
    exact (TL.len_tl t).symm
  rw [e] at this
  exact this
end Wa
namespace Wa
open PySem PySem.Spec PyProof.Rows L2
/-! papers -/
inductive Mk where
  | nearer | cut | shorter | longer
  deriving DecidableEq
def Mk.s : Mk → Str
  | .nearer => "nearer"
  | .cut => "cut"
  | .shorter => "shorter"
  | .longer => "longer"
inductive Pap where
  | one | all | balls
  | waves (t : Int) (rs : List Int)
  | led (m : Mk) (p : Pap)
  deriving DecidableEq
def leads : List Str := ["nearer", "cut", "shorter", "longer"]
def plains : List Str := ["one", "all", "balls"]
def mkOf (z : Str) : Option Mk := if z = "nearer" then some .nearer else if z = "cut" then some .cut else if z = "shorter" then some .shorter else if z = "longer" then some .longer else none
theorem mk_of (m : Mk) : mkOf m.s = some m := by cases m <;> decide +kernel
theorem mk_mem (m : Mk) : m.s ∈ leads := by cases m <;> decide +kernel
theorem mk_lead {z : Str} (h : z ∈ leads) : ∃ m : Mk, z = m.s := by
  unfold leads at h
  simp only [List.mem_cons, List.not_mem_nil, or_false] at h
  rcases h with h | h | h | h
  · exact ⟨.nearer, h⟩
  · exact ⟨.cut, h⟩
  · exact ⟨.shorter, h⟩
  · exact ⟨.longer, h⟩
theorem mk_len (m : Mk) : m.s.length ≤ 7 := by cases m <;> decide +kernel
theorem mk_blank (m : Mk) : 32 ∉ TL.tl m.s := by cases m <;> decide +kernel
def chain : Pap → List Mk
  | .led m p => m :: chain p
  | _ => []
def core : Pap → Pap
  | .led _ p => core p
  | p => p
def depth (p : Pap) : Nat := (chain p).length
theorem pap_eq : ∀ p : Pap, p = (chain p).foldr Pap.led (core p)
  | .one => rfl
  | .all => rfl
  | .balls => rfl
  | .waves _ _ => rfl
  | .led m p => congrArg (Pap.led m) (pap_eq p)
/-- where a paper stands; its rows at l -/
def PapAt (H : Hp) (l : Addr) : V → Pap → Prop
  | v, .one => ∃ a, v = .ref a ∧ H a = some (.tup [.str "one"])
  | v, .all => ∃ a, v = .ref a ∧ H a = some (.tup [.str "all"])
  | v, .balls => ∃ a, v = .ref a ∧ H a = some (.tup [.str "balls"])
  | v, .waves t rs => ∃ a, v = .ref a ∧ H a = some (.tup [.str "waves", .int t, .ref l]) ∧ H l = some (.lst (rs.map V.int))
  | v, .led m p => ∃ a u, v = .ref a ∧ H a = some (.tup [.str m.s, u]) ∧ PapAt H l u p
theorem PapAt.mono {H H' : Hp} {l : Addr} (ht : ∀ a xs, H a = some (.tup xs) → H' a = some (.tup xs)) : ∀ {v : V} {p : Pap}, (∀ xs, H l = some (.lst xs) → H' l = some (.lst xs)) → PapAt H l v p → PapAt H' l v p
  | v, .one, _, h => by obtain ⟨a, e, q⟩ := h; exact ⟨a, e, ht _ _ q⟩
  | v, .all, _, h => by obtain ⟨a, e, q⟩ := h; exact ⟨a, e, ht _ _ q⟩
  | v, .balls, _, h => by obtain ⟨a, e, q⟩ := h; exact ⟨a, e, ht _ _ q⟩
  | v, .waves t rs, hl, h => by obtain ⟨a, e, q, r⟩ := h; exact ⟨a, e, ht _ _ q, hl _ r⟩
  | v, .led m p, hl, h => by obtain ⟨a, u, e, q, r⟩ := h; exact ⟨a, u, e, ht _ _ q, PapAt.mono ht hl r⟩
theorem PapAt.gr {H H' : Hp} {l : Addr} {v : V} {p : Pap} (g : Gr H H') (h : PapAt H l v p) : PapAt H' l v p := h.mono (fun _ _ e => g.tup e) (fun _ e => g.lst e)
/-- a list elsewhere has changed -/
theorem PapAt.upd {H : Hp} {l b : Addr} {xs ys : List V} {v : V} {p : Pap} (hb : H b = some (.lst xs)) (hn : l ≠ b) (h : PapAt H l v p) : PapAt (L2.upd H b (.lst ys)) l v p :=
  h.mono (fun a zs e => by rw [upd_ne (fun z => by rw [z, hb] at e; cases e)]; exact e) (fun zs e => by rw [upd_ne hn]; exact e)
theorem PapAt.ref {H : Hp} {l : Addr} : ∀ {v : V} {p : Pap}, PapAt H l v p → ∃ a, v = .ref a
  | _, .one, h => ⟨_, h.choose_spec.1⟩
  | _, .all, h => ⟨_, h.choose_spec.1⟩
  | _, .balls, h => ⟨_, h.choose_spec.1⟩
  | _, .waves _ _, h => ⟨_, h.choose_spec.1⟩
  | _, .led _ _, h => by obtain ⟨a, _, e, _⟩ := h; exact ⟨a, e⟩
/-! numbers as texts -/
def numS (n : Int) : Str := Str.ofString (toString n)
def figs : Str := "0123456789"
def isFig (c : Nat) : Bool := decide (48 ≤ c) && decide (c ≤ 57)
theorem figs_mem (c : Nat) : decide (c ∈ figs.cps.toList) = isFig c := by
  have e : figs.cps.toList = [48, 49, 50, 51, 52, 53, 54, 55, 56, 57] := by decide +kernel
  rw [e]
  unfold isFig
  by_cases h : 48 ≤ c ∧ c ≤ 57
  · rw [decide_eq_true h.1, decide_eq_true h.2]
    refine decide_eq_true ?_
    simp only [List.mem_cons, List.not_mem_nil, or_false]
    omega
  · have h2 : c ∉ [48, 49, 50, 51, 52, 53, 54, 55, 56, 57] := fun z => by
      simp only [List.mem_cons, List.not_mem_nil, or_false] at z
      omega
    rw [decide_eq_false h2]
    by_cases h3 : 48 ≤ c
    · rw [decide_eq_true h3, decide_eq_false (fun z => h ⟨h3, z⟩)]
      rfl
    · rw [decide_eq_false h3]
      rfl
def zeroS : Str := "0"
/-- the number that a text writes -/
def numIn (z : Str) (most : Nat) : Option Int :=
  if (decide (1 ≤ z.length) && decide (z.length ≤ most)) && z.cps.toList.all isFig then
    if z.cps.toList.head? = some 48 ∧ z ≠ zeroS then none else some ((NumText.digitsVal z.cps.toList : Nat) : Int)
  else none
theorem numS_tl (n : Nat) : (numS n).cps.toList = TL.numL n := TL.tl_num n
theorem numL_head : ∀ n : Nat, (TL.numL n).head? = some 48 → n = 0 := by
  intro n
  induction n using Nat.strongRecOn with
  | _ n ih =>
    intro h
    by_cases h10 : n < 10
    · rw [TL.numL_lt h10] at h
      have : 48 + n = 48 := Option.some.inj h
      omega
    · rw [TL.numL_step (by omega), List.head?_append] at h
      have hne := TL.numL_ne (n / 10)
      cases e : TL.numL (n / 10) with
      | nil => exact absurd e hne
      | cons c r =>
        rw [e] at h
        have := ih (n / 10) (by omega) (by rw [e]; exact h)
        omega
theorem numIn_num {n : Nat} {m : Nat} (h0 : 0 < m) (h : n < 10 ^ m) : numIn (numS n) m = some (n : Int) := by
  unfold numIn
  have hl : (numS n).length ≤ m := by rw [TL.len_tl]; show (numS n).cps.toList.length ≤ m; rw [numS_tl]; exact TL.numL_len h0 h
  have h1 : 1 ≤ (numS n).length := by
    rw [TL.len_tl]
    show 1 ≤ (numS n).cps.toList.length
    rw [numS_tl]
    exact List.length_pos_iff.mpr (TL.numL_ne n)
  have hd : (numS n).cps.toList.all isFig = true := by
    rw [numS_tl, List.all_eq_true]
    intro c hc
    have := TL.numL_digits n c hc
    unfold isFig
    rw [decide_eq_true this.1, decide_eq_true this.2]
    rfl
  rw [decide_eq_true h1, decide_eq_true hl, hd, if_pos (by rfl), numS_tl, TL.numL_val, if_neg]
  rintro ⟨e1, e2⟩
  have := numL_head n e1
  subst this
  exact e2 (by decide +kernel)
/-! read -/
def colS : Str := ": "
def ofS : Str := " of "
def wavS : Str := "waves"
def rdIn (z : Str) : Option Pap :=
  if z = "one" then some .one else if z = "all" then some .all else if z = "balls" then some .balls else
  let f := Txt.partition z colS
  let g := Txt.partition f.1 blank
  if f.2.1 = "" ∨ g.1 ≠ wavS then none else
  match numIn g.2.2 60, (prt f.2.2).mapM (numIn · 60) with
  | some t, some rs => some (.waves t rs)
  | _, _ => none
def rdP (z : Str) : Option Pap :=
  let ps := Txt.split z ofS
  if ps.length > 12 then none else
  match ps.dropLast.mapM mkOf, rdIn (ps.getLast?.getD "") with
  | some ms, some p => some (ms.foldr Pap.led p)
  | _, _ => none
/-! written -/
def shIn : Pap → Str
  | .one => "one"
  | .all => "all"
  | .balls => "balls"
  | .waves t rs => "waves " ++ numS t ++ ": " ++ shw (rs.map numS)
  | .led _ _ => ""
def shP (p : Pap) : Str := Txt.join ofS ((chain p).map Mk.s ++ [shIn (core p)])
/-- numbers of at most sixty figures -/
def PapOk : Pap → Prop
  | .waves t rs => (0 ≤ t ∧ t < 10 ^ 60) ∧ ∀ r ∈ rs, 0 ≤ r ∧ r < 10 ^ 60
  | .led _ p => PapOk p
  | _ => True
theorem PapOk.core : ∀ {p : Pap}, PapOk p → PapOk (core p)
  | .one, h => h
  | .all, h => h
  | .balls, h => h
  | .waves _ _, h => h
  | .led _ p, h => PapOk.core (p := p) h
theorem nat_of {t : Int} (h : 0 ≤ t ∧ t < 10 ^ 60) : ∃ n : Nat, t = (n : Int) ∧ n < 10 ^ 60 := ⟨t.toNat, by omega, by omega⟩
theorem numIn_ok {t : Int} (h : 0 ≤ t ∧ t < 10 ^ 60) : numIn (numS t) 60 = some t := by
  obtain ⟨n, rfl, hn⟩ := nat_of h
  exact numIn_num (by decide) hn
theorem numS_fig {t : Int} (h : 0 ≤ t ∧ t < 10 ^ 60) {c : Nat} (hc : c ∈ (numS t).cps.toList) : 48 ≤ c ∧ c ≤ 57 := by
  obtain ⟨n, rfl, hn⟩ := nat_of h
  rw [numS_tl] at hc
  exact TL.numL_digits n c hc
theorem numS_len {t : Int} (h : 0 ≤ t ∧ t < 10 ^ 60) : (numS t).length ≤ 60 := by
  obtain ⟨n, rfl, hn⟩ := nat_of h
  rw [TL.len_tl]
  show (numS n).cps.toList.length ≤ 60
  rw [numS_tl]
  exact TL.numL_len (by decide) hn
theorem log_ok {t : Int} (h : 0 ≤ t ∧ t < 10 ^ 60) : t.natAbs.log2 < 1920 := by
  have h1 : t.natAbs < 2 ^ 200 := by
    have : (10 : Int) ^ 60 < 2 ^ 200 := by decide
    omega
  by_cases h0 : t.natAbs = 0
  · rw [h0]; decide
  · exact Nat.lt_trans ((Nat.log2_lt h0).mpr h1) (by decide)
theorem mapM_some {α β : Type} {f : α → Option β} {g : β → α} : ∀ {l : List β}, (∀ x ∈ l, f (g x) = some x) → (l.map g).mapM f = some l
  | [], _ => rfl
  | x :: l, h => by
    rw [List.map_cons, List.mapM_cons, h x List.mem_cons_self, mapM_some fun y hy => h y (List.mem_cons_of_mem _ hy)]
    rfl
theorem tl_lit (s : String) (l : List Nat) (h : (Str.ofString s).cps.toList = l) : TL.tl (Str.ofString s) = l := h
theorem rdIn_sh : ∀ {p : Pap}, PapOk p → chain p = [] → rdIn (shIn p) = some p
  | .one, _, _ => by decide +kernel
  | .all, _, _ => by decide +kernel
  | .balls, _, _ => by decide +kernel
  | .led _ _, _, h => by cases h
  | .waves t rs, h, _ => by
    obtain ⟨ht, hr⟩ := h
    have hf := fun c (hc : c ∈ (numS t).cps.toList) => numS_fig ht hc
    have e0 : shIn (.waves t rs) = ("waves " ++ numS t) ++ colS ++ shw (rs.map numS) := rfl
    have e1 : Txt.partition (shIn (.waves t rs)) colS = ("waves " ++ numS t, colS, shw (rs.map numS)) := by
      rw [e0]
      refine TL.partition_app (s := 58) (S := [32]) (by decide +kernel) fun z => ?_
      rw [TL.tl_append] at z
      rcases List.mem_append.mp z with z | z
      · exact absurd z (by decide +kernel)
      · have := hf _ z
        omega
    have e2 : Txt.partition ("waves " ++ numS t) blank = (wavS, blank, numS t) := by
      have : ("waves " : Str) ++ numS t = wavS ++ blank ++ numS t := by
        congr 1
      rw [this]
      exact TL.partition_app (s := 32) (S := []) (by decide +kernel) (by decide +kernel)
    have hp : prt (shw (rs.map numS)) = rs.map numS := prt_shw (fun u hu z => by
      obtain ⟨r, h1, rfl⟩ := List.mem_map.mp hu
      have := numS_fig (hr r h1) z
      omega) (fun z => by
      have hm : dash ∈ rs.map numS := by rw [z]; exact List.mem_singleton.mpr rfl
      obtain ⟨r, h1, e⟩ := List.mem_map.mp hm
      have h45 : 45 ∈ (numS r).cps.toList := by rw [e]; decide +kernel
      have := numS_fig (hr r h1) h45
      omega)
    have n1 : ∀ (x : Str), (∃ c ∈ x.cps.toList, c = 119) → x ≠ "one" ∧ x ≠ "all" ∧ x ≠ "balls" := by
      rintro x ⟨c, hc, rfl⟩
      refine ⟨fun z => ?_, fun z => ?_, fun z => ?_⟩ <;> rw [z] at hc <;> exact absurd hc (by decide +kernel)
    obtain ⟨q1, q2, q3⟩ := n1 (shIn (.waves t rs)) ⟨119, by
      rw [e0]
      show 119 ∈ TL.tl _
      rw [TL.tl_append, TL.tl_append, TL.tl_append]
      exact List.mem_append_left _ (List.mem_append_left _ (List.mem_append_left _ (by decide +kernel))), rfl⟩
    unfold rdIn
    rw [if_neg q1, if_neg q2, if_neg q3]
    simp only [e1, e2]
    rw [if_neg (by decide +kernel), hp, numIn_ok ht, mapM_some fun r hr2 => numIn_ok (hr r hr2)]
theorem spl_join_last {s : Nat} {S p : List Nat} (hp : ∀ i, i < p.length → TL.pre (s :: S) (p.drop i) = false) : ∀ {ms : List (List Nat)}, (∀ m ∈ ms, s ∉ m) → TL.spl (s :: S) 0 [] (TL.joinL (s :: S) (ms ++ [p])) = ms ++ [p]
  | [], _ => by
    show TL.spl (s :: S) 0 [] p = [p]
    rw [TL.spl_last hp, List.nil_append]
  | m :: r, h => by
    have ih := spl_join_last hp (ms := r) fun z hz => h z (List.mem_cons_of_mem _ hz)
    have e : TL.joinL (s :: S) ((m :: r) ++ [p]) = m ++ (s :: S ++ TL.joinL (s :: S) (r ++ [p])) := by
      cases r with
      | nil => rfl
      | cons a b => rfl
    rw [e, TL.spl_part1 (h m List.mem_cons_self), List.nil_append, ih]
    rfl
theorem of_tl : TL.tl ofS = [32, 111, 102, 32] := by decide +kernel
/-- no " of " within -/
theorem no_of {p : List Nat} (h : 32 ∉ p ∨ 111 ∉ p) : ∀ i, i < p.length → TL.pre [32, 111, 102, 32] (p.drop i) = false := by
  intro i hi
  rw [Bool.eq_false_iff]
  intro z
  have z2 : (p.drop i).take 4 = [32, 111, 102, 32] := eq_of_beq z
  have sub : ∀ c ∈ [32, 111, 102, 32], c ∈ p := fun c hc => List.mem_of_mem_drop (List.mem_of_mem_take (by rw [z2]; exact hc))
  rcases h with h | h
  · exact h (sub 32 (by simp))
  · exact h (sub 111 (by simp))
theorem num_no {t : Int} (h : 0 ≤ t ∧ t < 10 ^ 60) {c : Nat} (hc : c < 48 ∨ 57 < c) : c ∉ TL.tl (numS t) := fun z => by
  have := numS_fig h z
  omega
theorem joinL_no {c : Nat} {S : List Nat} (hS : c ∉ S) : ∀ {l : List (List Nat)}, (∀ p ∈ l, c ∉ p) → c ∉ TL.joinL S l
  | [], _ => List.not_mem_nil
  | [p], h => h p (List.mem_singleton.mpr rfl)
  | p :: q :: r, h => fun z => by
    rcases List.mem_append.mp (show c ∈ p ++ (S ++ TL.joinL S (q :: r)) from z) with z | z
    · exact h p List.mem_cons_self z
    · rcases List.mem_append.mp z with z | z
      · exact hS z
      · exact joinL_no hS (fun y hy => h y (List.mem_cons_of_mem _ hy)) z
theorem shIn_no : ∀ {p : Pap}, PapOk p → 32 ∉ TL.tl (shIn p) ∨ 111 ∉ TL.tl (shIn p)
  | .one, _ => .inl (by decide +kernel)
  | .all, _ => .inl (by decide +kernel)
  | .balls, _ => .inl (by decide +kernel)
  | .led _ _, _ => .inl (by show 32 ∉ TL.tl ("" : Str); decide +kernel)
  | .waves t rs, h => .inr fun z => by
    obtain ⟨ht, hr⟩ := h
    have e0 : shIn (.waves t rs) = ("waves " ++ numS t) ++ colS ++ shw (rs.map numS) := rfl
    rw [e0, TL.tl_append, TL.tl_append, TL.tl_append] at z
    rcases List.mem_append.mp z with z | z
    · rcases List.mem_append.mp z with z | z
      · rcases List.mem_append.mp z with z | z
        · exact absurd z (by decide +kernel)
        · exact num_no ht (.inr (by decide)) z
      · exact absurd z (by decide +kernel)
    · unfold shw at z
      split at z
      · exact absurd z (by decide +kernel)
      · rw [TL.join_eq, TL.tl_join, blank_tl] at z
        refine joinL_no (by decide) (fun p hp => ?_) z
        obtain ⟨u, hu, rfl⟩ := List.mem_map.mp hp
        obtain ⟨r, hr2, rfl⟩ := List.mem_map.mp hu
        exact num_no (hr r hr2) (.inr (by decide))
theorem split_sh {p : Pap} (h : PapOk p) : Txt.split (shP p) ofS = (chain p).map Mk.s ++ [shIn (core p)] := by
  refine TL.map_tl_inj ?_
  unfold shP
  rw [TL.split_spl _ ofS (by rw [of_tl]; simp) (TL.kind_ok (by decide +kernel)), TL.join_eq, TL.tl_join, of_tl, List.map_append]
  refine spl_join_last (no_of (shIn_no h.core)) fun m hm => ?_
  obtain ⟨u, hu, rfl⟩ := List.mem_map.mp hm
  obtain ⟨k, _, rfl⟩ := List.mem_map.mp hu
  exact mk_blank k
theorem chain_core : ∀ p : Pap, chain (core p) = []
  | .one => rfl
  | .all => rfl
  | .balls => rfl
  | .waves _ _ => rfl
  | .led _ p => chain_core p
theorem rdP_sh {p : Pap} (h : PapOk p) (hd : depth p ≤ 11) : rdP (shP p) = some p := by
  unfold rdP
  simp only [split_sh h]
  have hl : ((chain p).map Mk.s ++ [shIn (core p)]).length = depth p + 1 := by
    rw [List.length_append, List.length_map]
    rfl
  rw [if_neg (by rw [hl]; omega), List.dropLast_concat, List.getLast?_append, mapM_some fun m _ => mk_of m]
  show (match some (chain p), rdIn (shIn (core p)) with | some ms, some p => some (ms.foldr Pap.led p) | _, _ => none) = some p
  rw [rdIn_sh h.core (chain_core p)]
  exact congrArg some (pap_eq p).symm
end Wa
namespace Wa
open PySem PySem.Spec PyProof.Rows L2
/-! a tuple of texts in the written part -/
def txtsAre : List Value → List Str → Bool
  | [], [] => true
  | .str x _ :: r, y :: s => decide (x = y) && txtsAre r s
  | _, _ => false
def txtsIn (K : PySem.W.Frag) (a : Addr) (ts : List Str) : Bool := match K.lookup a with
  | some o => match o.cls, o.data with
    | .type c, .seq its _ => decide (c = "tuple") && decide (its.size ≤ 100) && txtsAre its.toList ts
    | _, _ => false
  | none => false
theorem txts_vals : ∀ {us : List Value} {ts : List Str}, txtsAre us ts = true → Vals (ts.map V.str) us
  | [], [], _ => .nil
  | .str x t :: r, y :: s, h => by
    unfold txtsAre at h
    rw [Bool.and_eq_true] at h
    have e := of_decide_eq_true h.1
    subst e
    exact .cons ⟨t, rfl⟩ (txts_vals h.2)
  | [], _ :: _, h => by cases h
theorem txts_sq {K : PySem.W.Frag} {a : Addr} {ts : List Str} (h : txtsIn K a ts = true) (H : Hp) : SqT K H a (ts.map V.str) := by
  unfold txtsIn at h
  split at h
  · rename_i o ho
    split at h
    · rename_i c its n hc hd
      rw [Bool.and_eq_true, Bool.and_eq_true] at h
      have e1 := of_decide_eq_true h.1.1
      have e2 := of_decide_eq_true h.1.2
      subst e1
      exact .inr ⟨o, its, n, ho, hc, hd, sz (by omega), txts_vals h.2⟩
    · cases h
  · cases h
theorem flat_strs (S : List Str) : (S.map V.str).all flatV = true := by
  rw [List.all_eq_true]
  intro x hx
  obtain ⟨w, _, rfl⟩ := List.mem_map.mp hx
  rfl
theorem in_strs (w : Str) (S : List Str) : inV (.str w) (S.map V.str) = decide (w ∈ S) := by
  have key : inV (.str w) (S.map V.str) = true ↔ w ∈ S := by
    unfold inV
    rw [List.any_map, List.any_eq_true]
    constructor
    · rintro ⟨u, hu, e⟩
      have e : (u == w) = true := e
      rw [← beq_iff_eq.mp e]
      exact hu
    · intro h
      exact ⟨w, h, by show (w == w) = true; exact beq_self_eq_true _⟩
  by_cases h : w ∈ S
  · rw [decide_eq_true h]; exact key.mpr h
  · rw [decide_eq_false h, Bool.eq_false_iff]; exact fun z => h (key.mp z)
theorem inT {K : PySem.W.Frag} {H : Hp} {a : Addr} {S : List Str} {z : Str} {Q : VK} (ha : SqT K H a (S.map V.str)) (h : Q (.bl (decide (z ∈ S))) H) : rIn K false (.str z) (.ref a) H Q :=
  ⟨a, _, rfl, .inr ha, rfl, flat_strs S, by rw [in_strs]; exact h⟩
theorem notInT {K : PySem.W.Frag} {H : Hp} {a : Addr} {S : List Str} {z : Str} {Q : VK} (ha : SqT K H a (S.map V.str)) (h : Q (.bl (!decide (z ∈ S))) H) : rIn K true (.str z) (.ref a) H Q :=
  ⟨a, _, rfl, .inr ha, rfl, flat_strs S, by rw [in_strs]; exact h⟩
def optI : Option Int → V
  | some n => .int n
  | none => .non
end Wa
namespace Wa
open PySem PySem.Spec PyProof.Rows L2
theorem par_len (S : List Nat) : ∀ (l acc a b : List Nat), TL.par S acc l = some (a, b) → a.length ≤ acc.length + l.length ∧ b.length ≤ l.length
  | [], acc, a, b, h => by cases h
  | c :: r, acc, a, b, h => by
    cases e : TL.pre S (c :: r) with
    | true =>
      rw [TL.par_hit e] at h
      cases h
      exact ⟨Nat.le_add_right _ _, by rw [List.length_drop]; omega⟩
    | false =>
      rw [TL.par_miss e] at h
      obtain ⟨h1, h2⟩ := par_len S r (acc ++ [c]) a b h
      rw [List.length_append, List.length_singleton] at h1
      rw [List.length_cons]
      omega
theorem part_len {z y : Str} (hy : TL.tl y ≠ []) : (Txt.partition z y).1.length ≤ z.length ∧ (Txt.partition z y).2.2.length ≤ z.length := by
  rw [TL.partition_par z y hy]
  cases e : TL.par (TL.tl y) [] (TL.tl z) with
  | none => exact ⟨Nat.le_refl _, Nat.zero_le _⟩
  | some ab =>
    obtain ⟨a, b⟩ := ab
    obtain ⟨h1, h2⟩ := par_len _ _ _ _ _ e
    rw [TL.len_tl z]
    refine ⟨?_, ?_⟩
    · show a.toArray.size ≤ _
      rw [List.size_toArray]
      simpa using h1
    · show b.toArray.size ≤ _
      rw [List.size_toArray]
      exact h2
theorem mapM_get {α β : Type} {f : α → Option β} : ∀ {l : List α} {r : List β}, l.mapM f = some r → r.length = l.length ∧ ∀ (i : Nat) (x : α), l[i]? = some x → ∃ y, f x = some y ∧ r[i]? = some y
  | [], r, h => by
    cases h
    exact ⟨rfl, fun i x h => by simp at h⟩
  | a :: l, r, h => by
    rw [List.mapM_cons] at h
    cases e : f a with
    | none => rw [e] at h; cases h
    | some y =>
      rw [e] at h
      cases e2 : l.mapM f with
      | none => rw [e2] at h; cases h
      | some q =>
        rw [e2] at h
        cases h
        obtain ⟨i1, i2⟩ := mapM_get e2
        refine ⟨by rw [List.length_cons, List.length_cons, i1], fun i x hx => ?_⟩
        cases i with
        | zero => cases hx; exact ⟨y, e, rfl⟩
        | succ i => exact i2 i x hx
theorem mapM_fun {α β : Type} {f : α → Option β} {l : List α} {r : List β} (h : l.mapM f = some r) (d : β) : r = l.map fun x => (f x).getD d := by
  obtain ⟨h1, h2⟩ := mapM_get h
  refine List.ext_getElem? fun i => ?_
  rw [List.getElem?_map]
  cases e : l[i]? with
  | none => rw [List.getElem?_eq_none (by rw [h1]; exact List.getElem?_eq_none_iff.mp e)]; rfl
  | some x =>
    obtain ⟨y, e1, e2⟩ := h2 i x e
    rw [e2]
    show some y = some ((f x).getD d)
    rw [e1]
    rfl
theorem mapM_all {α β : Type} {f : α → Option β} {l : List α} {r : List β} (h : l.mapM f = some r) {x : α} (hx : x ∈ l) : ∃ y, f x = some y := by
  obtain ⟨i, hi⟩ := List.mem_iff_getElem?.mp hx
  obtain ⟨y, e, _⟩ := (mapM_get h).2 i x hi
  exact ⟨y, e⟩
end Wa
namespace Wa
open PySem PySem.Spec PyProof.Rows L2
theorem spl_ne (S : List Nat) : ∀ (l : List Nat) (k : Nat) (acc : List Nat), TL.spl S k acc l ≠ []
  | [], k, acc => by rw [TL.spl_nil]; simp
  | c :: r, 0, acc => by
    cases e : TL.pre S (c :: r) with
    | true => rw [TL.spl_hit e]; simp
    | false => rw [TL.spl_miss e]; exact spl_ne S r 0 _
  | c :: r, k + 1, acc => spl_ne S r k acc
theorem split_two (z : Str) {y : Str} (hy : TL.tl y ≠ []) (hk : y.cps.all (· < 256) = true) : ∃ ms u, Txt.split z y = ms ++ [u] := by
  have e := TL.split_spl z y hy (TL.kind_ok hk)
  have hne : Txt.split z y ≠ [] := fun q => by
    rw [q] at e
    exact spl_ne _ _ _ _ e.symm
  exact ⟨_, _, (List.dropLast_concat_getLast hne).symm⟩
theorem mkOf_eq {z : Str} {m : Mk} (h : mkOf z = some m) : z = m.s := by
  unfold mkOf at h
  split at h
  · rename_i e; cases h; exact e
  · split at h
    · rename_i e; cases h; exact e
    · split at h
      · rename_i e; cases h; exact e
      · split at h
        · rename_i e; cases h; exact e
        · cases h
theorem mkOf_mem {z : Str} {m : Mk} (h : mkOf z = some m) : z ∈ leads := by
  rw [mkOf_eq h]
  exact mk_mem m
theorem mapM_mk {ms : List Str} {ks : List Mk} (h : ms.mapM mkOf = some ks) : ms = ks.map Mk.s := by
  obtain ⟨h1, h2⟩ := mapM_get h
  refine List.ext_getElem? fun i => ?_
  rw [List.getElem?_map]
  cases e : ms[i]? with
  | none => rw [List.getElem?_eq_none (by rw [h1]; exact List.getElem?_eq_none_iff.mp e)]; rfl
  | some x =>
    obtain ⟨y, e1, e2⟩ := h2 i x e
    rw [e2, mkOf_eq e1]
    rfl
end Wa
namespace Wa
open PySem PySem.Spec PyProof.Rows L2
/-- the first word of a paper -/
def hdP : Pap → Str
  | .one => "one"
  | .all => "all"
  | .balls => "balls"
  | .waves _ _ => "waves"
  | .led m _ => m.s
theorem pap_head {H : Hp} {l : Addr} : ∀ {v : V} {p : Pap}, PapAt H l v p → ∃ a xs, v = .ref a ∧ H a = some (.tup (.str (hdP p) :: xs))
  | _, .one, ⟨a, e, q⟩ => ⟨a, _, e, q⟩
  | _, .all, ⟨a, e, q⟩ => ⟨a, _, e, q⟩
  | _, .balls, ⟨a, e, q⟩ => ⟨a, _, e, q⟩
  | _, .waves _ _, ⟨a, e, q, _⟩ => ⟨a, _, e, q⟩
  | _, .led _ _, ⟨a, _, e, q, _⟩ => ⟨a, _, e, q⟩
theorem hd_lead : ∀ {p : Pap}, chain p = [] → hdP p ∉ leads
  | .one, _ => by decide +kernel
  | .all, _ => by decide +kernel
  | .balls, _ => by decide +kernel
  | .waves _ _, _ => by show ("waves" : Str) ∉ leads; decide +kernel
  | .led _ _, h => by cases h
theorem core_id : ∀ {p : Pap}, chain p = [] → core p = p
  | .one, _ => rfl
  | .all, _ => rfl
  | .balls, _ => rfl
  | .waves _ _, _ => rfl
  | .led _ _, h => by cases h
theorem core_core (p : Pap) : core (core p) = core p := core_id (chain_core p)
end Wa
namespace Wa
open PySem PySem.Spec PyProof.Rows L2
theorem at_hd (x : V) (xs : List V) : atI (x :: xs) 0 = some x := atI_nat (j := 0) rfl
/-- a paper's rows may be thought elsewhere than at a free place -/
theorem PapAt.away {H : Hp} {l D : Addr} (nD : H D = none) : ∀ {v : V} {p : Pap}, PapAt H l v p → ∃ l', l' ≠ D ∧ PapAt H l' v p
  | _, .one, h => ⟨D + 1, Nat.succ_ne_self _, h⟩
  | _, .all, h => ⟨D + 1, Nat.succ_ne_self _, h⟩
  | _, .balls, h => ⟨D + 1, Nat.succ_ne_self _, h⟩
  | _, .waves _ _, h => ⟨l, by obtain ⟨a, e, q, r⟩ := h; exact ne_of_none r nD, h⟩
  | _, .led m p, h => by
    obtain ⟨a, u, e, q, r⟩ := h
    obtain ⟨l', n, h'⟩ := PapAt.away nD r
    exact ⟨l', n, a, u, e, q, h'⟩
end Wa
namespace Wa
open PySem PySem.Spec PyProof.Rows L2
theorem app_len (x y : Str) : (x ++ y).length = x.length + y.length := by rw [TL.len_tl, TL.tl_append, List.length_append, TL.len_tl, TL.len_tl]
theorem rows_len {rs : List Int} (lr : rs.length ≤ 1000) (hr : ∀ r ∈ rs, 0 ≤ r ∧ r < 10 ^ 60) : TxL (rs.map numS) ≤ 61000 := by
  unfold TxL
  rw [List.map_map, List.length_map]
  have key : ∀ rs : List Int, (∀ r ∈ rs, 0 ≤ r ∧ r < 10 ^ 60) → (rs.map ((fun x : Str => x.length) ∘ numS)).sum ≤ 60 * rs.length := by
    intro rs
    induction rs with
    | nil => intro _; exact Nat.zero_le _
    | cons r q ih =>
      intro h
      have := ih fun x hx => h x (List.mem_cons_of_mem _ hx)
      have h2 := numS_len (h r List.mem_cons_self)
      rw [List.map_cons, List.sum_cons, List.length_cons]
      show (numS r).length + _ ≤ _
      omega
  have := key rs hr
  omega
theorem shIn_len {p : Pap} (h : PapOk p ∧ ∀ t rs, core p = .waves t rs → rs.length ≤ 1000) : (shIn p).length ≤ 62000 := by
  cases p with
  | one => show 3 ≤ _; omega
  | all => show 3 ≤ _; omega
  | balls => show 5 ≤ _; omega
  | led m p => show 0 ≤ _; omega
  | waves t rs =>
    obtain ⟨⟨ht, hr⟩, h3⟩ := h
    have ln := numS_len ht
    have lt := rows_len (h3 t rs rfl) hr
    have ls : (shw (rs.map numS)).length ≤ 61001 := by
      unfold shw
      split
      · show 1 ≤ _
        omega
      · have := join_len (ts := rs.map numS)
        omega
    show (("waves " ++ numS t ++ ": " ++ shw (rs.map numS) : Str)).length ≤ _
    rw [app_len, app_len, app_len]
    show 6 + _ + 2 + _ ≤ _
    omega
theorem shP_len {p : Pap} (h : PapOk p) (hc : chain p = []) (h3 : ∀ t rs, p = .waves t rs → rs.length ≤ 1000) : (shP p).length ≤ 62000 := by
  unfold shP
  rw [hc, core_id hc, TL.join_eq]
  exact shIn_len ⟨h, fun t rs e => h3 t rs (by rw [← core_id hc]; exact e)⟩
end Wa
/-! list comprehensions out of which an error may come -/
namespace Wa
open PySem PySem.Spec PyProof.Rows L2
section
variable {M : Model} {A : Around} {E : Value → Shared → Prop} {s : Shared} {env : Env}
theorem comp_err {e : Expr} {scope : Scope} {pos : Pos} {nacc fst : Sem Value} {c : Comprehension} {cs : List Comprehension} {cl : List (Str × Addr)} {Q : Value → Shared → Prop}
    (h1 : clausesOf e = c :: cs) (h2 : ∀ x, foldedSetIterable c.iter env x = pure x) (h3 : closureFor scope env = pure cl) (h4 : scope.kind = .function) (h5 : ∀ x ∈ scope.names, x.2 = .local → scope.names.lookup x.1 = some .local)
    (h : wpAny M A fst (fun x t1 => wpAny M A (pyIter x) (fun it t2 => wpAny M A nacc (fun acc t3 => wpAny M A (newFunctionEnv scope env.globals cl [] env.qual none .none (some env)) (fun ce t4 =>
      codeAny M A (.compStart e 0 it acc { ce with scope := relabel scope env }) (fun r t5 => ∃ m, t5.heap.Ns ce.locals m ∧ ∀ h', Heap.SameBut ce.locals t5.heap h' → match r with
        | .ok _ => Q acc { t5 with heap := h' }
        | .error x => wpAny M A (passOn "comprehension.variables-let-go" x { ce with scope := relabel scope env } : Sem Value) (fun _ _ => False) E { t5 with heap := h' }) t4) E t3) E t2) E t1) E s) :
    wpAny M A (comprehension e scope env pos nacc false fst none) Q E s := by
  unfold comprehension
  rw [h3, h1]
  refine wpAny_bind (thn h fun x t1 k1 => ?_)
  refine wpAny_bind (wpAny_standAt (wpAny_bind (wpAny_of_eq (h2 x) (wpAny_bind (wpAny_holding (thn k1 fun it t2 k2 => ?_))))))
  refine wpAny_standIf (wpAny_bind (thn k2 fun acc t3 k3 => ?_))
  refine wpAny_bind (wpAny_pure (wpAny_bind (thn k3 fun ce t4 k4 => ?_)))
  dsimp only
  have hv : ∀ y ∈ (scope.names.filter fun y => (y.2 == .local || y.2 == .cell) && y.1 != (".0" : Str)).reverse, y.2 = .local → Env.kindOf { ce with scope := relabel scope env } y.1 = some .local :=
    fun y hy hl => lookup_relabel_local (h5 y (List.mem_filter.mp (List.mem_reverse.mp hy)).1 hl)
  refine wpAny_holding (wpAny_bind (wpAny_attempt (wpAny_holding (wpAny_run (codeAny_mono k4 fun r t5 k5 => ?_)))))
  obtain ⟨m, hn, k6⟩ := k5
  cases r with
  | ok f => exact wpAny_bind (wpAny_holding (wpAny_comp_letGo (cenv := { ce with scope := relabel scope env }) h4 _ t5 m hv hn fun h' _ _ sb => wpAny_pure (k6 h' sb)))
  | error x => exact wpAny_bind (wpAny_holding (wpAny_comp_letGo (cenv := { ce with scope := relabel scope env }) h4 _ t5 m hv hn fun h' _ _ sb => thn (k6 h' sb) fun _ _ z => z.elim))
end
/-- the block's context, with a wish about errors -/
abbrev blkX (X : Cx) (s : Shared) (H : Hp) (scope : Scope) (ce : Env) (fp : List Addr) (xe : Value → Shared → Prop) : Cx := { X.blk s H scope ce fp with xe := xe }
theorem inv_xe {X : Cx} {pins : List (Addr × Obj)} {σ : L2.St} {H : Hp} {s : Shared} {xe : Value → Shared → Prop} (I : Inv X pins σ H s) : Inv { X with xe := xe } pins σ H s :=
  ⟨⟨I.ok.mod, I.ok.kind, I.ok.glob, I.ok.blt, I.ok.above, I.ok.inj, I.ok.has, I.ok.cab, I.ok.hd, I.ok.frames, I.ok.stk, I.ok.exf, I.ok.bs, I.ok.bsz, I.ok.noex, I.ok.exfs, I.ok.funs, I.ok.frf⟩, I.os, I.bare, I.base, I.loc, I.cell, I.free, I.freeC, I.pin, I.hok, I.len⟩
section
variable {X : Cx} {pins : List (Addr × Obj)} {σ : L2.St} {H H' : Hp} {s s' : Shared} {W : WX} {a : Addr} {B : Heap} {cls : Value} {d : Option Addr}
/-- an error that this frame holds is in our air -/
theorem xe_held (I : Inv X pins σ H s) (hh : HandSPX.HeldZ B X.stack a (Zc cls d) X.env.locals s'.heap) (hok : HOk X.prog X.w H' B) (ub : UB (frs X.stack) H H' s.heap B s'.heap) (na : H' a = none) (os : s'.os = s.os) (ag : AllBare s'.gens) (w : W cls d σ H') : XE X W (.ref a) s' := by
  obtain ⟨G, in_, out⟩ := restrict s'.heap fun b => (B.get? b).isSome || decide (b ∈ frs X.stack)
  have toG : ∀ b o, B.get? b = some o → G.get? b = some o := fun b o e => (in_ b (by rw [e]; rfl)).trans (hh.1 b o e)
  have frG : ∀ b, b ∈ frs X.stack → G.get? b = s'.heap.get? b := fun b hb => in_ b (by rw [decide_eq_true hb, Bool.or_true])
  have ofG : ∀ b o, G.get? b = some o → s'.heap.get? b = some o ∧ (b ∉ frs X.stack → B.get? b = some o) := fun b o e => by
    by_cases hb : ((B.get? b).isSome || decide (b ∈ frs X.stack)) = true
    · have e1 := (in_ b hb).symm.trans e
      refine ⟨e1, fun nf => ?_⟩
      rw [decide_eq_false nf, Bool.or_false] at hb
      obtain ⟨o', eo⟩ := Option.isSome_iff_exists.mp hb
      have e2 := hh.1 b o' eo
      rw [e1] at e2
      cases e2
      exact eo
    · rw [out b (by simpa using hb)] at e
      cases e
  refine ⟨a, B, { s with heap := G, gens := s'.gens, drawn := s'.drawn, toks := s'.toks }, pins, σ, H', cls, d, rfl, ?_, fun b o e nf => (ofG b o e).2 nf, Heap.UpToSlots.of_keeps fun b o e => (ofG b o e).1, .inr (.inr hh), na, os, ag, w⟩
  refine I.call (ch := []) { keep := fun b o e n nf _ => toG b o (ub.keep b o e n nf), slot := fun b o e _ hb _ => ?_, free := fun b o e n _ => ub.free b o e n, there := fun b o e _ => ?_, tups := ub.tups, frzs := ub.frzs, tbls := ub.tbls } (hok.kept toG) ag (fun _ z => nomatch z)
  · obtain ⟨sl, e2⟩ := ub.slot b o e hb
    exact ⟨sl, (frG b hb).trans e2⟩
  · by_cases hb : b ∈ frs X.stack
    · obtain ⟨sl, e2⟩ := ub.slot b o e hb
      exact ⟨_, (frG b hb).trans e2⟩
    · obtain ⟨o', e2⟩ := ub.there b o e hb
      exact ⟨o', toG b o' e2⟩
theorem frames_at {h h' base : Heap} : ∀ {l : List Env}, h.FunFrames base l → (∀ b ∈ frs l, h'.get? b = h.get? b) → h'.FunFrames base l
  | [], _, _ => trivial
  | env :: l, hl, k => by
    obtain ⟨hk, ⟨L, o, hf, hn, ho, hd⟩, hr⟩ := hl
    have hm : L ∈ frs (env :: l) := List.mem_filterMap.mpr ⟨env, List.mem_cons_self, hf⟩
    refine ⟨hk, ⟨L, o, hf, hn, (k L hm).trans ho, hd⟩, frames_at hr fun b hb => k b ?_⟩
    obtain ⟨e, he, q⟩ := List.mem_filterMap.mp hb
    exact List.mem_filterMap.mpr ⟨e, List.mem_cons_of_mem _ he, q⟩
/-- the block's names go, and the error is passed on: it is in the def's own air -/
theorem comp_pass {C : Addr} {H2 : Hp} {t t' : Shared} {E : XK} {B : Heap} {cls : Value} {d : Option Addr} {a : Addr} {ce : Env} {m : Str → Option Value} (hst : X.stack = X.env :: X.outer ∧ X.env.frame = some X.env.locals) (tk : Takes X (fun cls d _ H => E cls d H))
    (Io : Inv X pins σ H t) (fC : FpOk X pins H C) (nfC : C ∉ frs X.stack) (hn : t.heap.Ns C m) (hl : ce.locals = C) (hf : ce.frame = X.env.frame)
    (fl : HandSPX.FlyingZ B X.stack a (Zc cls d) t'.heap) (okB : HOk X.prog X.w H2 B) (ub : UB (frs X.stack) H H2 t.heap B t'.heap) (na : H2 a = none) (os : t'.os = t.os) (ag : AllBare t'.gens) (hE : E cls d H2) :
    notedBy (model X.prog X.w) X.A ce (fun e s' => ∃ m, s'.heap.Ns C m ∧ ∀ h', Heap.SameBut C s'.heap h' → wpAny (model X.prog X.w) X.A (passOn "comprehension.variables-let-go" e ce : Sem Value) (fun _ _ => False) X.xe { s' with heap := h' }) (.ref a) t' := by
  have en : noteFrame (.ref a) ce = noteFrame (.ref a) X.env := by
    unfold noteFrame PySem.frameOf
    rw [hf]
  show wpAny _ _ (noteFrame (.ref a) ce) _ _ t'
  rw [en]
  have hfr : X.A.frames = some (X.env :: X.outer) := by rw [Io.ok.frames, hst.1]
  have hC0 : H C = none := fC.1
  obtain ⟨oC, es, ep, hoC, rC⟩ := hn
  have hCB : B.get? C = some oC := ub.keep C oC hoC hC0 nfC
  have hC2 : H2 C = none := ub.free C oC hoC hC0
  have naC : a ≠ C := fun z => by
    have := fl.2.1
    rw [z, hCB] at this
    cases this
  refine HandSPX.looks_onZ Zc.steady hfr hst.2 (by rw [← hst.1]; exact fl) fun h1 held up1 => ?_
  rw [← hst.1] at held
  refine ⟨m, ⟨oC, es, ep, held.1 C oC hCB, rC⟩, fun h3 sb => ?_⟩
  -- the ground without the block's names
  have gB : ∀ b o, (PySem.W.hideAll B [C]).get? b = some o → B.get? b = some o ∧ b ≠ C := fun b o e => ⟨PySem.W.of_hideAll _ e, fun z => by
    rw [z, PySem.W.hideAll_none [C] (List.mem_singleton.mpr rfl)] at e
    cases e⟩
  have toB : ∀ b o, B.get? b = some o → b ≠ C → (PySem.W.hideAll B [C]).get? b = some o := fun b o e n => PySem.W.hideAll_get _ e fun z => n (List.mem_singleton.mp z)
  have noB : ∀ b, B.get? b = none → (PySem.W.hideAll B [C]).get? b = none := fun b e => by
    cases q : (PySem.W.hideAll B [C]).get? b with
    | none => rfl
    | some o =>
      rw [(gB b o q).1] at e
      cases e
  have at3 : ∀ b, b ≠ C → h3.get? b = h1.get? b := fun b n => sb.2 b n
  have held3 : HandSPX.HeldZ (PySem.W.hideAll B [C]) X.stack a (Zc cls d) X.env.locals h3 := by
    obtain ⟨k1, k2, k3, oe, vs, T, oT, ts, e1, e2, e3, e4, e5, e6, e7, e8, e9⟩ := held
    have nT : T ≠ C := fun z => by
      rw [z, hCB] at e5
      cases e5
    refine ⟨fun b o e => (at3 b (gB b o e).2).trans (k1 b o (gB b o e).1), noB a k2, ?_, oe, vs, T, oT, ts, (at3 a naC).trans e1, e2, e3, e4, noB T e5, e6, (at3 T nT).trans e7, e8, e9⟩
    exact funFrames_none (frames_at k3 fun b hb => at3 b fun z => nfC (z ▸ hb)) fun b hb => noB b (k3.mem hb).1
  unfold PySem.passOn
  obtain ⟨oe, vs, T, oT, ts, e1, e2, e3, e4, e5, e6, e7, e8, e9⟩ := held3.2.2.2
  refine wpAny_bind (wpAny_field e1 e3 e4 ?_)
  rw [if_neg (show ¬ ((Value.ref T == Value.none) = true) from by simp)]
  rw [hf, hst.2]
  refine wpAny_bind (HandSPX.setFlight_onZ (s := { t' with heap := h3 }) held3 fun h4 held4 up4 => ?_)
  refine wpAny_throw ?_
  refine tk _ _ (xe_held (s := { t with heap := PySem.W.hideAll t.heap [C], toks := t.toks }) (W := fun cls d _ H => E cls d H) (Io.turned (t' := t.toks) (fun b o n e => PySem.W.hideAll_get _ e fun z => n (List.mem_singleton.mp z)) hC0 fC.2.1 fC.2.2.2.1 fC.2.2.2.2.1 fC.2.2.2.2.2) held4 ?_ ?_ na os ag hE)
  · exact fun b u e => (okB b u e).stay (fun c v hc q => toB c v q (fun z => by
      rcases hc with y | y
      · rw [← y, z, hC2] at e
        cases e
      · rw [z, hC2] at y
        cases y)) (fun _ q => q) fun _ _ q => q
  · have gt : ∀ b o, (PySem.W.hideAll t.heap [C]).get? b = some o → t.heap.get? b = some o ∧ b ≠ C := fun b o e => ⟨PySem.W.of_hideAll _ e, fun z => by
      rw [z, PySem.W.hideAll_none [C] (List.mem_singleton.mpr rfl)] at e
      cases e⟩
    refine ⟨fun b o e n nf => toB b o (ub.keep b o (gt b o e).1 n nf) (gt b o e).2, fun b o e hb => ?_, fun b o e n => ub.free b o (gt b o e).1 n, fun b o e nf => ?_, ub.tups, ub.frzs, ub.tbls⟩
    · obtain ⟨sl, q1⟩ := ub.slot b o (gt b o e).1 hb
      have hnf : ∀ vs, o.data ≠ .fields vs := by
        obtain ⟨_, o2, q2, q3⟩ := fl.2.2.1.mem hb
        rw [q1] at q2
        cases q2
        exact q3
      obtain ⟨sl2, q2⟩ := up1 b _ q1 hnf
      have q3 := (at3 b (gt b o e).2).trans q2
      obtain ⟨sl4, q4⟩ := up4 b _ q3 hnf
      exact ⟨sl4, q4⟩
    · obtain ⟨o', q⟩ := ub.there b o (gt b o e).1 nf
      exact ⟨o', toB b o' q (gt b o e).2⟩
end
end Wa
namespace Wa
open PySem PySem.Spec PyProof.Rows L2
section
variable {X : Cx}
/-- [elt for target in iter if ..], the element may raise; E: what is wanted of the error -/
theorem pe_lcX {elt tg iter : Expr} {ifs : List Expr} {scope : Scope} {own : List (Str × Nat)} {pos : Pos} {wi : TI} {g : TG} {tt : TT} {te : TE} {E : XK} (hc : X.calm = true) (hN : X.N.Nodup) (hst : X.stack = X.env :: X.outer ∧ X.env.frame = some X.env.locals) (tk : Takes X (fun cls d _ H => E cls d H)) (hi : PI X tg iter wi) (ok : BlkOk X.N X.env.scope scope own)
    (hg : ∀ (s : Shared) (H : Hp) (C : Addr) (cl : List (Str × Addr)) (fp : List Addr) (xe : Value → Shared → Prop), PG (blkX X s H scope (compEnvC scope cl C X.env) fp xe) tg g)
    (ht : ∀ (s : Shared) (H : Hp) (C : Addr) (cl : List (Str × Addr)) (fp : List Addr) (xe : Value → Shared → Prop), PTs (blkX X s H scope (compEnvC scope cl C X.env) fp xe) ifs tt)
    (he : ∀ (s : Shared) (H : Hp) (C : Addr) (cl : List (Str × Addr)) (fp : List Addr) (xe : Value → Shared → Prop), Passes (L2.CX X.prog X.w) (blkX X s H scope (compEnvC scope cl C X.env) fp xe) E → PE (blkX X s H scope (compEnvC scope cl C X.env) fp xe) elt te)
    (hs : ∀ x, foldedSetIterable iter X.env x = pure x := by intro _; rfl) : PE X (.ListComp elt [⟨tg, iter, ifs, 0⟩] scope pos) (tLc wi g tt te (own.map (·.2))) := by
  refine ⟨fun pins s σ H Q I h => ?_⟩
  rw [eval_ListComp]
  have hfree : ∀ y ∈ scope.names, y.2 = .free → ∃ c, X.env.cells.lookup y.1 = some c := fun y hy z => (ok.free y hy z).elim (fun q => I.ok.has _ (.inl q)) fun q => I.ok.has _ (.inr q)
  refine comp_err rfl hs (closure_ok hfree) ok.kind (fun y hy z => by rw [ok.uniq y hy, z]) (thn (hi.run pins s σ H _ I h) fun xv s1 hx => thn hx fun itv s2 h2 => ?_)
  obtain ⟨it, fp, tn, J, H2, eit, I2, T, st2, f2, q⟩ := h2
  subst eit
  refine wpAny_newObj_type (newEnv_comp ?_) (by show 0 ≤ sizeLine; decide)
  obtain ⟨D, eD⟩ : ∃ D, s2.heap.objs.size = D := ⟨_, rfl⟩
  have nD : H2 D = none := I2.hok.fresh (Nat.le_of_eq eD)
  obtain ⟨Wk, ⟨m0, w0⟩, turn⟩ := q D nD
  obtain ⟨s3, es3⟩ : ∃ t : Shared, t = { s2 with heap := s2.heap.push { cls := .type "list", data := .seq ([] : List Value).toArray } } := ⟨_, rfl⟩
  have eh3 : s3.heap = s2.heap.push { cls := .type "list", data := .seq ([] : List Value).toArray } := by rw [es3]
  obtain ⟨H3, eH3⟩ : ∃ G, G = upd H2 D (.lst []) := ⟨_, rfl⟩
  have I3 : Inv X pins σ H3 s3 := by
    rw [eH3, es3]
    refine I2.laid (t' := s2.toks) (fun _ _ z => Heap.get?_push_of_some _ z) (Nat.le_of_eq eD) ⟨Nat.zero_le _, [], 0, .nil, ?_⟩
    rw [← eD]
    exact Heap.get?_push_size _ rfl
  have old : ∀ b ∈ fp, b < s2.heap.objs.size := fun b hb => by
    obtain ⟨o, z, _⟩ := T.obj _ _ st2 b hb
    exact Heap.lt_size z
  have f3 : ∀ b ∈ fp, FpOk X pins H3 b ∧ b < s3.heap.objs.size := fun b hb => by
    have lt := old b hb
    have hz : H3 b = none := by
      rw [eH3, upd_ne (fun z => absurd lt (by rw [z, ← eD]; exact Nat.lt_irrefl _))]
      exact (f2 b hb).1
    exact ⟨⟨hz, (f2 b hb).2⟩, by rw [eh3, Heap.size_push]; exact Nat.lt_succ_of_lt lt⟩
  have w0 : Wk 0 m0 H3 := by rw [eH3]; exact w0
  have st3 : tn 0 s3.heap := T.keep _ _ _ st2 fun b _ o z => by rw [eh3]; exact Heap.get?_push_of_some _ z
  have I4' := block_start I3 ok hN f3
  rw [← es3]
  obtain ⟨cl, ecl⟩ : ∃ cl, cl = cellsFrom (s3.heap.objs.size + 1) scope.names (cloFrom X.env.cells scope.names []) := ⟨_, rfl⟩
  obtain ⟨C, eC⟩ : ∃ C, C = s3.heap.objs.size := ⟨_, rfl⟩
  obtain ⟨s4, es4⟩ : ∃ t : Shared, t = { s3 with heap := pushCells (s3.heap.push { cls := .type "dict", data := .dict #[] }) scope.names } := ⟨_, rfl⟩
  rw [← ecl, ← eC, ← es4] at I4'
  show codeAny _ _ (.compStart (.ListComp elt [⟨tg, iter, ifs, 0⟩] scope pos) 0 (.ref it) (.ref s2.heap.objs.size) (compEnvC scope (cellsFrom (s3.heap.objs.size + 1) scope.names (cloFrom X.env.cells scope.names [])) s3.heap.objs.size X.env)) _ { s3 with heap := pushCells (s3.heap.push { cls := .type "dict", data := .dict #[] }) scope.names }
  rw [← ecl, ← es4]
  obtain ⟨ce, ece⟩ : ∃ c, c = compEnvC scope cl C X.env := ⟨_, rfl⟩
  have clo : ce.locals = C := by rw [ece]; rfl
  have cfr : ce.frame = X.env.frame := by rw [ece]; rfl
  obtain ⟨R, eR⟩ : ∃ R : Result → Shared → Prop, R = fun r t5 => ∃ m, t5.heap.Ns C m ∧ ∀ h', Heap.SameBut C t5.heap h' → match r with
        | .ok _ => EP X pins σ Q (.ref D) { t5 with heap := h' }
        | .error x => wpAny (model X.prog X.w) X.A (passOn "comprehension.variables-let-go" x ce : Sem Value) (fun _ _ => False) X.xe { t5 with heap := h' } := ⟨_, rfl⟩
  have st4 : tn 0 s4.heap := T.keep _ _ _ st3 fun b _ o z => by rw [es4]; exact pushCells_keeps _ _ _ _ (Heap.get?_push_of_some _ z)
  have nfp : ∀ b ∈ fp, H3 b = none := fun b hb => (f3 b hb).1.1
  obtain ⟨xe, exe⟩ : ∃ xe : Value → Shared → Prop, xe = notedBy (model X.prog X.w) X.A ce (fun e s' => R (.error e) s') := ⟨_, rfl⟩
  have I4 : Inv (blkX X s3 H3 scope ce fp xe) [] (wipe σ (own.map (·.2))) H3 s4 := by
    rw [ece]
    exact inv_xe I4'
  have nC3 : H3 C = none := I3.hok.fresh (Nat.le_of_eq eC.symm)
  have nfC : C ∉ frs X.stack := fun z => by
    rcases List.mem_cons.mp (I3.stkSub _ z) with y | y
    · have lt := I3.lt
      rw [← y, eC] at lt
      exact Nat.lt_irrefl _ lt
    · exact I3.nofs (Nat.le_of_eq eC.symm) y
  -- back in the def's own context
  have back : ∀ {pins' : List (Addr × Obj)} {σ' : L2.St} {H' : Hp} {t : Shared}, Inv (blkX X s3 H3 scope ce fp xe) pins' σ' H' t → Inv X pins σ H' t := fun {pins' σ' H' t} I' =>
    I3.call' (ch := fp) I'.os I'.base I'.hok I'.bare fun b hb => ⟨(f3 b hb).1.2.2.2.1, (f3 b hb).1.2.1, (f3 b hb).1.2.2.2.2.1, (f3 b hb).1.2.2.2.2.2⟩
  have freeC : ∀ {pins' : List (Addr × Obj)} {σ' : L2.St} {H' : Hp} {t : Shared}, Inv (blkX X s3 H3 scope ce fp xe) pins' σ' H' t → FpOk X pins H' C ∧ ∃ m, t.heap.Ns C m := fun {pins' σ' H' t} I' => by
    have z : H' ce.locals = none := I'.free
    rw [clo] at z
    obtain ⟨m, hn, _⟩ := I'.loc
    have hn : t.heap.Ns ce.locals m := hn
    rw [clo] at hn
    exact ⟨by rw [eC] at z ⊢; exact I3.fpOk (Nat.le_refl _) z, m, hn⟩
  have errs : Passes (L2.CX X.prog X.w) (blkX X s3 H3 scope ce fp xe) E := by
    intro pins' σ' H' t e t' I' c
    obtain ⟨a, B, H'', cls, d, rfl, fl, okB, ub, na, os, ag, hE⟩ := c
    obtain ⟨fC, m, hn⟩ := freeC I'
    show xe (.ref a) t'
    rw [exe, eR]
    exact comp_pass hst tk (back I') fC nfC hn clo cfr fl okB ub na os ag hE
  have stat : ∀ {σ' : L2.St} {H' : Hp} {t : Shared}, Inv (blkX X s3 H3 scope ce fp xe) [] σ' H' t → (∀ b ∈ fp, H' b = none) → ∀ b ∈ fp, FpOk (blkX X s3 H3 scope ce fp xe) [] H' b := fun {σ' H' t} I' hn b hb =>
    ⟨hn b hb, (I'.ok.exf b hb).1, I'.ok.exfs b hb, .inl hb, fun x c z => (I'.ok.exf b hb).2 x c z, fun p hp => nomatch (show p ∈ ([] : List (Addr × Obj)) from hp)⟩
  have pg := hg s3 H3 C cl fp xe
  have pt := ht s3 H3 C cl fp xe
  have pe := he s3 H3 C cl fp xe
  rw [← ece] at pg pt pe
  have pe := pe errs
  have up : ∀ {α : Type} {t : Sem α} {Q1 Q2 : α → Shared → Prop} {u : Shared}, wpAny (model X.prog X.w) X.A t Q1 xe u → (∀ a u, Q1 a u → Q2 a u) → wpAny (model X.prog X.w) X.A t Q2 (notedBy (model X.prog X.w) X.A ce fun e s' => R (.error e) s') u := fun h1 h2 => by
    rw [exe] at h1
    exact thn h1 h2
  have loop : codeAny (model X.prog X.w) X.A (.compLoop (.ListComp elt [⟨tg, iter, ifs, 0⟩] scope pos) 0 (.ref it) (.ref D) ce) R s4 := by
    refine compLoop_any (fun k t => ∃ i H', Inv (blkX X s3 H3 scope ce fp xe) [] (wipe σ (own.map (·.2))) H' t ∧ tn i t.heap ∧ (∀ b ∈ fp, H' b = none) ∧ Wk i k H') (fun k s5 hI => ?_) m0 ⟨0, H3, I4, st4, nfp, w0⟩
    obtain ⟨i, H5, I5, st5, n5, w5⟩ := hI
    rcases turn i k H5 w5 with ⟨stop, qq⟩ | ⟨go, Nx, hNx, step⟩
    · refine thnF (T.done (blkX X s3 H3 scope ce fp xe) rfl rfl rfl hc i [] s5 _ H5 (fun _ _ => False) I5 (stat I5 n5) st5 stop) fun r s6 ⟨er, I6⟩ => ?_
      subst er
      obtain ⟨⟨a0, a1, a2, a3, a4, a5⟩, m, hn⟩ := freeC I6
      have I7 := back I6
      rw [eR]
      exact ⟨m, hn, fun h' sb => ⟨.ref D, H5, I7.turned (t' := s6.toks) (fun b o nb z => (sb.2 b nb).trans z) a0 a1 a3 a4 a5, rfl, qq⟩⟩
    · refine thnF (T.item (blkX X s3 H3 scope ce fp xe) rfl rfl rfl hc i [] s5 _ H5 (fun _ _ => False) I5 (stat I5 n5) st5 go) fun r s6 ⟨u, er, h6⟩ => ?_
      subst er
      refine thnF h6 fun _ s7 ⟨x, H7, I7, r7, y7, st7, n7⟩ => ?_
      have I7p := I7.pinned (stat I7 n7) (T.obj _ _ st7)
      refine up (pg.run _ s7 _ H7 x u _ I7p r7 (step x H7 y7)) fun _ s8 ⟨σ8, H8, I8, hw8, q8⟩ => ?_
      refine up (pt.run _ s8 σ8 H8 _ I8 q8) fun b s9 ⟨H9, I9, q9⟩ => ?_
      have fin : ∀ {t : Shared} {H' : Hp}, Inv (blkX X s3 H3 scope ce fp xe) ([] ++ pinsAt fp s7.heap) σ8 H' t → Nx H' → ∃ m, m < k ∧ ∃ i H', Inv (blkX X s3 H3 scope ce fp xe) [] (wipe σ (own.map (·.2))) H' t ∧ tn i t.heap ∧ (∀ b ∈ fp, H' b = none) ∧ Wk i m H' := fun {t H'} I' nx => by
        obtain ⟨m', hm, w'⟩ := hNx H' nx
        have kp : ∀ b ∈ fp, ∀ o, s7.heap.get? b = some o → t.heap.get? b = some o ∧ H' b = none := fun b hb o z => by
          have y := I'.pin (b, o) (List.mem_append_right _ (List.mem_append_right _ (mem_pinsAt hb z)))
          exact ⟨y.1, y.2.1⟩
        refine ⟨m', hm, i + 1, H', (I'.unpinned (pins := [])).weak (by rw [← hw8, wipe_length]) (fun j v z => ?_), T.keep _ _ _ st7 fun b hb o z => (kp b hb o z).1, fun b hb => ?_, w'⟩
        · rw [← hw8] at z
          exact (wipe_some z).1
        · obtain ⟨o, z, _⟩ := T.obj _ _ st7 b hb
          exact (kp b hb o z).2
      cases b with
      | false =>
        simp only [Bool.false_eq_true, if_false] at q9 ⊢
        exact fin I9 q9
      | true =>
        simp only [if_true] at q9 ⊢
        refine up (pe.run _ s9 σ8 H9 _ I9 q9) fun z s10 ⟨yv, H10, I10, r10, acc, hD10, hz10, nx⟩ => ?_
        exact app_ok (X := blkX X s3 H3 scope ce fp xe) I10 hD10 hz10 r10 fun s11 I11 => fin I11 nx
  have key := codeAny_compStart_list loop (T.self X.A 0 _ _ _ st4 loop)
  rw [eR, ece, eD.symm, eC] at key
  exact key
end
end Wa
local macro_rules | `(tactic| walk_at "ne") => `(tactic| first
  | assumption
  | (apply Ne.symm; assumption)
  | ((refine' Wa.ne_none (by assumption) ?hh); (case hh => walk_at "hp"))
  | ((refine' Wa.ne_none' (by assumption) ?hh); (case hh => walk_at "hp"))
  | ((refine' Wa.ne_noneT (by assumption) ?hh); (case hh => walk_at "hp"))
  | ((refine' Wa.ne_noneT' (by assumption) ?hh); (case hh => walk_at "hp")))
local macro_rules | `(tactic| walk_at "hp") => `(tactic| first
  | assumption
  | exact Wa.at_same (by assumption)
  | ((refine' Wa.at_gr (by assumption) ?hh); (case hh => walk_at "hp"))
  | ((refine' Wa.at_grT (by assumption) ?hh); (case hh => walk_at "hp"))
  | ((refine' Wa.at_sm (by assumption) ?hh); (case hh => walk_at "hp"))
  | ((refine' Wa.at_ne (by assumption) ?hn ?hh); (case hn => walk_at "ne"); (case hh => walk_at "hp"))
  | ((refine' Wa.at_pop (by assumption) ?hn ?hh); (case hn => walk_at "ne"); (case hh => walk_at "hp"))
  | ((refine' Wa.at_og (by assumption) ?hn ?hh); (case hn => walk_at "ne"); (case hh => walk_at "hp"))
  | ((refine' Wa.at_ogT (by assumption) ?hn ?hh); (case hn => walk_at "ne"); (case hh => walk_at "hp"))
  | ((refine' Wa.at_oth (by assumption) ?hn ?hh); (case hn => walk_at "ne"); (case hh => walk_at "hp")))
local macro_rules | `(tactic| walk_at "tb") => `(tactic| first
  | assumption
  | ((refine' Wa.tb_gr (by assumption) ?hh); (case hh => walk_at "tb"))
  | ((refine' Wa.tb_sm (by assumption) ?hh); (case hh => walk_at "tb"))
  | ((refine' Wa.tb_new (by assumption) (by assumption) ?hh); (case hh => walk_at "tb"))
  | ((refine' Wa.tb_upd (by assumption) ?hn ?hh); (case hn => walk_at "hp"); (case hh => walk_at "tb"))
  | ((refine' Wa.tb_pop (by assumption) ?hn ?hh); (case hn => walk_at "hp"); (case hh => walk_at "tb"))
  | ((refine' Wa.tb_og (by assumption) ?hn ?hh); (case hn => walk_at "hp"); (case hh => walk_at "tb"))
  | ((refine' Wa.tb_oth (by assumption) ?hn ?hh); (case hn => walk_at "hp"); (case hh => walk_at "tb")))
namespace Wa
open PySem PySem.Spec PyProof.Rows L2
/-! own errors: what is known of a class of them -/
structure Xc (K : PySem.W.Frag) (mg : Str → Option Value) (x : Str) (C : Addr) : Prop where
  e : PySem.W.excIn K C [.type "ValueError", .type "Exception", .type "BaseException", .type "object"] "ValueError.__new__" = true
  g : mg x = some (.ref C)
  k : PySem.W.keepIn K (.ref C) = true
  b : PySem.W.subIn K (.ref C) (.type "BaseException") = some true
  t : PySem.W.typeIn K (.ref C) = some (.type "type")
/-- a def whose code is known, and that may raise -/
theorem okCX {P : Program} {w : World} {K : PySem.W.Frag} {mg : Str → Option Value} {base : Heap} {x qual : Str} {st : Stmt} {f c : Addr} {fd : FuncData} {N ps : List Str} {k : Nat} {sp : Sp} (F : Fun K x qual st f fd) (hcd : fd.code = .ref c) (S : FnScope N ps (defScope st)) (len : ∀ vs H Q E, sp vs H Q E → vs.length = ps.length)
    (hbody : ∀ (A : Around) (outer : List Env) (s : Shared) (H : Hp) (vs : List V) (Q : VK) (E : XK), Room k (A.deeper (envOfC qual (defScope st) s.heap.objs.size f (.ref c))) → sp vs H Q E →
      ∃ t, PSs (cxOf (L2.CX P w) P w K mg base N qual (defScope st) f (.ref c) A outer s H E) (defBody st) t ∧ t { nx := fun _ H' => Q .non H', rt := Q } (start N vs) H) : FnOk P w K mg base (L2.CX P w) (k + 1) f fd ps sp := by
  obtain ⟨oc, od, kV, doc, pm, an, cdv, ct, osl, rfl, lk, hco⟩ := F.ex
  have e : cdv = .ref c := hcd
  subst e
  exact fn_of lk hco S len fun A outer s H vs Q E hr hsp => hbody A outer s H vs Q E hr hsp
end Wa
namespace Wa
open PySem PySem.Spec PyProof.Rows L2
abbrev nPartsIn : List Str := ["text"]
theorem scPartsIn : FnScope nPartsIn ["text"] (defScope sPartsIn) := ⟨rfl, rfl, rfl, by decide +kernel, rfl, by decide +kernel, by decide +kernel⟩
def spParts : Sp := fun vs H Q _ => ∃ z : Str, vs = [.str z] ∧ z.length ≤ 15000000 ∧ ∀ H' p, Gr H H' → H p = none → H' p = some (.lst ((prt z).map V.str)) → Q (.ref p) H'
section
variable {P : Program} {w : World} {K : PySem.W.Frag} {mg : Str → Option Value} {base : Heap}
theorem ok_PartsIn {fPartsIn : Addr} {fdPartsIn : FuncData} {k : Nat} (dPartsIn : Df K mg "parts_in" sPartsIn ["text"] fPartsIn fdPartsIn)
      :
    FnOk P w K mg base CX0 (k + 1) fPartsIn fdPartsIn ["text"] (spParts) := by
  refine dPartsIn.F.ok scPartsIn (fun vs H Q E h => ?_) (fun cdv A outer s H vs Q E hr h => ?_)
  · obtain ⟨z, rfl, _⟩ := h
    rfl
  · obtain ⟨z, rfl, hl, ret⟩ := h
    refine ⟨_, pss_one (ps_ret (pe_ifExp (pt_cmpR op_eq (pv 0) (pe_str) (nomark _)) (pe_lst pa_nil) (pe_m1 PySem.F.slot_str_split PySem.F.type_str_split mt_split (pv 0) (pe_str)))), ?_⟩
    refine ⟨_, rfl, rfl, _, rfl, ?_⟩
    unfold prt at ret
    rw [decV_str]
    refine ite2 (fun e => ?_) (fun e => ?_)
    · have e : z = dash := of_decide_eq_true e
      rw [if_pos e] at ret
      exact ⟨Nat.zero_le _, newO ret⟩
    · have e : z ≠ dash := fun q => e (decide_eq_true q)
      rw [if_neg e] at ret
      exact ⟨_, rfl, ⟨_, rfl⟩, z, blank, rfl, rfl, rfl, sz (by omega), newO ret⟩
end
end Wa
namespace Wa
open PySem PySem.Spec PyProof.Rows L2
/-! numbers read -/
abbrev nNumberIn : List Str := ["text", "most", "sign"]
theorem scNumberIn : FnScope nNumberIn ["text", "most"] (defScope sNumberIn) := ⟨rfl, rfl, rfl, by decide +kernel, rfl, by decide +kernel, by decide +kernel⟩
def spNumIn (p : Addr) : Sp := fun vs H Q _ => ∃ (z : Str) (m : Nat), vs = [.str z, .int m] ∧ m ≤ 100 ∧ z.length ≤ 15000000 ∧ GxR.TabG H p ∧ ∀ H', Gr H H' → Q (optI (numIn z m)) H'
section
variable {P : Program} {w : World} {K : PySem.W.Frag} {mg : Str → Option Value} {base : Heap}
theorem ok_NumberIn {fNumberIn  pNumberIn  cNumberIn : Addr} {fdNumberIn : FuncData} {k : Nat} (dNumberIn : Df K mg "number_in" sNumberIn ["text", "most"] fNumberIn fdNumberIn) (hcNumberIn : fdNumberIn.code = .ref cNumberIn) (tbNumberIn : GxR.TabB base mg cNumberIn pNumberIn)
    {tkFIGURES : Tok} (mFIGURES : mg "FIGURES" = some (.str ("0123456789" : Str) tkFIGURES)) (mint : mg "int" = none) (many : mg "any" = none) (ml : mg "len" = none) :
    FnOk P w K mg base CX0 (k + 4) fNumberIn fdNumberIn ["text", "most"] (spNumIn pNumberIn) := by
  refine okC dNumberIn.F hcNumberIn scNumberIn (fun vs H Q E h => ?_) (fun A outer s H vs Q E hr h => ?_)
  · obtain ⟨z, m, rfl, _⟩ := h
    rfl
  · obtain ⟨z, m, rfl, hm, hz, hT, ret⟩ := h
    have TB := tbNumberIn
    refine ⟨_, pss_cons (ps_if (PW.pt (pw_or (pt_not (pt_chain op_le op_le (pe_int) (pe_callB call_len_str (by rfl) ml (PySem.boot_len) (pa_cons (pv 0) pa_nil)) (pv 1))) (pw_or1 (pt_val (Gx.pe_anyG (k := k) (own := [("sign", 2)]) (g := gName 2) (tt := tYes) hr (by rfl) many (by exact ⟨TB, rfl, rfl, blkOk_by (own := [("sign", 2)]) (N := nNumberIn) (sc := defScope sNumberIn) (by decide +kernel), by decide +kernel, by decide +kernel, rfl, scNumberIn.nd, fun _ _ _ _ _ _ _ => pg_name (i := 2) scNumberIn.nd rfl (.inl rfl), fun _ _ _ _ _ _ _ hr2 => pts_nil, fun _ _ _ _ _ _ _ hr2 => pe_cmpR op_notIn_sign (pv 2) (pe_glob (v := .str ("0123456789" : Str)) rfl mFIGURES ⟨tkFIGURES, rfl⟩) (by rfl)⟩) (pi_str (pv 0))))))) (pss_one (ps_ret (pe_non))) pss_nil)
      (pss_cons (ps_if (PW.pt (pw_and (pt_cmpR op_eq (pe_item_str (pv 0) (pe_int) (fun _ _ => rfl)) (pe_str) (nomark _)) (pw_and1 (pt_cmpR op_ne (pv 0) (pe_str) (nomark _))))) (pss_one (ps_ret (pe_non))) pss_nil)
      (pss_one (ps_ret (pe_callTy call_int_str (by rfl) mint (by decide +kernel) (pa_cons (pv 0) pa_nil))))), ?_⟩
    have e1 : decide ((1 : Int) ≤ (z.length : Int)) = decide (1 ≤ z.length) := by
      by_cases h : 1 ≤ z.length
      · rw [decide_eq_true h, decide_eq_true (by omega)]
      · rw [decide_eq_false h, decide_eq_false (by omega)]
    have e2 : decide ((z.length : Int) ≤ (m : Int)) = decide (z.length ≤ m) := by
      by_cases h : z.length ≤ m
      · rw [decide_eq_true h, decide_eq_true (by omega)]
      · rw [decide_eq_false h, decide_eq_false (by omega)]
    unfold numIn at ret
    have no : ∀ H', Gr H H' → ((decide (1 ≤ z.length) && decide (z.length ≤ m)) && z.cps.toList.all isFig) = false → Q .non H' := fun H' g e => by
      have r := ret H' g
      rw [if_neg (by rw [e]; exact Bool.false_ne_true)] at r
      exact r
    refine ⟨_, rfl, z, rfl, sz (by omega), _, _, rfl, rfl, _, rfl, ?_⟩
    rw [e1]
    cases h1 : decide (1 ≤ z.length) with
    | false => exact iteF ⟨_, rfl, iteT (no H (Gr.refl _) (by rw [h1]; rfl))⟩
    | true =>
      refine iteT ⟨_, rfl, _, _, rfl, rfl, _, rfl, ?_⟩
      rw [e2]
      cases h2 : decide (z.length ≤ m) with
      | false => exact iteT (no H (Gr.refl _) (by rw [h1, h2]; rfl))
      | true =>
        refine iteF ⟨_, rfl, z, rfl, hT, fun H2 t2 => ?_⟩
        have g2 := Gr.tabbed hT t2
        refine anyG (handsL_txt z) (fun c => !isFig c) (fun c x H' Y N hc g ex hy => ?_) (fun H3 g3 => ?_)
        · subst ex
          refine ⟨rfl, yes (iteT ⟨_, rfl, c, figs, rfl, rfl, ?_⟩)⟩
          rw [figs_mem]
          exact hy H' (Gr.refl _)
        · have g13 := g2.trans g3
          refine ⟨_, rfl, ?_⟩
          have ea : (z.cps.toList.any fun c => !isFig c) = !z.cps.toList.all isFig := by rw [List.not_all_eq_any_not]
          rw [ea]
          cases h3 : z.cps.toList.all isFig with
          | false => exact iteT (no H3 g13 (by rw [h3, Bool.and_false]))
          | true =>
            refine iteF ?_
            have r := ret H3 g13
            rw [h1, h2, h3, if_pos (by rfl)] at r
            have l1 := of_decide_eq_true h1
            have l2 := of_decide_eq_true h2
            have ha := List.all_eq_true.mp h3
            have len : z.cps.toList.length = z.length := (TL.len_tl z).symm
            cases hd : z.cps.toList with
            | nil => rw [hd] at len; simp at len; omega
            | cons c cs =>
              have hc0 : z.cps[0]? = some c := by rw [← Array.getElem?_toList, hd]; rfl
              rw [hd] at r
              refine ⟨_, rfl, z, 0, c, rfl, rfl, by decide, by decide, by omega, hc0, rfl, _, rfl, ?_⟩
              have hv : intText? z = some ((NumText.digitsVal (c :: cs) : Nat) : Int) := by
                rw [← hd]
                refine intText_digits (fun x hx => ?_) (by rw [hd]; simp) (by omega)
                have := ha x hx
                unfold isFig at this
                rw [Bool.and_eq_true] at this
                exact ⟨of_decide_eq_true this.1, of_decide_eq_true this.2⟩
              have fin : ¬ (some c = some 48 ∧ z ≠ zeroS) → Q (.int ((NumText.digitsVal (c :: cs) : Nat) : Int)) H3 := fun e => by
                rw [List.head?_cons, if_neg e] at r
                exact r
              have ec : decide (V.str ⟨#[c]⟩ = V.str zeroS) = decide (c = 48) := by
                rw [decV_str]
                by_cases h : c = 48
                · subst h
                  decide +kernel
                · rw [decide_eq_false h, decide_eq_false]
                  intro q
                  have q2 := congrArg (fun s : Str => s.cps.toList) q
                  have q3 : zeroS.cps.toList = [48] := by decide +kernel
                  rw [q3] at q2
                  exact h (List.cons.inj q2).1
              by_cases h4 : c = 48
              · refine iteTB (by exact ec.trans (decide_eq_true h4)) ?_
                refine ⟨_, rfl, rfl, _, rfl, ?_⟩
                rw [decV_str]
                by_cases h5 : z = zeroS
                · refine iteFB (by rw [decide_eq_true (show z = ("0" : Str) from h5)]; rfl) ?_
                  exact ⟨_, rfl, z, _, rfl, hv, by omega, fin fun e => e.2 h5⟩
                · refine iteTB (by rw [decide_eq_false (show ¬ z = ("0" : Str) from h5)]; rfl) ?_
                  rw [List.head?_cons, if_pos ⟨by rw [h4], h5⟩] at r
                  exact r
              · refine iteFB (by exact ec.trans (decide_eq_false h4)) ?_
                exact ⟨_, rfl, z, _, rfl, hv, by omega, fin fun e => h4 (Option.some.inj e.1)⟩
end
abbrev nReadNumber : List Str := ["text", "number"]
theorem scReadNumber : FnScope nReadNumber ["text"] (defScope sReadNumber) := ⟨rfl, rfl, rfl, by decide +kernel, rfl, by decide +kernel, by decide +kernel⟩
def spReadNum (p C : Addr) : Sp := fun vs H Q E => ∃ (z : Str), vs = [.str z] ∧ z.length ≤ 15000000 ∧ GxR.TabG H p ∧ (∀ n, numIn z 60 = some n → ∀ H', Gr H H' → Q (.int n) H') ∧ (numIn z 60 = none → ∀ H', Gr H H' → E (.ref C) none H')
section
variable {P : Program} {w : World} {K : PySem.W.Frag} {mg : Str → Option Value} {base : Heap}
theorem ok_ReadNumber {fReadNumber  fNumberIn  pNumberIn  CNoText : Addr} {fdReadNumber fdNumberIn : FuncData} {k : Nat} (dReadNumber : Df K mg "read_number" sReadNumber ["text"] fReadNumber fdReadNumber)
    (dNumberIn : Df K mg "number_in" sNumberIn ["text", "most"] fNumberIn fdNumberIn) (gNumberIn : FnOk P w K mg base CX0 k fNumberIn fdNumberIn ["text", "most"] (spNumIn pNumberIn))
    (xNoText : Xc K mg "NoText" CNoText)
    {tkMOST_FIGURES : Tok} (mMOST_FIGURES : mg "MOST_FIGURES" = some (.int 60 tkMOST_FIGURES))  :
    FnOk P w K mg base (L2.CX P w) (k + 1) fReadNumber fdReadNumber ["text"] (spReadNum pNumberIn CNoText) := by
  refine dReadNumber.F.okX scReadNumber (fun vs H Q E h => ?_) (fun cdv A outer s H vs Q E hr h => ?_)
  · obtain ⟨z, rfl, _⟩ := h
    rfl
  · obtain ⟨z, rfl, hz, hT, ret, err⟩ := h
    refine ⟨_, pss_cons (ps_set (i := 1) scReadNumber.nd rfl (.inl rfl) (pe_call gNumberIn hr (by rfl) dNumberIn.g dNumberIn.F.kp dNumberIn.b .nil pass0 (pa_cons (pv 0) (pa_cons (pe_glob (v := .int 60) rfl mMOST_FIGURES ⟨tkMOST_FIGURES, rfl⟩) pa_nil))))
      (pss_cons (ps_if (pt_cmpR op_isN (pv 1) (pe_non) (nomark _)) (pss_one (ps_raise rfl (takes_of rfl rfl rfl rfl) (pmk_own PySem.F.excBase_ValueError xNoText.e xNoText.g xNoText.k (raises_own xNoText.b xNoText.t) rfl))) pss_nil)
      (pss_one (ps_ret (pv 1)))), ?_⟩
    refine ⟨_, rfl, z, 60, rfl, by decide, hz, hT, fun H1 g1 => ?_⟩
    cases e : numIn z 60 with
    | none => exact ⟨_, rfl, rfl, _, rfl, iteT (err e H1 g1)⟩
    | some n => exact ⟨_, rfl, rfl, _, rfl, iteF ⟨_, rfl, ret n e H1 g1⟩⟩
end
end Wa
namespace Wa
open PySem PySem.Spec PyProof.Rows L2
/-! papers read, the raises too -/
/-- a comprehension whose element may fail -/
theorem lcE {α : Type} {K : PySem.W.Frag} {H1 : Hp} {a : Addr} {l : List α} {φ : α → V} {g : TG} {tt : TT} {te : TE} {vs : List Nat} {σ : L2.St} {D : Addr} {Qd : Hp → Prop} (ha : SqL K H1 a (l.map φ)) (f : α → Option V) (nD : H1 D = none) (hz : l.length ≤ 16000000)
    (hs : ∀ x H' (Y : VK) (N : Hp → Prop), x ∈ l → Gr H1 H' → (∀ v, f x = some v → ∀ H'', Gr H' H'' → Y v H'') →
      g (φ x) (wipe σ vs) H' fun σ2 H2 => wipe σ2 vs = wipe σ vs ∧ tt σ2 H2 fun b H3 => if b = true then te σ2 H3 Y else N H3)
    (hd : ∀ H' us, Gr H1 H' → l.mapM f = some us → H' D = some (.lst us) → Qd H') :
    ∃ W : Nat → Nat → Hp → Prop, (∃ m, W 0 m (upd H1 D (.lst []))) ∧ ∀ i m H, W i m H →
      ((Itl K a).stop i H ∧ Qd H) ∨ ((Itl K a).go i H ∧ ∃ Nx : Hp → Prop, (∀ H', Nx H' → ∃ m', m' < m ∧ W (i + 1) m' H') ∧ ∀ x H', (Itl K a).yld i H x H' → g x (wipe σ vs) H' fun σ2 H2 => wipe σ2 vs = wipe σ vs ∧ tt σ2 H2 fun b H3 =>
        if b = true then te σ2 H3 fun y H4 => ∃ acc, H4 D = some (.lst acc) ∧ acc.length < sizeLine ∧ Nx (upd H4 D (.lst (acc ++ [y]))) else Nx H3) := by
  have hJ := handsL_list ha
  refine walk_n l.length (fun i H' => ∃ us, (l.take i).mapM f = some us ∧ Gr H1 H' ∧ H' D = some (.lst us)) ⟨[], rfl, (Gr.refl _).new nD, upd_same⟩ (fun i H' hi hp => ?_) (fun H' hp => ?_)
  · obtain ⟨us, i1, i2, i3⟩ := hp
    refine ⟨hJ.go i H' hi i2, fun x H'' y => ?_⟩
    obtain ⟨g1, u, eu, rfl⟩ := hJ.yld i H' x H'' hi i2 y
    refine hs u H'' _ _ (List.mem_of_getElem? eu) (i2.trans g1) fun v ev H3 g3 => ?_
    have lu := (mapM_get i1).1
    rw [List.length_take] at lu
    refine ⟨us, g3.lst (g1.lst i3), sz' (by omega), us ++ [v], ?_, ((i2.trans g1).trans g3).over nD, upd_same⟩
    rw [List.take_add_one, eu, Option.toList_some, List.mapM_append, i1, List.mapM_cons, ev]
    rfl
  · obtain ⟨us, i1, i2, i3⟩ := hp
    rw [List.take_length] at i1
    exact ⟨hJ.stop H' i2, hd H' us i2 i1 i3⟩
theorem mapM_map {α β γ : Type} {f : α → Option β} {h : β → γ} : ∀ {l : List α} {us : List γ}, l.mapM (fun x => (f x).map h) = some us → ∃ rs, l.mapM f = some rs ∧ us = rs.map h
  | [], us, e => by cases e; exact ⟨[], rfl, rfl⟩
  | x :: l, us, e => by
    rw [List.mapM_cons] at e
    cases e1 : f x with
    | none => rw [e1] at e; cases e
    | some y =>
      cases e2 : l.mapM (fun x => (f x).map h) with
      | none => rw [e1, e2] at e; cases e
      | some vs =>
        rw [e1, e2] at e
        cases e
        obtain ⟨rs, er, rfl⟩ := mapM_map e2
        exact ⟨y :: rs, by rw [List.mapM_cons, e1, er]; rfl, rfl⟩
theorem mapM_leads : ∀ {ms : List Str}, (∀ t ∈ ms, t ∈ leads) → ∃ ks, ms.mapM mkOf = some ks
  | [], _ => ⟨[], rfl⟩
  | t :: r, h => by
    obtain ⟨ks, e⟩ := mapM_leads fun x hx => h x (List.mem_cons_of_mem _ hx)
    obtain ⟨m, em⟩ := mk_lead (h t List.mem_cons_self)
    exact ⟨m :: ks, by rw [List.mapM_cons, em, mk_of, e]; rfl⟩
abbrev nReadInmost : List Str := ["text", "front", "colon", "rows", "name", "blank", "times", "row"]
theorem scReadInmost : FnScope nReadInmost ["text"] (defScope sReadInmost) := ⟨rfl, rfl, rfl, by decide +kernel, rfl, by decide +kernel, by decide +kernel⟩
def spReadInX (p1 C : Addr) : Sp := fun vs H Q E => ∃ (z : Str), vs = [.str z] ∧ z.length ≤ 15000000 ∧ GxR.TabG H p1 ∧ (∀ p, rdIn z = some p → ∀ H' v l, Gr H H' → H l = none → (∃ o, H' l = some o) → PapAt H' l v p → Q v H') ∧ (rdIn z = none → ∀ H', Gr H H' → E (.ref C) none H')
section
variable {P : Program} {w : World} {K : PySem.W.Frag} {mg : Str → Option Value} {base : Heap}
theorem ok_ReadInmost {fReadInmost  fReadNumber  fPartsIn  pNumberIn  CNoText : Addr} {fdReadInmost fdReadNumber fdPartsIn : FuncData} {k : Nat} (dReadInmost : Df K mg "read_inmost" sReadInmost ["text"] fReadInmost fdReadInmost)
    (dReadNumber : Df K mg "read_number" sReadNumber ["text"] fReadNumber fdReadNumber) (gReadNumber : FnOk P w K mg base (L2.CX P w) k fReadNumber fdReadNumber ["text"] (spReadNum pNumberIn CNoText))
    (dPartsIn : Df K mg "parts_in" sPartsIn ["text"] fPartsIn fdPartsIn) (gPartsIn : FnOk P w K mg base CX0 k fPartsIn fdPartsIn ["text"] (spParts))
    (xNoText : Xc K mg "NoText" CNoText)
    {aPLAIN : Addr} (mPLAIN : mg "PLAIN" = some (.ref aPLAIN)) (wPLAIN : txtsIn K aPLAIN ["one", "all", "balls"] = true)  :
    FnOk P w K mg base (L2.CX P w) (k + 1) fReadInmost fdReadInmost ["text"] (spReadInX pNumberIn CNoText) := by
  refine dReadInmost.F.okX scReadInmost (fun vs H Q E h => ?_) (fun cdv A outer s H vs Q E hr h => ?_)
  · obtain ⟨z, rfl, _⟩ := h
    rfl
  · obtain ⟨z, rfl, hz, hT, ret, err⟩ := h
    refine ⟨_, pss_cons (ps_if (pt_cmpR op_in_seq (pv 0) (pe_glob (v := .ref aPLAIN) rfl mPLAIN rfl) (by rfl)) (pss_one (ps_ret (pe_tup (pa_cons (pv 0) pa_nil)))) pss_nil)
      (pss_cons (ps_asg (pe_m1 PySem.F.slot_str_partition PySem.F.type_str_partition mt_partition (pv 0) (pe_str)) (pg_tup (by rfl) (pgs_cons (pg_name (i := 1) scReadInmost.nd rfl (.inl rfl)) (pgs_cons (pg_name (i := 2) scReadInmost.nd rfl (.inl rfl)) (pgs_cons (pg_name (i := 3) scReadInmost.nd rfl (.inl rfl)) pgs_nil)))))
      (pss_cons (ps_asg (pe_m1 PySem.F.slot_str_partition PySem.F.type_str_partition mt_partition (pv 1) (pe_str)) (pg_tup (by rfl) (pgs_cons (pg_name (i := 4) scReadInmost.nd rfl (.inl rfl)) (pgs_cons (pg_name (i := 5) scReadInmost.nd rfl (.inl rfl)) (pgs_cons (pg_name (i := 6) scReadInmost.nd rfl (.inl rfl)) pgs_nil)))))
      (pss_cons (ps_if (PW.pt (pw_or (pt_cmpR op_eq (pv 2) (pe_str) (nomark _)) (pw_or1 (pt_cmpR op_ne (pv 4) (pe_str) (nomark _))))) (pss_one (ps_raise rfl (takes_of rfl rfl rfl rfl) (pmk_own PySem.F.excBase_ValueError xNoText.e xNoText.g xNoText.k (raises_own xNoText.b xNoText.t) rfl))) pss_nil)
      (pss_one (ps_ret (pe_tup (pa_cons (pv 4) (pa_cons (pe_call gReadNumber hr (by rfl) dReadNumber.g dReadNumber.F.kp dReadNumber.b .nil (passes_call (takes_of rfl rfl rfl rfl) (fun _ _ _ _ h => h)) (pa_cons (pv 6) pa_nil)) (pa_cons (pe_lcX (own := [("row", 7)]) (g := gName 7) (tt := tYes) (te := tCall (spReadNum pNumberIn CNoText) [] _ (tCons (tVar 7) (tNil))) rfl scReadInmost.nd ⟨rfl, rfl⟩ (takes_of rfl rfl rfl rfl) (pi_list (pe_call gPartsIn hr (by rfl) dPartsIn.g dPartsIn.F.kp dPartsIn.b .nil pass0 (pa_cons (pv 3) pa_nil))) (blkOk_by (own := [("row", 7)]) (N := nReadInmost) (sc := defScope sReadInmost) (by decide +kernel)) (fun _ _ _ _ _ _ => pg_name (i := 7) scReadInmost.nd rfl (.inl rfl)) (fun _ _ _ _ _ _ => pts_nil) (fun _ _ _ _ _ _ hps => pe_call gReadNumber hr (by rfl) dReadNumber.g dReadNumber.F.kp dReadNumber.b .nil hps (pa_cons (pv 7) pa_nil))) pa_nil))))))))), ?_⟩
    refine ⟨_, rfl, tCi (inT (S := plains) (txts_sq wPLAIN H) ⟨_, rfl, ?_⟩)⟩
    unfold rdIn at ret err
    by_cases hpl : z ∈ plains
    · refine iteTB (decide_eq_true hpl) ?_
      refine ⟨_, rfl, (show 1 ≤ sizeLine by decide), fun a na => ?_⟩
      generalize hU1 : upd _ _ _ = H1
      have g1 : Gr H H1 := by rw [← hU1]; exact (Gr.refl _).new na
      unfold plains at hpl
      simp only [List.mem_cons, List.not_mem_nil, or_false] at hpl
      rcases hpl with e | e | e
      · subst e
        exact ret _ rfl H1 (.ref a) a g1 na ⟨_, at_same hU1⟩ ⟨a, rfl, at_same hU1⟩
      · subst e
        exact ret _ rfl H1 (.ref a) a g1 na ⟨_, at_same hU1⟩ ⟨a, rfl, at_same hU1⟩
      · subst e
        exact ret _ rfl H1 (.ref a) a g1 na ⟨_, at_same hU1⟩ ⟨a, rfl, at_same hU1⟩
    · refine iteFB (decide_eq_false hpl) ?_
      have n1 : z ≠ "one" ∧ z ≠ "all" ∧ z ≠ "balls" := ⟨fun e => hpl (by rw [e]; decide +kernel), fun e => hpl (by rw [e]; decide +kernel), fun e => hpl (by rw [e]; decide +kernel)⟩
      rw [if_neg n1.1, if_neg n1.2.1, if_neg n1.2.2] at ret err
      obtain ⟨l1, l2⟩ := part_len (z := z) (y := colS) (by decide +kernel)
      refine ⟨_, rfl, ⟨_, rfl⟩, z, colS, rfl, rfl, rfl, sz (by omega), fun t1 nt1 => ?_⟩
      generalize hU1 : upd _ _ _ = H1
      have g1 : Gr H H1 := by rw [← hU1]; exact (Gr.refl _).new nt1
      have et1 := at_same hU1
      generalize Txt.partition z colS = f at *
      obtain ⟨f1, f2, f3⟩ := f
      simp only at ret err l1 l2 et1
      refine ⟨t1, _, rfl, .inl (.inl et1), rfl, _, _, rfl, _, _, rfl, _, _, rfl, rfl, ?_⟩
      obtain ⟨l3, l4⟩ := part_len (z := f1) (y := blank) (by decide +kernel)
      refine ⟨_, rfl, ⟨_, rfl⟩, f1, blank, rfl, rfl, rfl, sz (by omega), fun t2 nt2 => ?_⟩
      generalize hU2 : upd _ _ _ = H2
      have g2 : Gr H1 H2 := by rw [← hU2]; exact (Gr.refl _).new nt2
      have et2 := at_same hU2
      generalize Txt.partition f1 blank = g at *
      obtain ⟨k1, k2, k3⟩ := g
      simp only at ret err l3 l4 et2
      refine ⟨t2, _, rfl, .inl (.inl et2), rfl, _, _, rfl, _, _, rfl, _, _, rfl, rfl, ?_⟩
      have g12 := g1.trans g2
      by_cases hb1 : f2 = ""
      · rw [if_pos (.inl hb1)] at err
        refine ⟨_, rfl, rfl, _, rfl, ?_⟩
        refine iteTB (by rw [decV_str]; exact decide_eq_true hb1) ?_
        exact err rfl H2 g12
      refine ⟨_, rfl, rfl, _, rfl, ?_⟩
      refine iteFB (by rw [decV_str]; exact decide_eq_false hb1) ?_
      by_cases hb2 : ¬ k1 = wavS
      · rw [if_pos (.inr hb2)] at err
        refine ⟨_, rfl, rfl, _, rfl, ?_⟩
        refine iteTB (by rw [decV_str, decide_eq_false (show ¬ k1 = ("waves" : Str) from hb2)]; rfl) ?_
        exact err rfl H2 g12
      have hb2 : k1 = wavS := Classical.not_not.mp hb2
      have hbad : ¬ (f2 = "" ∨ k1 ≠ wavS) := fun e => e.elim hb1 fun e => e hb2
      rw [if_neg hbad] at ret err
      subst hb2
      refine ⟨_, rfl, rfl, _, rfl, ?_⟩
      refine iteFB (by rw [decV_str, decide_eq_true (show wavS = ("waves" : Str) from rfl)]; rfl) ?_
      refine ⟨_, rfl, _, rfl, k3, rfl, by omega, g12.tab _ hT, fun t en H3 g3 => ?_, fun en H3 g3 => err (by rw [en]) H3 (g12.trans g3)⟩
      rw [en] at ret err
      refine ⟨_, rfl, f3, rfl, by omega, fun H4 b g4 nb eb => ?_⟩
      have g14 := g12.trans (g3.trans g4)
      have lp : (prt f3).length ≤ 15000001 := Nat.le_trans (prt_many f3) (by omega)
      have lq : ∀ u ∈ prt f3, u.length ≤ 15000000 := fun u hu => Nat.le_trans (prt_len hu) (by omega)
      refine ⟨b, rfl, ⟨_, sq eb⟩, fun D nD => ?_⟩
      refine lcE (φ := V.str) (sq eb) (fun u => (numIn u 60).map V.int) nD (by omega) (fun u H' Y N hu g hy => ?_) (fun H5 us g5 eus e5 => ?_)
      · refine ⟨rfl, yes (iteT ⟨_, rfl, u, rfl, lq u hu, g.tab _ (g14.tab _ hT), fun n hn H6 g6 => ?_, fun e H6 g6 => ?_⟩)⟩
        · exact hy _ (by rw [hn]; rfl) H6 g6
        · refine err ?_ H6 (g14.trans (g.trans g6))
          cases er : (prt f3).mapM (numIn · 60) with
          | none => rfl
          | some rs =>
            obtain ⟨y, ey⟩ := mapM_all er hu
            rw [ey] at e
            cases e
      · obtain ⟨rs, er, rfl⟩ := mapM_map eus
        refine ⟨(show 3 ≤ sizeLine by decide), fun a na => ?_⟩
        generalize hU6 : upd _ _ _ = H6
        have g6 : Gr H5 H6 := by rw [← hU6]; exact (Gr.refl _).new na
        exact ret (.waves t rs) (by rw [er]) H6 (.ref a) D (g14.trans (g5.trans g6)) (g14.free nD) ⟨_, g6.lst e5⟩ ⟨a, rfl, at_same hU6, g6.lst e5⟩
end
abbrev nReadPaper : List Str := ["text", "makings", "inmost", "paper", "making"]
theorem scReadPaper : FnScope nReadPaper ["text"] (defScope sReadPaper) := ⟨rfl, rfl, rfl, by decide +kernel, rfl, by decide +kernel, by decide +kernel⟩
def spReadPX (p1 p2 C : Addr) : Sp := fun vs H Q E => ∃ (z : Str), vs = [.str z] ∧ z.length ≤ 15000000 ∧ GxR.TabG H p1 ∧ GxR.TabG H p2 ∧ (∀ p, rdP z = some p → ∀ H' v l, Gr H H' → H l = none → (∃ o, H' l = some o) → PapAt H' l v p → Q v H') ∧ (rdP z = none → ∀ H', Gr H H' → E (.ref C) none H')
section
variable {P : Program} {w : World} {K : PySem.W.Frag} {mg : Str → Option Value} {base : Heap}
theorem ok_ReadPaper {fReadPaper  fReadInmost  pNumberIn  pReadPaper  cReadPaper  CNoText : Addr} {fdReadPaper fdReadInmost : FuncData} {k : Nat} (dReadPaper : Df K mg "read_paper" sReadPaper ["text"] fReadPaper fdReadPaper) (hcReadPaper : fdReadPaper.code = .ref cReadPaper) (tbReadPaper : GxR.TabB base mg cReadPaper pReadPaper)
    (dReadInmost : Df K mg "read_inmost" sReadInmost ["text"] fReadInmost fdReadInmost) (gReadInmost : FnOk P w K mg base (L2.CX P w) (k + 3) fReadInmost fdReadInmost ["text"] (spReadInX pNumberIn CNoText))
    (xNoText : Xc K mg "NoText" CNoText)
    {tkMOST_MAKINGS : Tok} (mMOST_MAKINGS : mg "MOST_MAKINGS" = some (.int 12 tkMOST_MAKINGS)) {aLEADING : Addr} (mLEADING : mg "LEADING" = some (.ref aLEADING)) (wLEADING : txtsIn K aLEADING ["nearer", "cut", "shorter", "longer"] = true) (many : mg "any" = none) (ml : mg "len" = none) :
    FnOk P w K mg base (L2.CX P w) (k + 4) fReadPaper fdReadPaper ["text"] (spReadPX pNumberIn pReadPaper CNoText) := by
  refine okCX dReadPaper.F hcReadPaper scReadPaper (fun vs H Q E h => ?_) (fun A outer s H vs Q E hr h => ?_)
  · obtain ⟨z, rfl, _⟩ := h
    rfl
  · obtain ⟨z, rfl, hz, hT, hT2, ret, err⟩ := h
    have TB := tbReadPaper
    refine ⟨_, pss_cons (ps_asg (pe_m1 PySem.F.slot_str_split PySem.F.type_str_split mt_split (pv 0) (pe_str)) (pg_star (n := 2) (i := 0) (by rfl) (pgs_star (pg_name (i := 1) scReadPaper.nd rfl (.inl rfl)) (pgs_cons (pg_name (i := 2) scReadPaper.nd rfl (.inl rfl)) pgs_nil))))
      (pss_cons (ps_if (pt_cmpR op_gt (pe_op op_add (pe_callB call_lenK (by rfl) ml (PySem.boot_len) (pa_cons (pv 1) pa_nil)) (pe_int)) (pe_glob (v := .int 12) rfl mMOST_MAKINGS ⟨tkMOST_MAKINGS, rfl⟩) (nomark _)) (pss_one (ps_raise rfl (takes_of rfl rfl rfl rfl) (pmk_own PySem.F.excBase_ValueError xNoText.e xNoText.g xNoText.k (raises_own xNoText.b xNoText.t) rfl))) pss_nil)
      (pss_cons (ps_if (pt_val (Gx.pe_anyG (k := k) (own := [("making", 4)]) (te := tOp (rIn K true) (tVar 4) (tC (.ref aLEADING))) (g := gName 4) (tt := tYes) hr (by rfl) many (by exact ⟨TB, rfl, rfl, blkOk_by (own := [("making", 4)]) (N := nReadPaper) (sc := defScope sReadPaper) (by decide +kernel), by decide +kernel, by decide +kernel, rfl, scReadPaper.nd, fun _ _ _ _ _ _ _ => pg_name (i := 4) scReadPaper.nd rfl (.inl rfl), fun _ _ _ _ _ _ _ hr2 => pts_nil, fun _ _ _ _ _ _ _ hr2 => pe_cmpR op_notIn_seq (pv 4) (pe_glob (v := .ref aLEADING) rfl mLEADING rfl) (by rfl)⟩) (pi_list (pv 1)))) (pss_one (ps_raise rfl (takes_of rfl rfl rfl rfl) (pmk_own PySem.F.excBase_ValueError xNoText.e xNoText.g xNoText.k (raises_own xNoText.b xNoText.t) rfl))) pss_nil)
      (pss_cons (ps_set (i := 3) scReadPaper.nd rfl (.inl rfl) (pe_call gReadInmost hr (by rfl) dReadInmost.g dReadInmost.F.kp dReadInmost.b .nil (passes_call (takes_of rfl rfl rfl rfl) (fun _ _ _ _ h => h)) (pa_cons (pv 2) pa_nil)))
      (pss_cons (ps_for (passes_of rfl) rfl (pi_list (pe_revL (pv 1))) (pg_name (i := 4) scReadPaper.nd rfl (.inl rfl))
        (pss_one (ps_set (i := 3) scReadPaper.nd rfl (.inl rfl) (pe_tup (pa_cons (pv 4) (pa_cons (pv 3) pa_nil))))))
      (pss_one (ps_ret (pv 3))))))), ?_⟩
    refine ⟨_, rfl, ⟨_, rfl⟩, z, ofS, rfl, rfl, rfl, sz (by omega), fun a na => ?_⟩
    generalize hU1 : upd _ _ _ = H1
    have g1 : Gr H H1 := by rw [← hU1]; exact (Gr.refl _).new na
    have ea := at_same hU1
    obtain ⟨sl1, sl2⟩ := split_few (z := z) (y := ofS) (by decide +kernel) (by decide +kernel)
    obtain ⟨ms, u, eps⟩ := split_two z (y := ofS) (by decide +kernel) (by decide +kernel)
    unfold rdP at ret err
    rw [eps] at ea sl1 sl2 ret err
    clear eps
    simp only [List.dropLast_concat, List.getLast?_append, List.getLast?_singleton, Option.some_or, Option.getD_some] at ret err
    have lms : (ms ++ [u]).length = ms.length + 1 := by rw [List.length_append]; rfl
    have lx : ((ms ++ [u]).map V.str).length + 1 - 2 = (ms.map V.str).length := by rw [List.length_map, lms, List.length_map]; omega
    refine ⟨a, _, rfl, sq ea, by rw [List.length_map, lms]; omega, fun D nD => ?_⟩
    rw [lx, List.drop_zero, List.take_zero, List.map_append, List.drop_left, List.take_left]
    refine ⟨_, _, rfl, _, _, rfl, rfl, ?_⟩
    generalize hU2 : upd _ _ _ = H2
    have g2 : Gr H1 H2 := by rw [← hU2]; exact (Gr.refl _).new nD
    have eD := at_same hU2
    have g12 := g1.trans g2
    refine ⟨_, rfl, D, _, rfl, .inl (sq eD), _, _, rfl, rfl, _, _, rfl, rfl, _, rfl, ?_⟩
    by_cases h12 : (ms ++ [u]).length > 12
    · rw [if_pos h12] at err
      exact iteTB (decide_eq_true (by rw [List.length_map]; omega)) (err rfl H2 g12)
    refine iteFB (decide_eq_false (by rw [List.length_map]; omega)) ?_
    rw [if_neg h12] at ret err
    have t2 := g12.tab _ hT2
    refine ⟨_, rfl, D, rfl, ⟨_, sq eD⟩, t2, fun H3 u3 => ?_⟩
    have g3 := Gr.tabbed t2 u3
    refine anyG (Φ := fun t _ x => x = V.str t) (handsL_list (φ := V.str) (sq (g3.lst eD))) (fun t => !decide (t ∈ leads)) (fun t x H' Y N ht g ex hy => ?_) (fun H4 g4 => ?_)
    · subst ex
      exact ⟨rfl, yes (iteT ⟨_, rfl, tCi (notInT (S := leads) (txts_sq wLEADING H') (hy H' (Gr.refl _)))⟩)⟩
    · have g14 := g12.trans (g3.trans g4)
      cases em : ms.mapM mkOf with
      | none =>
        have ean : (ms.any fun t => !decide (t ∈ leads)) = true := by
          rw [List.any_eq_true]
          refine Classical.byContradiction fun hno => ?_
          have hl : ∀ t ∈ ms, t ∈ leads := fun t ht => Classical.byContradiction fun h => hno ⟨t, ht, by rw [decide_eq_false h]; rfl⟩
          obtain ⟨ks, ek⟩ := mapM_leads hl
          rw [ek] at em
          cases em
        rw [em] at err
        exact ⟨_, rfl, iteTB ean (err rfl H4 g14)⟩
      | some ks =>
      rw [em] at ret err
      have hl : ∀ t ∈ ms, t ∈ leads := fun t ht => by
        obtain ⟨k, ek⟩ := mapM_all em ht
        exact mkOf_mem ek
      have ean : (ms.any fun t => !decide (t ∈ leads)) = false := by
        rw [List.any_eq_false]
        intro t ht
        rw [decide_eq_true (hl t ht)]
        exact Bool.false_ne_true
      refine ⟨_, rfl, iteFB ean ?_⟩
      have eD4 := g4.lst (g3.lst eD)
      refine ⟨_, rfl, u, rfl, Nat.le_trans (sl2 u (by simp)) hz, g14.tab _ hT, fun p0 ei H5 v l g5 nl hlo hpa => ?_, fun ei H5 g5 => err (by rw [ei]) H5 (g14.trans g5)⟩
      rw [ei] at ret
      have ret := ret _ rfl
      have g15 := g14.trans g5
      have eD5 := g5.lst eD4
      refine ⟨_, rfl, D, _, rfl, sq eD5, fun R nR => ?_⟩
      generalize hU6 : upd _ _ _ = H6
      have g6 : Gr H5 H6 := by rw [← hU6]; exact (Gr.refl _).new nR
      have eR : H6 R = some (.lst (ks.reverse.map fun k => V.str k.s)) := by
        rw [at_same hU6, mapM_mk em, ← List.map_reverse, ← List.map_reverse, List.map_map]
        rfl
      refine ⟨R, rfl, ⟨_, sq eR⟩, ?_⟩
      refine walk_f ks.reverse.length (fun i σ H' => ∃ (v' : V) (y4 : Option V), σ = [some (.str z), some (.ref D), some (.str u), some v', y4] ∧ Gr H6 H' ∧ PapAt H' l v' ((ks.reverse.take i).foldl (fun p m => Pap.led m p) p0))
        ⟨v, none, rfl, Gr.refl _, hpa.gr g6⟩ (fun i σ H' hi hp => ?_) (fun σ H' hp => ?_)
      · obtain ⟨v', y4, rfl, i1, i2⟩ := hp
        refine ⟨itl_go (i1.seq (sq eR)) (by rw [List.length_map]; exact hi), fun x H'' y => ?_⟩
        obtain ⟨rfl, ex⟩ := itl_yld (i1.seq (sq eR)) y
        have gi : ks.reverse[i]? = some ks.reverse[i] := List.getElem?_eq_getElem hi
        rw [List.getElem?_map, gi] at ex
        cases ex
        refine ⟨_, rfl, _, rfl, (show 2 ≤ sizeLine by decide), fun t nt => ?_⟩
        generalize hU7 : upd _ _ _ = H7
        have g7 : Gr H'' H7 := by rw [← hU7]; exact (Gr.refl _).new nt
        refine ⟨_, _, rfl, i1.trans g7, ?_⟩
        rw [List.take_add_one, gi, Option.toList_some, List.foldl_append]
        exact ⟨t, v', rfl, at_same hU7, i2.gr g7⟩
      · obtain ⟨v', y4, rfl, i1, i2⟩ := hp
        refine ⟨itl_stop (i1.seq (sq eR)) (List.length_map ..), ?_⟩
        rw [List.take_length, List.foldl_reverse] at i2
        obtain ⟨o, ho⟩ := hlo
        exact ⟨_, rfl, ret H' v' l (g15.trans (g6.trans i1)) (g14.free nl) ((g6.trans i1).there _ _ ho) i2⟩
end
end Wa
namespace Wa
open PySem PySem.Spec PyProof.Rows L2
/-! the script's draws: popping -/
/-- what pop hands back, and what is left -/
def popV (ds : List Int) : Int := ds.getLast?.getD 0
theorem popV_snoc (r : List Int) (d : Int) : popV (r ++ [d]) = d := by
  unfold popV
  rw [List.getLast?_append]
  rfl
/-- draws: numbers from nought on, below a bound -/
def Drawn (ds : List Int) : Prop := ∀ d ∈ ds, 0 ≤ d ∧ d < 2147483648
theorem Drawn.pop {ds : List Int} (h : Drawn ds) : 0 ≤ popV ds ∧ popV ds < 2147483648 := by
  unfold popV
  cases e : ds.getLast? with
  | none => exact ⟨Int.le_refl _, by decide⟩
  | some d => exact h d (List.mem_of_getLast? e)
theorem Drawn.rest {ds : List Int} (h : Drawn ds) : Drawn ds.dropLast := fun d hd => h d ((List.dropLast_sublist ds).subset hd)
theorem scPop : FnScope ["_law_draws_here"] ["_law_draws_here"] (defScope sPop) := ⟨rfl, rfl, rfl, by decide +kernel, rfl, by decide +kernel, by decide +kernel⟩
def spPop : Sp := fun vs H Q _ => ∃ (a : Addr) (ds : List Int), vs = [.ref a] ∧ H a = some (.lst (ds.map V.int)) ∧ ∀ H', H' a = some (.lst (ds.dropLast.map V.int)) → (∀ b, b ≠ a → ∀ o, H b = some o → H' b = some o) → Q (.int (popV ds)) H'
section
variable {P : Program} {w : World} {K : PySem.W.Frag} {mg : Str → Option Value} {base : Heap}
theorem ok_pop {f : Addr} {fd : FuncData} {k : Nat} (F : Fun K "_law_pop" "_law_pop" sPop f fd) : FnOk P w K mg base CX0 (k + 1) f fd ["_law_draws_here"] spPop := by
  refine F.ok scPop (fun vs H Q E h => ?_) (fun cdv A outer s H vs Q E hr h => ?_)
  · obtain ⟨a, ds, rfl, _⟩ := h
    rfl
  · obtain ⟨a, ds, rfl, ha, q⟩ := h
    refine ⟨_, pss_cons (ps_if (pt_cmpR (op_eqD hr.units) (pv 0) (pe_lst pa_nil) (nomark _)) (pss_one (ps_ret pe_int)) pss_nil)
      (pss_one (ps_ret (pe_bm0 PySem.F.plainAttrs_list PySem.F.slot_list_pop PySem.F.type_list_pop mt_pop (pv 0)))), ?_⟩
    refine ⟨.ref a, rfl, Nat.zero_le _, fun p np => ?_⟩
    have ha' : (upd H p (.lst [])) a = some (.lst (ds.map V.int)) := same_upd np _ _ ha
    refine ⟨dns ds, dns [], .lst (sq ha') (dp_ns ds), .lst (sq upd_same) .nil, sh_ns _, sh_ns _, _, rfl, ?_⟩
    rw [eqv_ns]
    refine ite2 (fun e => ?_) (fun e => ?_)
    · have e0 : ds = [] := of_decide_eq_true e
      subst e0
      exact q _ ha' fun b nb o ho => same_upd np _ _ ho
    · have e0 : ds ≠ [] := fun z => e (decide_eq_true z)
      refine ⟨.ref a, rfl, .inl ⟨rfl, _, sq ha'⟩, a, ds.map V.int, .int (popV ds), rfl, rfl, ha', ?_, ?_⟩
      · rw [List.length_map, List.getElem?_map]
        rw [← List.getLast?_eq_getElem?]
        unfold popV
        cases z : ds.getLast? with
        | none => exact absurd (List.getLast?_eq_none_iff.mp z) e0
        | some d => rfl
      · refine q _ ?_ fun b nb o ho => ?_
        · rw [upd_same, List.map_dropLast]
        · rw [upd_ne nb]
          exact same_upd np _ _ ho
end
end Wa
namespace Wa
open PySem PySem.Spec PyProof.Rows L2
/-! the draws of a script -/
theorem scDraws : FnScope ["_law_script", "_law_turn", "_law_many", "_law_cells", "_law_found", "_law_left", "_law_k", "_law_at", "_law_place", "_law_number_here", "_law_cell"] ["_law_script", "_law_turn", "_law_many"] (defScope sDraws) := ⟨rfl, rfl, rfl, by decide +kernel, rfl, by decide +kernel, by decide +kernel⟩
def spDraws (K : PySem.W.Frag) : Sp := fun vs H Q _ => ∃ (a : Addr) (ns : List Int) (t m : Nat), vs = [.ref a, .int t, .int m] ∧ SqL K H a (ns.map V.int) ∧ t ≤ 1000 ∧ m ≤ 1000 ∧
  ∀ H' p ds, Same H H' → H p = none → ds.length = m → Drawn ds → H' p = some (.lst (ds.map V.int)) → Q (.ref p) H'
theorem cut63 (ns : List Int) : cutV (ns.map V.int) none (some 63) = (ns.take 63).map V.int := by
  unfold cutV
  rw [HT.sIx_none, show HT.sIx (ns.map V.int).length (ns.map V.int).length (some 63) = min 63 (ns.map V.int).length from HT.sIx_nat _ _ 63, List.drop_zero, Nat.sub_zero, List.length_map, ← List.map_take]
  congr 1
  by_cases h : ns.length ≤ 63
  · rw [List.take_of_length_le (by omega), List.take_of_length_le h]
  · rw [show min 63 ns.length = 63 by omega]
theorem drawn_snoc {ds : List Int} {d : Int} (h : Drawn ds) (h0 : 0 ≤ d) (h1 : d < 2147483648) : Drawn (ds ++ [d]) := fun x hx => by
  rcases List.mem_append.mp hx with z | z
  · exact h x z
  · rw [List.mem_singleton.mp z]
    exact ⟨h0, h1⟩
theorem drawn_nil : Drawn [] := fun x hx => absurd hx (by simp)
theorem ixN_at {n : Nat} {k : Int} (h0 : 0 ≤ k) (h : k < n) : ixN n k = some k.toNat := by
  unfold ixN
  rw [if_pos h0, if_pos h]
theorem at_int {xs : List Int} {k : Int} (h0 : 0 ≤ k) (h : k < xs.length) : ∃ d, atI (xs.map V.int) k = some (.int d) := by
  obtain ⟨j, rfl⟩ := Int.eq_ofNat_of_zero_le h0
  have hj : j < xs.length := by omega
  refine ⟨xs[j], atI_nat ?_⟩
  rw [List.getElem?_map, List.getElem?_eq_getElem hj]
  rfl
theorem set_int {xs : List Int} {j : Nat} {d : Int} : (xs.map V.int).set j (.int d) = (xs.set j d).map V.int := List.map_set.symm
section
variable {P : Program} {w : World} {K : PySem.W.Frag} {mg : Str → Option Value} {base : Heap}
theorem ok_draws {f : Addr} {fd : FuncData} {k : Nat} (F : Fun K "_law_draws" "_law_draws" sDraws f fd) (ml : mg "len" = none) (mr : mg "range" = none) : FnOk P w K mg base CX0 (k + 1) f fd ["_law_script", "_law_turn", "_law_many"] (spDraws K) := by
  refine F.ok scDraws (fun vs H Q E h => ?_) (fun cdv A outer s H vs Q E hr h => ?_)
  · obtain ⟨a, ns, t, m, rfl, _⟩ := h
    rfl
  · obtain ⟨a, ns, t, m, rfl, ha, ht, hm, q⟩ := h
    refine ⟨_, pss_cons (ps_set (i := 3) scDraws.nd rfl (.inl rfl) (pe_op op_cat (pe_slice sl_list (pv 0) po_none (po_some pe_int)) (pe_lst (pa_cons (pv 1) pa_nil))))
      (pss_cons (ps_set (i := 4) scDraws.nd rfl (.inl rfl) (pe_lst pa_nil))
      (pss_cons (ps_if (pt_cmpR op_eq (pe_op op_mod (pe_op op_fdivW (pe_ix ix_list (pv 3) pe_int (fun _ _ => rfl)) pe_int) pe_int) pe_int (nomark _))
        (pss_cons (ps_setLc (i := 5) (own := [("_law_cell", 10)]) (g := gName 10) (tt := tYes) rfl scDraws.nd rfl rfl (sw_true rfl rfl rfl (by decide +kernel)) (pi_list (pv 3))
            (blkOk_by (own := [("_law_cell", 10)]) (N := ["_law_script", "_law_turn", "_law_many", "_law_cells", "_law_found", "_law_left", "_law_k", "_law_at", "_law_place", "_law_number_here", "_law_cell"]) (sc := defScope sDraws) (by decide +kernel))
            (fun _ _ _ _ _ => pg_name (i := 10) scDraws.nd rfl (Or.inl rfl)) (fun _ _ _ _ _ => pts_nil) (fun _ _ _ _ _ => pe_op op_fdivW (pv 10) pe_int))
        (pss_cons (ps_for PassesOwn.never rfl (pi_range1 rfl mr (pa_cons (pe_op op_add (pv 1) (pv 2)) pa_nil)) (pg_name (i := 6) scDraws.nd rfl (.inl rfl))
          (pss_cons (ps_set (i := 7) scDraws.nd rfl (.inl rfl) (pe_op op_mod (pv 6) (pe_callB call_len_seq (by rfl) ml PySem.boot_len (pa_cons (pv 5) pa_nil))))
          (pss_cons (ps_if (pt_cmpR op_ge (pv 6) (pv 1) (nomark _))
            (pss_one (ps_expr (pe_bm PySem.F.plainAttrs_list PySem.F.slot_list_append PySem.F.type_list_append mt_append (pv 4) (pa_cons (pe_op op_mod (pe_ix ix_list (pv 5) (pv 7) (fun _ _ => rfl)) pe_int) pa_nil)))) pss_nil)
          (pss_one (ps_asg (pe_op op_fdivW (pe_ix ix_list (pv 5) (pv 7) (fun _ _ => rfl)) pe_int) (pg_sub (pv 5) (pv 7) set_list))))))
        (pss_one (ps_ret (pv 4))))) pss_nil)
      (pss_cons (ps_for PassesOwn.never rfl (pi_range1 rfl mr (pa_cons (pv 2) pa_nil)) (pg_name (i := 6) scDraws.nd rfl (.inl rfl))
        (pss_cons (ps_set (i := 8) scDraws.nd rfl (.inl rfl) (pe_op op_add (pe_op op_mul (pe_op op_mul (pe_op op_add (pv 6) (pv 1)) (pe_op op_add (pv 6) (pv 1))) pe_int) pe_int))
        (pss_cons (ps_set (i := 9) scDraws.nd rfl (.inl rfl) (pe_op op_mod (pe_op op_mul (pe_op op_add (pe_op op_mod (pe_ix ix_list (pv 3) (pe_op op_mod (pv 6) (pe_callB call_len_seq (by rfl) ml PySem.boot_len (pa_cons (pv 3) pa_nil))) (fun _ _ => rfl)) pe_int) (pv 8)) pe_int) pe_int))
        (pss_cons (ps_set (i := 9) scDraws.nd rfl (.inl rfl) (pe_op op_mod (pe_op op_add (pe_op op_mul (pv 9) (pv 9)) (pe_op op_mul pe_int (pv 6))) pe_int))
        (pss_one (ps_expr (pe_bm PySem.F.plainAttrs_list PySem.F.slot_list_append PySem.F.type_list_append mt_append (pv 4) (pa_cons (pe_op op_mod (pe_op op_mul (pv 9) (pv 9)) pe_int) pa_nil))))))))
      (pss_one (ps_ret (pv 4)))))), ?_⟩
    -- cells
    refine ⟨.ref a, rfl, 63, rfl, a, ns.map V.int, rfl, ha, fun c nc => ?_⟩
    rw [cut63]
    have s1 : Same H (upd H c (.lst ((ns.take 63).map V.int))) := same_upd nc
    refine ⟨.int t, rfl, (show 1 ≤ sizeLine by decide), fun u nu => ?_⟩
    have ncu : c ≠ u := fun e => by
      rw [← e, upd_same] at nu
      cases nu
    have hlen : (ns.take 63).length ≤ 63 := by
      rw [List.length_take]
      omega
    refine ⟨c, u, (ns.take 63).map V.int, [.int t], rfl, rfl, by rw [upd_ne ncu, upd_same], upd_same, by rw [List.length_map]; exact sz (by show (ns.take 63).length + 1 ≤ 16000000; omega), fun l nl => ?_⟩
    have s2 : Same H (upd (upd H c (.lst ((ns.take 63).map V.int))) u (.lst [.int t])) := s1.trans (same_upd nu)
    have s3 := s2.trans (same_upd (o := .lst ((ns.take 63).map V.int ++ [.int t])) nl)
    have ecells : (ns.take 63).map V.int ++ [V.int t] = (ns.take 63 ++ [(t : Int)]).map V.int := by rw [List.map_append]; rfl
    rw [ecells] at s3 ⊢
    have hcl : (ns.take 63 ++ [(t : Int)]).length ≤ 64 ∧ 0 < (ns.take 63 ++ [(t : Int)]).length := by
      rw [List.length_append]
      constructor
      · show _ + 1 ≤ 64
        omega
      · show 0 < _ + 1
        omega
    have hl : (upd (upd (upd H c (.lst ((ns.take 63).map V.int))) u (.lst [.int t])) l (.lst ((ns.take 63 ++ [(t : Int)]).map V.int))) l = some (.lst ((ns.take 63 ++ [(t : Int)]).map V.int)) := upd_same
    generalize (ns.take 63 ++ [(t : Int)]) = cs at s3 hcl hl ⊢
    generalize (upd (upd (upd H c (.lst ((ns.take 63).map V.int))) u (.lst [.int t])) l (.lst (cs.map V.int))) = H3 at s3 hl ⊢
    have nHl : H l = none := s2.free nl
    -- found
    refine ⟨Nat.zero_le _, fun o no => ?_⟩
    have nHo : H o = none := s3.free no
    have nlo : l ≠ o := ne_of_none hl no
    have s4 : Same H (upd H3 o (.lst [])) := s3.trans (same_upd no)
    have hl4 : (upd H3 o (.lst [])) l = some (.lst (cs.map V.int)) := by rw [upd_ne nlo]; exact hl
    have ho4 : (upd H3 o (.lst [])) o = some (.lst (([] : List Int).map V.int)) := upd_same
    generalize (upd H3 o (.lst [])) = H4 at s4 hl4 ho4 ⊢
    obtain ⟨c0, hc0⟩ := at_int (xs := cs) (k := 0) (Int.le_refl _) (by omega)
    refine ⟨.ref l, rfl, l, cs.map V.int, 0, .int c0, rfl, rfl, sq hl4, hc0, c0, 50000, rfl, rfl, wide_div (b := 17) (by decide) (by decide) (by decide) (by decide), _, 2, rfl, rfl, (show (0 : Int) < 2 by decide), rfl, _, rfl, ite2 (fun e => ?_) (fun e => ?_)⟩
    · -- left
      refine ⟨.ref l, rfl, l, rfl, ⟨_, sq hl4⟩, fun D nD => ?_⟩
      have nHD : H D = none := s4.free nD
      have nlD : l ≠ D := ne_of_none hl4 nD
      have noD : o ≠ D := ne_of_none ho4 nD
      refine walk_n cs.length (fun i H' => Same H H' ∧ H' l = some (.lst (cs.map V.int)) ∧ H' o = some (.lst (([] : List Int).map V.int)) ∧ H' D = some (.lst (((cs.take i).map (· / 100000)).map V.int)))
        ⟨same_over s4 nHD, by rw [upd_ne nlD]; exact hl4, by rw [upd_ne noD]; exact ho4, upd_same⟩ (fun i H' hi ⟨i1, i2, i3, i4⟩ => ⟨itl_go (sq i2) (by rw [List.length_map]; exact hi), fun x H'' y => ?_⟩) (fun H' ⟨i1, i2, i3, i4⟩ => ⟨itl_stop (sq i2) (by rw [List.length_map]), ?_⟩)
      · obtain ⟨rfl, ex⟩ := itl_yld (sq i2) y
        rw [List.getElem?_map, List.getElem?_eq_getElem hi] at ex
        cases ex
        refine ⟨rfl, yes (iteT ?_)⟩
        refine ⟨_, rfl, cs[i], 100000, rfl, rfl, wide_div (b := 17) (by decide) (by decide) (by decide) (by decide), _, i4, ?_, ?_⟩
        · rw [List.length_map, List.length_map, List.length_take]
          exact sz' (by omega)
        · refine ⟨same_over i1 nHD, by rw [upd_ne nlD]; exact i2, by rw [upd_ne noD]; exact i3, ?_⟩
          rw [upd_same, List.take_add_one, List.getElem?_eq_getElem hi, List.map_append, List.map_append]
          rfl
      · rw [List.take_length] at i4
        have hll : (cs.map (· / 100000)).length = cs.length := List.length_map ..
        generalize cs.map (· / 100000) = ls0 at i4 hll
        -- the loop
        refine ⟨.int t, rfl, .int m, rfl, t, m, rfl, rfl, (t : Int) + m, rfl, by omega, by omega, ?_⟩
        refine walk_f (t + m) (fun i σ H' => ∃ (ls ds : List Int) (y6 y7 : Option V), σ = [some (.ref a), some (.int t), some (.int m), some (.ref l), some (.ref o), some (.ref D), y6, y7, none, none, none] ∧ Same H H' ∧ H' D = some (.lst (ls.map V.int)) ∧ ls.length = cs.length ∧
            H' o = some (.lst (ds.map V.int)) ∧ ds.length = i - t ∧ Drawn ds) ⟨ls0, [], none, none, rfl, i1, i4, hll, i3, by rw [Nat.zero_sub]; rfl, drawn_nil⟩ (fun i σ H' hi hp => ?_) (fun σ H' hp => ?_)
        · obtain ⟨ls, ds, y6, y7, rfl, j1, j2, j3, j4, j5, j6⟩ := hp
          refine ⟨by show i < ((t : Int) + m).toNat; omega, fun x H'' y => ?_⟩
          obtain ⟨rfl, rfl⟩ := y
          refine ⟨.int (0 + (i : Int)), rfl, .ref D, rfl, D, _, rfl, .inl (sq j2), 0 + (i : Int), _, rfl, rfl, (by rw [List.length_map]; omega), ?_⟩
          have hlp : (0 : Int) < (ls.map V.int).length := by rw [List.length_map]; omega
          have hk0 : 0 ≤ (0 + (i : Int)) % ((ls.map V.int).length : Int) := Int.emod_nonneg _ (by omega)
          have hk1 : (0 + (i : Int)) % ((ls.map V.int).length : Int) < ls.length := by
            have := Int.emod_lt_of_pos (0 + (i : Int)) hlp
            rw [List.length_map] at this ⊢
            exact this
          obtain ⟨kk, ekk⟩ : ∃ kk, kk = (0 + (i : Int)) % ((ls.map V.int).length : Int) := ⟨_, rfl⟩
          rw [← ekk] at hk0 hk1
          obtain ⟨d, hd⟩ := at_int hk0 hk1
          have nDo : D ≠ o := fun z => noD z.symm
          have store : ∀ H5 : Hp, Same H H5 → H5 D = some (.lst (ls.map V.int)) → ∀ ds' : List Int, H5 o = some (.lst (ds'.map V.int)) → ds'.length = (i + 1) - t → Drawn ds' →
              (tAsg (tOp (rI CDivW fun i j => V.int (i / j)) (tOp (rIxL K) (tVar 5) (tVar 7)) (tC (.int 2147483587))) (gSub (tVar 5) (tVar 7) rSetL)) { nx := fun σ H' => ∃ (ls ds : List Int) (y6 y7 : Option V), σ = [some (.ref a), some (.int t), some (.int m), some (.ref l), some (.ref o), some (.ref D), y6, y7, none, none, none] ∧ Same H H' ∧ H' D = some (.lst (ls.map V.int)) ∧ ls.length = cs.length ∧ H' o = some (.lst (ds.map V.int)) ∧ ds.length = (i + 1) - t ∧ Drawn ds, rt := Q } [some (.ref a), some (.int t), some (.int m), some (.ref l), some (.ref o), some (.ref D), some (.int (0 + (i : Int))), some (.int kk), none, none, none] H5 := by
            intro H5 k1 k2 ds' k3 k4 k5
            refine ⟨.ref D, rfl, .int kk, rfl, D, _, kk, _, rfl, rfl, sq k2, hd, d, 2147483587, rfl, rfl, wide_div (b := 32) (by decide) (by decide) (by decide) (by decide), .ref D, rfl, .int kk, rfl, D, _, kk, kk.toNat, rfl, rfl, k2, ?_, ?_⟩
            · rw [List.length_map]
              exact ixN_at hk0 hk1
            · refine ⟨ls.set kk.toNat (d / 2147483587), ds', _, _, rfl, same_over k1 nHD, ?_, by rw [List.length_set]; exact j3, by rw [upd_ne noD]; exact k3, k4, k5⟩
              rw [upd_same, set_int]
          subst ekk
          refine ⟨.int (0 + (i : Int)), rfl, .int t, rfl, _, _, rfl, rfl, _, rfl, ite2 (fun z => ?_) (fun z => ?_)⟩
          · have z' : (t : Int) ≤ 0 + (i : Int) := of_decide_eq_true z
            refine ⟨.ref o, rfl, .inl ⟨rfl, _, sq j4⟩, .ref D, rfl, .int _, rfl, D, _, _, _, rfl, rfl, sq j2, hd, d, 2147483587, rfl, rfl, (show (0 : Int) < 2147483587 by decide), o, _, _, rfl, rfl, j4, ?_, ?_⟩
            · rw [List.length_map]
              exact sz' (by omega)
            · refine store _ (same_over j1 nHo) (by rw [upd_ne nDo]; exact j2) (ds ++ [d % 2147483587]) ?_ ?_ ?_
              · rw [upd_same, List.map_append]
                rfl
              · rw [List.length_append]
                show ds.length + 1 = _
                omega
              · have h1 := Int.emod_nonneg d (show (2147483587 : Int) ≠ 0 by decide)
                have h2 := Int.emod_lt_of_pos d (show (0 : Int) < 2147483587 by decide)
                exact drawn_snoc j6 h1 (by omega)
          · have z' : ¬ (t : Int) ≤ 0 + (i : Int) := fun y => z (decide_eq_true y)
            exact store _ j1 j2 ds j4 (by omega) j6
        · obtain ⟨ls, ds, y6, y7, rfl, j1, j2, j3, j4, j5, j6⟩ := hp
          refine ⟨by show ((t : Int) + m).toNat ≤ t + m; omega, .ref o, rfl, q _ o ds j1 nHo (by omega) j6 j4⟩
    · -- the second way
      refine ⟨.int m, rfl, (m : Int), rfl, by omega, by omega, ?_⟩
      refine walk_f m (fun i σ H' => ∃ (ds : List Int) (y6 y8 y9 : Option V), σ = [some (.ref a), some (.int t), some (.int m), some (.ref l), some (.ref o), none, y6, none, y8, y9, none] ∧ Same H H' ∧ H' l = some (.lst (cs.map V.int)) ∧
            H' o = some (.lst (ds.map V.int)) ∧ ds.length = i ∧ Drawn ds) ⟨[], none, none, none, rfl, s4, hl4, ho4, rfl, drawn_nil⟩ (fun i σ H' hi hp => ?_) (fun σ H' hp => ?_)
      · obtain ⟨ds, y6, y8, y9, rfl, j1, j2, j3, j4, j5⟩ := hp
        refine ⟨by show i < (m : Int).toNat; omega, fun x H'' y => ?_⟩
        obtain ⟨rfl, rfl⟩ := y
        have hi2 : (0 + (i : Int)) = (i : Int) := by omega
        rw [hi2]
        have hsum : (0 : Int) ≤ (i : Int) + t ∧ (i : Int) + t ≤ 2000 := by omega
        -- place
        refine ⟨.int i, rfl, .int t, rfl, _, _, rfl, rfl, .int i, rfl, .int t, rfl, _, _, rfl, rfl, (i : Int) + t, (i : Int) + t, rfl, rfl, .inl ⟨by omega, by omega⟩, _, 7919, rfl, rfl, .inr ⟨by decide, by decide⟩, _, 104729, rfl, rfl, ?_⟩
        have hpl : (0 : Int) ≤ ((i : Int) + t) * ((i : Int) + t) * 7919 + 104729 := by
          have := Int.mul_nonneg hsum.1 hsum.1
          omega
        dsimp only
        generalize ((i : Int) + t) * ((i : Int) + t) * 7919 + 104729 = pl at hpl ⊢
        have hcp : (0 : Int) < (cs.map V.int).length := by rw [List.length_map]; omega
        have hk0 : 0 ≤ (i : Int) % ((cs.map V.int).length : Int) := Int.emod_nonneg _ (by omega)
        have hk1 : (i : Int) % ((cs.map V.int).length : Int) < cs.length := by
          have := Int.emod_lt_of_pos (i : Int) hcp
          rw [List.length_map] at this ⊢
          exact this
        obtain ⟨d, hd⟩ := at_int hk0 hk1
        refine ⟨.ref l, rfl, .int i, rfl, .ref l, rfl, l, _, rfl, .inl (sq j2), _, _, rfl, rfl, hcp, l, _, _, _, rfl, rfl, sq j2, hd, d, 2147483647, rfl, rfl, (show (0 : Int) < 2147483647 by decide), .int pl, rfl, _, pl, rfl, rfl, _, 48271, rfl, rfl, .inr ⟨by decide, by decide⟩, _, 2147483647, rfl, rfl, (show (0 : Int) < 2147483647 by decide), ?_⟩
        have hn0 := Int.emod_nonneg ((d % 2147483647 + pl) * 48271) (show (2147483647 : Int) ≠ 0 by decide)
        have hn1 := Int.emod_lt_of_pos ((d % 2147483647 + pl) * 48271) (show (0 : Int) < 2147483647 by decide)
        dsimp only
        generalize (d % 2147483647 + pl) * 48271 % 2147483647 = nu at hn0 hn1 ⊢
        refine ⟨.int nu, rfl, .int nu, rfl, nu, nu, rfl, rfl, .inl ⟨by omega, by omega⟩, .int i, rfl, 69621, i, rfl, rfl, .inl ⟨by decide, by decide⟩, _, _, rfl, rfl, _, 2147483629, rfl, rfl, (show (0 : Int) < 2147483629 by decide), ?_⟩
        have hm0 := Int.emod_nonneg (nu * nu + 69621 * (i : Int)) (show (2147483629 : Int) ≠ 0 by decide)
        have hm1 := Int.emod_lt_of_pos (nu * nu + 69621 * (i : Int)) (show (0 : Int) < 2147483629 by decide)
        dsimp only
        generalize (nu * nu + 69621 * (i : Int)) % 2147483629 = mu at hm0 hm1 ⊢
        refine ⟨.ref o, rfl, .inl ⟨rfl, _, sq j3⟩, .int mu, rfl, .int mu, rfl, mu, mu, rfl, rfl, .inl ⟨by omega, by omega⟩, _, 2147483587, rfl, rfl, (show (0 : Int) < 2147483587 by decide), o, _, _, rfl, rfl, j3, ?_, ?_⟩
        · rw [List.length_map]
          exact sz' (by omega)
        · have hx0 := Int.emod_nonneg (mu * mu) (show (2147483587 : Int) ≠ 0 by decide)
          have hx1 := Int.emod_lt_of_pos (mu * mu) (show (0 : Int) < 2147483587 by decide)
          refine ⟨ds ++ [mu * mu % 2147483587], _, _, _, rfl, same_over j1 nHo, by rw [upd_ne nlo]; exact j2, ?_, ?_, drawn_snoc j5 hx0 (by omega)⟩
          · rw [upd_same, List.map_append]
            rfl
          · rw [List.length_append, j4]
            rfl
      · obtain ⟨ds, y6, y8, y9, rfl, j1, j2, j3, j4, j5⟩ := hp
        refine ⟨by show (m : Int).toNat ≤ m; omega, .ref o, rfl, q _ o ds j1 nHo j4 j5 j3⟩
end
end Wa
namespace Wa
open PySem PySem.Spec PyProof.Rows L2
/-! the law's own numbers and papers -/
theorem join3 {α β : Type} {goal : Prop} {C P : α → β → Hp → Prop} (main : (∀ x y Hx, P x y Hx → C x y Hx) → goal) (rest : ∀ x y Hx, P x y Hx → C x y Hx) : goal := main rest
def Num60 (n : Int) : Prop := 0 ≤ n ∧ n < 10 ^ 60
abbrev nLNumber : List Str := ["_law_draws_here", "_law_number_here"]
theorem scLNumber : FnScope nLNumber ["_law_draws_here"] (defScope sLNumber) := ⟨rfl, rfl, rfl, by decide +kernel, rfl, by decide +kernel, by decide +kernel⟩
def spLNum : Sp := fun vs H Q _ => ∃ (a : Addr) (ds : List Int), vs = [.ref a] ∧ H a = some (.lst (ds.map V.int)) ∧ Drawn ds ∧ ∀ H' n ds', Num60 n → Drawn ds' → H' a = some (.lst (ds'.map V.int)) → OG a H H' → Q (.int n) H'
section
variable {P : Program} {w : World} {K : PySem.W.Frag} {mg : Str → Option Value} {base : Heap}
theorem ok_LNumber {fLNumber  fPop : Addr} {fdLNumber fdPop : FuncData} {k : Nat} (dLNumber : Df K mg "_law_number" sLNumber ["_law_draws_here"] fLNumber fdLNumber)
    (dPop : Df K mg "_law_pop" sPop ["_law_draws_here"] fPop fdPop) (gPop : FnOk P w K mg base CX0 k fPop fdPop ["_law_draws_here"] (spPop))
      :
    FnOk P w K mg base CX0 (k + 1) fLNumber fdLNumber ["_law_draws_here"] (spLNum) := by
  refine dLNumber.F.ok scLNumber (fun vs H Q E h => ?_) (fun cdv A outer s H vs Q E hr h => ?_)
  · obtain ⟨a, ds, rfl, _⟩ := h
    rfl
  · obtain ⟨a, ds, rfl, ha, hd, ret⟩ := h
    refine ⟨_, pss_cons (ps_set (i := 1) scLNumber.nd rfl (.inl rfl) (pe_call gPop hr (by rfl) dPop.g dPop.F.kp dPop.b .nil pass0 (pa_cons (pv 0) pa_nil)))
      (pss_one (ps_ret (pe_ix ix_list (pe_lst (pa_cons (pe_op op_mod (pv 1) (pe_int)) (pa_cons (pe_op op_mod (pv 1) (pe_int)) (pa_cons (pv 1) (pa_cons (pe_op op_add (pe_op op_mul (pv 1) (pe_op op_pow (pe_int) (pe_int))) (pv 1)) (pa_cons (pe_int) pa_nil)))))) (pe_op op_mod (pe_op op_fdiv (pv 1) (pe_int)) (pe_int)) (fun _ _ => rfl)))), ?_⟩
    refine ⟨_, rfl, a, ds, rfl, ha, fun H1 a1 k1 => ?_⟩
    have og1 : OG a H H1 := OG.pop k1 ⟨_, a1⟩
    obtain ⟨x0, x1⟩ := hd.pop
    have hd1 := hd.rest
    generalize popV ds = x at x0 x1
    have hz : (0 : Int) ≤ x * 10 ^ 50 + x ∧ x * 10 ^ 50 + x < 10 ^ 60 := by
      have : (10 : Int) ^ 50 = 100000000000000000000000000000000000000000000000000 := by decide
      have : (10 : Int) ^ 60 = 1000000000000000000000000000000000000000000000000000000000000 := by decide
      omega
    have h60 : (2147483648 : Int) < 10 ^ 60 := by decide
    refine ⟨_, rfl, x, 10, rfl, rfl, (show (0 : Int) < 10 by decide), _, rfl, x, 1000, rfl, rfl, (show (0 : Int) < 1000 by decide), _, rfl, _, rfl, 10, 50, rfl, rfl, ⟨by decide, by decide, by decide⟩, _, _, rfl, rfl, .inl ⟨by omega, by omega⟩, _, rfl, _, _, rfl, rfl, (show 5 ≤ sizeLine by decide), fun p np => ?_⟩
    generalize hU2 : upd _ _ _ = H2
    have g2 : Gr H1 H2 := by rw [← hU2]; exact (Gr.refl _).new np
    have og2 : OG a H H2 := og1.trans (OG.gr g2)
    have a2 := g2.lst a1
    obtain ⟨n, hn, en⟩ : ∃ n : Int, Num60 n ∧ atI [V.int (x % 10), .int (x % 1000), .int x, .int (x * 10 ^ 50 + x), .int 0] (x / 1000 % 5) = some (.int n) := by
      have h5 : x / 1000 % 5 = 0 ∨ x / 1000 % 5 = 1 ∨ x / 1000 % 5 = 2 ∨ x / 1000 % 5 = 3 ∨ x / 1000 % 5 = 4 := by omega
      rcases h5 with e | e | e | e | e <;> rw [e]
      · exact ⟨_, ⟨by omega, by omega⟩, rfl⟩
      · exact ⟨_, ⟨by omega, by omega⟩, rfl⟩
      · exact ⟨_, ⟨by omega, by omega⟩, rfl⟩
      · exact ⟨_, hz, rfl⟩
      · exact ⟨0, ⟨by decide, by decide⟩, rfl⟩
    refine ⟨_, rfl, x, 1000, rfl, rfl, ⟨by decide, by decide⟩, x / 1000, 5, rfl, rfl, (show (0 : Int) < 5 by decide), p, _, _, _, rfl, rfl, sq (at_same hU2), en, ?_⟩
    exact ret H2 n _ hn hd1 a2 og2
end
abbrev nLPaper : List Str := ["_law_draws_here", "_law_number_here", "_law_found", "_law_many", "_law_k"]
theorem scLPaper : FnScope nLPaper ["_law_draws_here"] (defScope sLPaper) := ⟨rfl, rfl, rfl, by decide +kernel, rfl, by decide +kernel, by decide +kernel⟩
def spLPap : Sp := fun vs H Q _ => ∃ (a : Addr) (ds : List Int), vs = [.ref a] ∧ H a = some (.lst (ds.map V.int)) ∧ Drawn ds ∧ ∀ H' v l p ds', PapAt H' l v p → PapOk p → depth p ≤ 11 → (∀ t rs, core p = .waves t rs → rs.length ≤ 100) → l ≠ a → H l = none → Drawn ds' → H' a = some (.lst (ds'.map V.int)) → OG a H H' → Q v H'
section
variable {P : Program} {w : World} {K : PySem.W.Frag} {mg : Str → Option Value} {base : Heap}
theorem ok_LPaper {fLPaper  fPop  fLNumber : Addr} {fdLPaper fdPop fdLNumber : FuncData} {k : Nat} (dLPaper : Df K mg "_law_paper" sLPaper ["_law_draws_here"] fLPaper fdLPaper)
    (dPop : Df K mg "_law_pop" sPop ["_law_draws_here"] fPop fdPop) (gPop : FnOk P w K mg base CX0 k fPop fdPop ["_law_draws_here"] (spPop))
    (dLNumber : Df K mg "_law_number" sLNumber ["_law_draws_here"] fLNumber fdLNumber) (gLNumber : FnOk P w K mg base CX0 k fLNumber fdLNumber ["_law_draws_here"] (spLNum))
     (mr : mg "range" = none) (mint : mg "int" = none) :
    FnOk P w K mg base CX0 (k + 1) fLPaper fdLPaper ["_law_draws_here"] (spLPap) := by
  refine dLPaper.F.ok scLPaper (fun vs H Q E h => ?_) (fun cdv A outer s H vs Q E hr h => ?_)
  · obtain ⟨a, ds, rfl, _⟩ := h
    rfl
  · obtain ⟨a, ds, rfl, ha, hd, ret⟩ := h
    refine ⟨_, pss_cons (ps_set (i := 1) scLPaper.nd rfl (.inl rfl) (pe_call gPop hr (by rfl) dPop.g dPop.F.kp dPop.b .nil pass0 (pa_cons (pv 0) pa_nil)))
      (pss_cons (ps_set (i := 2) scLPaper.nd rfl (.inl rfl) (pe_ix ix_list (pe_op op_cat (pe_lst (pa_cons (pe_tup (pa_cons (pe_str) pa_nil)) (pa_cons (pe_tup (pa_cons (pe_str) pa_nil)) (pa_cons (pe_tup (pa_cons (pe_str) pa_nil)) pa_nil)))) (pe_op op_rep (pe_lst (pa_cons (pe_non) pa_nil)) (pe_int))) (pe_op op_mod (pv 1) (pe_int)) (fun _ _ => rfl)))
      (pss_cons (ps_if (pt_cmpR op_isN (pv 2) (pe_non) (nomark _)) (pss_cons (ps_set (i := 3) scLPaper.nd rfl (.inl rfl) (pe_ix ix_list (pe_lst (pa_cons (pe_op op_mod (pe_op op_fdiv (pv 1) (pe_int)) (pe_int)) (pa_cons (pe_op op_mod (pe_op op_fdiv (pv 1) (pe_int)) (pe_int)) pa_nil))) (pe_callTy call_int1 (by rfl) mint (by decide +kernel) (pa_cons (pe_cmpR op_eq (pe_op op_mod (pe_op op_fdiv (pv 1) (pe_int)) (pe_int)) (pe_int) (nomark _)) pa_nil)) (fun _ _ => rfl)))
        (pss_one (ps_set (i := 2) scLPaper.nd rfl (.inl rfl) (pe_tup (pa_cons (pe_str) (pa_cons (pe_call gLNumber hr (by rfl) dLNumber.g dLNumber.F.kp dLNumber.b .nil pass0 (pa_cons (pv 0) pa_nil)) (pa_cons (pe_lc (own := [("_law_k", 4)]) (g := gName 4) (tt := tYes) (te := tCall (spLNum) [] _ (tCons (tVar 0) (tNil))) rfl scLPaper.nd (pi_range1 rfl mr (pa_cons (pv 3) pa_nil)) (blkOk_by (own := [("_law_k", 4)]) (N := nLPaper) (sc := defScope sLPaper) (by decide +kernel)) (fun _ _ _ _ _ => pg_name (i := 4) scLPaper.nd rfl (.inl rfl)) (fun _ _ _ _ _ => pts_nil) (fun _ _ _ _ _ => pe_call gLNumber hr (by rfl) dLNumber.g dLNumber.F.kp dLNumber.b .nil pass0 (pa_cons (pv 0) pa_nil))) pa_nil))))))) pss_nil)
      (pss_cons (ps_for PassesOwn.never rfl (pi_range1 rfl mr (pa_cons (pe_ix ix_list (pe_lst (pa_cons (pe_int) (pa_cons (pe_int) (pa_cons (pe_int) (pa_cons (pe_int) (pa_cons (pe_int) (pa_cons (pe_int) pa_nil))))))) (pe_op op_mod (pe_op op_fdiv (pv 1) (pe_int)) (pe_int)) (fun _ _ => rfl)) pa_nil)) (pg_name (i := 4) scLPaper.nd rfl (.inl rfl))
        (pss_one (ps_set (i := 2) scLPaper.nd rfl (.inl rfl) (pe_tup (pa_cons (pe_ix ix_list (pe_lst (pa_cons (pe_str) (pa_cons (pe_str) (pa_cons (pe_str) (pa_cons (pe_str) pa_nil))))) (pe_op op_mod (pe_call gPop hr (by rfl) dPop.g dPop.F.kp dPop.b .nil pass0 (pa_cons (pv 0) pa_nil)) (pe_int)) (fun _ _ => rfl)) (pa_cons (pv 2) pa_nil))))))
      (pss_one (ps_ret (pv 2)))))), ?_⟩
    refine ⟨_, rfl, a, ds, rfl, ha, fun H1 a1 k1 => ?_⟩
    have og1 : OG a H H1 := OG.pop k1 ⟨_, a1⟩
    obtain ⟨x0, x1⟩ := hd.pop
    have hd1 := hd.rest
    generalize popV ds = x at x0 x1
    refine ⟨(show 1 ≤ sizeLine by decide), fun t1 nt1 => ?_⟩
    generalize hU2 : upd _ _ _ = H2
    have g2 : Gr H1 H2 := by rw [← hU2]; exact (Gr.refl _).new nt1
    refine ⟨(show 1 ≤ sizeLine by decide), fun t2 nt2 => ?_⟩
    generalize hU3 : upd _ _ _ = H3
    have g3 : Gr H2 H3 := by rw [← hU3]; exact (Gr.refl _).new nt2
    refine ⟨(show 1 ≤ sizeLine by decide), fun t3 nt3 => ?_⟩
    generalize hU4 : upd _ _ _ = H4
    have g4 : Gr H3 H4 := by rw [← hU4]; exact (Gr.refl _).new nt3
    refine ⟨(show 3 ≤ sizeLine by decide), fun l1 nl1 => ?_⟩
    generalize hU5 : upd _ _ _ = H5
    have g5 : Gr H4 H5 := by rw [← hU5]; exact (Gr.refl _).new nl1
    refine ⟨(show 1 ≤ sizeLine by decide), fun l2 nl2 => ?_⟩
    generalize hU6 : upd _ _ _ = H6
    have g6 : Gr H5 H6 := by rw [← hU6]; exact (Gr.refl _).new nl2
    refine ⟨l2, 5, _, rfl, rfl, at_same hU6, by decide, by decide, by decide, fun l3 nl3 => ?_⟩
    generalize hU7 : upd _ _ _ = H7
    have g7 : Gr H6 H7 := by rw [← hU7]; exact (Gr.refl _).new nl3
    refine ⟨l1, l3, _, _, rfl, rfl, (g6.trans g7).lst (at_same hU5), at_same hU7, (show 3 + 5 ≤ sizeLine by decide), fun l4 nl4 => ?_⟩
    generalize hU8 : upd _ _ _ = H8
    have g8 : Gr H7 H8 := by rw [← hU8]; exact (Gr.refl _).new nl4
    have g48 := g5.trans (g6.trans (g7.trans g8))
    have g38 := g4.trans g48
    have g28 := g3.trans g38
    have g18 := g2.trans g28
    have e1 : H8 t1 = some (.tup [.str "one"]) := g28.tup (at_same hU2)
    have e2 : H8 t2 = some (.tup [.str "all"]) := g38.tup (at_same hU3)
    have e3 : H8 t3 = some (.tup [.str "balls"]) := g48.tup (at_same hU4)
    have og8 : OG a H H8 := og1.trans (OG.gr g18)
    have a8 := g18.lst a1
    have na4 : l4 ≠ a := fun z => by rw [z, (g2.trans (g3.trans (g4.trans (g5.trans (g6.trans g7))))).lst a1] at nl4; cases nl4
    have nH4 : H l4 = none := og1.free ((g2.trans (g3.trans (g4.trans (g5.trans (g6.trans g7))))).free nl4)
    have m8 : x % 8 = 0 ∨ x % 8 = 1 ∨ x % 8 = 2 ∨ 3 ≤ x % 8 := by omega
    have hat : ∃ v, atI ([V.ref t1, .ref t2, .ref t3] ++ [V.non, .non, .non, .non, .non]) (x % 8) = some v ∧ (v = .non ∨ ∃ p, chain p = [] ∧ PapOk p ∧ (∀ t rs, p ≠ .waves t rs) ∧ PapAt H8 l4 v p) := by
      have h8 : x % 8 = 0 ∨ x % 8 = 1 ∨ x % 8 = 2 ∨ x % 8 = 3 ∨ x % 8 = 4 ∨ x % 8 = 5 ∨ x % 8 = 6 ∨ x % 8 = 7 := by omega
      rcases h8 with e | e | e | e | e | e | e | e <;> rw [e]
      · exact ⟨_, rfl, .inr ⟨.one, rfl, trivial, fun _ _ z => (by cases z), t1, rfl, e1⟩⟩
      · exact ⟨_, rfl, .inr ⟨.all, rfl, trivial, fun _ _ z => (by cases z), t2, rfl, e2⟩⟩
      · exact ⟨_, rfl, .inr ⟨.balls, rfl, trivial, fun _ _ z => (by cases z), t3, rfl, e3⟩⟩
      · exact ⟨_, rfl, .inl rfl⟩
      · exact ⟨_, rfl, .inl rfl⟩
      · exact ⟨_, rfl, .inl rfl⟩
      · exact ⟨_, rfl, .inl rfl⟩
      · exact ⟨_, rfl, .inl rfl⟩
    obtain ⟨v, ev, hv⟩ := hat
    refine ⟨_, rfl, x, 8, rfl, rfl, (show (0 : Int) < 8 by decide), l4, _, _, _, rfl, rfl, sq (at_same hU8), ev, ?_⟩
    clear ev e1 e2 e3 hU2 hU3 hU4 hU5 hU6 hU7 hU8 m8
    refine' join2 (α := L2.St) (P := fun σ Hx => ∃ (v : V) (y3 : Option V) (p : Pap) (l : Addr) (ds' : List Int), σ = [some (.ref a), some (.int x), some v, y3, none] ∧ chain p = [] ∧ PapOk p ∧ (∀ t rs, p = .waves t rs → rs.length ≤ 100) ∧ PapAt Hx l v p ∧ l ≠ a ∧ H l = none ∧ Drawn ds' ∧ Hx a = some (.lst (ds'.map V.int)) ∧ OG a H Hx) (fun rest => ?jm) ?jr
    case jm =>
      refine ⟨_, rfl, rfl, _, rfl, ?_⟩
      rcases hv.symm with ⟨p, hc, hok, hnw, hp⟩ | hv0
      · obtain ⟨b, hb⟩ := hp.ref
        refine iteFB (decide_eq_false (by rw [hb]; simp)) ?_
        generalize hs : List.set _ 2 (some v) = σ'
        refine rest σ' H8 ⟨v, none, p, l4, _, hs.symm, hc, hok, fun t rs e => absurd e (hnw t rs), hp, na4, nH4, hd1, a8, og8⟩
      · refine iteTB (decide_eq_true hv0) ?_
        refine ⟨_, rfl, x, 8, rfl, rfl, ⟨by decide, by decide⟩, x / 8, 7, rfl, rfl, (show (0 : Int) < 7 by decide), _, rfl, x, 8, rfl, rfl, ⟨by decide, by decide⟩, x / 8, 21, rfl, rfl, (show (0 : Int) < 21 by decide), (show 2 ≤ sizeLine by decide), fun b nb => ?_⟩
        generalize hU9 : upd _ _ _ = H9
        have g9 : Gr H8 H9 := by rw [← hU9]; exact (Gr.refl _).new nb
        have og9 := og8.trans (OG.gr g9)
        have a9 := g9.lst a8
        obtain ⟨m, hm, em⟩ : ∃ m : Nat, m ≤ 20 ∧ ∀ k : Bool, True ∧ ∃ m : Nat, m ≤ 20 ∧ atI [V.int (x / 8 % 7), V.int (x / 8 % 21)] (if k = true then 1 else 0) = some (.int (m : Int)) := ⟨0, by decide, fun k => ⟨trivial, by
          cases k
          · exact ⟨(x / 8 % 7).toNat, by omega, by show some (V.int (x / 8 % 7)) = _; congr 2; omega⟩
          · exact ⟨(x / 8 % 21).toNat, by omega, by show some (V.int (x / 8 % 21)) = _; congr 2; omega⟩⟩⟩
        obtain ⟨_, m, hm, em⟩ := em (decide (V.int (x / 512 % 4) = V.int 1))
        refine ⟨_, rfl, x, 512, rfl, rfl, ⟨by decide, by decide⟩, x / 512, 4, rfl, rfl, (show (0 : Int) < 4 by decide), rfl, .inr ⟨_, rfl, b, _, _, _, rfl, rfl, sq (at_same hU9), em, ?_⟩⟩
        refine ⟨_, rfl, a, _, rfl, a9, hd1, fun H10 t ds10 ht hd10 a10 og10 => ?_⟩
        refine ⟨_, rfl, (m : Int), rfl, by omega, by omega, fun D nD => ?_⟩
        have naD : a ≠ D := ne_of_none a10 nD
        have nHD : H D = none := og9.free (og10.free nD)
        refine walk_n m (fun i Hx => ∃ (rs ds' : List Int), Hx D = some (.lst (rs.map V.int)) ∧ rs.length = i ∧ (∀ r ∈ rs, Num60 r) ∧ Drawn ds' ∧ Hx a = some (.lst (ds'.map V.int)) ∧ OG a H Hx)
          ⟨[], ds10, upd_same, rfl, fun r hr2 => absurd hr2 (by simp), hd10, by rw [upd_ne naD]; exact a10, (og9.trans og10).over nHD⟩ (fun i Hx hi hp => ?_) (fun Hx hp => ?_)
        · obtain ⟨rs, ds', i1, i2, i3, i4, i5, i6⟩ := hp
          refine ⟨by show i < (m : Int).toNat; omega, fun x H'' y => ?_⟩
          obtain ⟨rfl, rfl⟩ := y
          refine ⟨rfl, yes (iteT ⟨_, rfl, a, _, rfl, i5, i4, fun H12 r ds12 hr2 hd12 a12 og12 => ?_⟩)⟩
          have eD12 : H12 D = some (.lst (rs.map V.int)) := at_og og12 naD.symm i1
          refine ⟨_, eD12, by rw [List.length_map]; exact sz' (by omega), rs ++ [r], ds12, by rw [upd_same, List.map_append]; rfl, by rw [List.length_append, i2]; rfl, fun u hu => ?_, hd12, by rw [upd_ne naD]; exact a12, (i6.trans og12).over nHD⟩
          rcases List.mem_append.mp hu with z | z
          · exact i3 u z
          · rw [List.mem_singleton.mp z]; exact hr2
        · obtain ⟨rs, ds', i1, i2, i3, i4, i5, i6⟩ := hp
          refine ⟨by show (m : Int).toNat ≤ m; omega, (show 3 ≤ sizeLine by decide), fun T nT => ?_⟩
          generalize hU13 : upd _ _ _ = H13
          have g13 : Gr Hx H13 := by rw [← hU13]; exact (Gr.refl _).new nT
          exact rest _ H13 ⟨.ref T, some (.int (m : Int)), .waves t rs, D, ds', rfl, rfl, ⟨ht, i3⟩, fun t' rs' e => by cases e; omega, ⟨T, rfl, at_same hU13, g13.lst i1⟩, naD.symm, nHD, i4, g13.lst i5, i6.trans (OG.gr g13)⟩
    case jr =>
      rintro _ Hx ⟨v, y3, p, l, ds', rfl, hc, hok, hrl, hp, nl, nHl, hd', ea, og⟩
      refine ⟨(show 6 ≤ sizeLine by decide), fun b nb => ?_⟩
      generalize hU9 : upd _ _ _ = H9
      have g9 : Gr Hx H9 := by rw [← hU9]; exact (Gr.refl _).new nb
      obtain ⟨m, hm, em⟩ : ∃ m : Nat, m ≤ 11 ∧ atI [V.int 0, .int 1, .int 2, .int 3, .int 5, .int 11] (x / 64 % 6) = some (.int (m : Int)) := by
        have h6 : x / 64 % 6 = 0 ∨ x / 64 % 6 = 1 ∨ x / 64 % 6 = 2 ∨ x / 64 % 6 = 3 ∨ x / 64 % 6 = 4 ∨ x / 64 % 6 = 5 := by omega
        rcases h6 with e | e | e | e | e | e <;> rw [e]
        · exact ⟨0, by decide, rfl⟩
        · exact ⟨1, by decide, rfl⟩
        · exact ⟨2, by decide, rfl⟩
        · exact ⟨3, by decide, rfl⟩
        · exact ⟨5, by decide, rfl⟩
        · exact ⟨11, by decide, rfl⟩
      refine ⟨_, rfl, x, 64, rfl, rfl, ⟨by decide, by decide⟩, x / 64, 6, rfl, rfl, (show (0 : Int) < 6 by decide), b, _, _, _, rfl, rfl, sq (at_same hU9), em, (m : Int), rfl, by omega, by omega, ?_⟩
      refine walk_f m (fun i σ H' => ∃ (v' : V) (y4 : Option V) (p' : Pap) (ds' : List Int), σ = [some (.ref a), some (.int x), some v', y3, y4] ∧ PapAt H' l v' p' ∧ PapOk p' ∧ depth p' = i ∧ core p' = p ∧ Drawn ds' ∧ H' a = some (.lst (ds'.map V.int)) ∧ OG a H H')
        ⟨v, none, p, ds', rfl, hp.gr g9, hok, by unfold depth; rw [hc]; rfl, core_id hc, hd', g9.lst ea, og.trans (OG.gr g9)⟩ (fun i σ H' hi hp => ?_) (fun σ H' hp => ?_)
      · obtain ⟨v', y4, p', ds', rfl, i1, i2, i3, i4, i5, i6, i7⟩ := hp
        refine ⟨by show i < (m : Int).toNat; omega, fun z H'' y => ?_⟩
        obtain ⟨rfl, rfl⟩ := y
        refine ⟨(show 4 ≤ sizeLine by decide), fun b2 nb2 => ?_⟩
        generalize hU10 : upd _ _ _ = H10
        have g10 : Gr H'' H10 := by rw [← hU10]; exact (Gr.refl _).new nb2
        have nb2a : b2 ≠ a := fun z => by rw [z, i6] at nb2; cases nb2
        refine ⟨_, rfl, a, _, rfl, g10.lst i6, fun H11 a11 k11 => ?_⟩
        generalize popV ds' = u
        have hl11 : ∀ xs, H10 l = some (.lst xs) → H11 l = some (.lst xs) := fun xs e => k11 l nl _ e
        have ht11 : ∀ c xs, H10 c = some (.tup xs) → H11 c = some (.tup xs) := fun c xs e => k11 c (fun z => by rw [z, g10.lst i6] at e; cases e) _ e
        obtain ⟨k, ek⟩ : ∃ k : Mk, atI [V.str "nearer", .str "cut", .str "shorter", .str "longer"] (u % 4) = some (.str k.s) := by
          have h4 : u % 4 = 0 ∨ u % 4 = 1 ∨ u % 4 = 2 ∨ u % 4 = 3 := by omega
          rcases h4 with e | e | e | e <;> rw [e]
          · exact ⟨.nearer, rfl⟩
          · exact ⟨.cut, rfl⟩
          · exact ⟨.shorter, rfl⟩
          · exact ⟨.longer, rfl⟩
        refine ⟨u, 4, rfl, rfl, (show (0 : Int) < 4 by decide), b2, _, _, _, rfl, rfl, sq (k11 b2 nb2a _ (at_same hU10)), ek, _, rfl, (show 2 ≤ sizeLine by decide), fun T nT => ?_⟩
        generalize hU12 : upd _ _ _ = H12
        have g12 : Gr H11 H12 := by rw [← hU12]; exact (Gr.refl _).new nT
        have og11 : OG a H10 H11 := OG.pop k11 ⟨_, a11⟩
        refine ⟨.ref T, _, .led k p', _, rfl, ⟨T, v', rfl, at_same hU12, ((i1.gr g10).mono ht11 hl11).gr g12⟩, i2, by unfold depth at i3 ⊢; show (chain p').length + 1 = _; omega, i4, i5.rest, g12.lst a11, i7.trans ((OG.gr g10).trans (og11.trans (OG.gr g12)))⟩
      · obtain ⟨v', y4, p', ds', rfl, i1, i2, i3, i4, i5, i6, i7⟩ := hp
        refine ⟨by show (m : Int).toNat ≤ m; omega, ?_⟩
        exact ⟨_, rfl, ret H' v' l p' ds' i1 i2 (by omega) (fun t rs e => hrl t rs (by rw [← i4]; exact e)) nl nHl i5 i6 i7⟩
end
end Wa
namespace Wa
open PySem PySem.Spec PyProof.Rows L2
/-- papers within bounds -/
def PapBd (p : Pap) : Prop := PapOk p ∧ depth p ≤ 1000 ∧ ∀ t rs, core p = .waves t rs → rs.length ≤ 1000
end Wa
namespace Wa
open PySem PySem.Spec PyProof.Rows L2
/-! papers written and compared by the law -/
def preS : List Mk → Str
  | [] => ""
  | k :: r => k.s ++ ofS ++ preS r
theorem preS_snoc : ∀ (ks : List Mk) (k : Mk), preS (ks ++ [k]) = preS ks ++ k.s ++ ofS
  | [], k => by
    apply str_ext
    show (k.s ++ ofS ++ ("" : Str)).cps.toList = (("" : Str) ++ k.s ++ ofS).cps.toList
    rw [str_app, str_app, str_app, str_app]
    have e : ("" : Str).cps.toList = [] := by decide +kernel
    rw [e, List.append_nil, List.nil_append]
  | j :: r, k => by
    show j.s ++ ofS ++ preS (r ++ [k]) = j.s ++ ofS ++ preS r ++ k.s ++ ofS
    rw [preS_snoc r k]
    apply str_ext
    simp only [str_app, List.append_assoc]
theorem join_pre : ∀ (ks : List Mk) (x : Str), Str.join ofS (ks.map Mk.s ++ [x]) = preS ks ++ x
  | [], x => by
    apply str_ext
    show x.cps.toList = (("" : Str) ++ x).cps.toList
    rw [str_app]
    have e : ("" : Str).cps.toList = [] := by decide +kernel
    rw [e, List.nil_append]
  | k :: r, x => by
    have e : Str.join ofS ((k :: r).map Mk.s ++ [x]) = k.s ++ ofS ++ Str.join ofS (r.map Mk.s ++ [x]) := by
      cases r with
      | nil => rfl
      | cons a b => rfl
    rw [e, join_pre r x]
    show _ = k.s ++ ofS ++ preS r ++ x
    apply str_ext
    simp only [str_app, List.append_assoc]
theorem shP_pre (p : Pap) : shP p = preS (chain p) ++ shIn (core p) := by
  unfold shP
  rw [TL.join_eq]
  exact join_pre _ _
theorem preS_len : ∀ ks : List Mk, (preS ks).length ≤ 11 * ks.length
  | [] => Nat.zero_le _
  | k :: r => by
    have := preS_len r
    have h := mk_len k
    show (k.s ++ ofS ++ preS r).length ≤ _
    rw [app_len, app_len, List.length_cons]
    show k.s.length + 4 + _ ≤ _
    omega
def leadT : List V := [.str "nearer", .str "cut", .str "shorter", .str "longer"]
theorem inL {K : PySem.W.Frag} {H : Hp} {a : Addr} {z : Str} {Q : VK} (ha : H a = some (.tup leadT)) (h : Q (.bl (decide (z ∈ leads))) H) : rIn K false (.str z) (.ref a) H Q := inT (S := leads) (.inl (.inl ha)) h
abbrev nLPapText : List Str := ["_law_paper_here", "_law_text", "_law_rows", "_law_row"]
theorem scLPapText : FnScope nLPapText ["_law_paper_here"] (defScope sLPapText) := ⟨rfl, rfl, rfl, by decide +kernel, rfl, by decide +kernel, by decide +kernel⟩
def spLPapT : Sp := fun vs H Q _ => ∃ (v : V) (l : Addr) (p : Pap), vs = [v] ∧ PapBd p ∧ PapAt H l v p ∧ ∀ H', Gr H H' → Q (.str (shP p)) H'
section
variable {P : Program} {w : World} {K : PySem.W.Frag} {mg : Str → Option Value} {base : Heap}
theorem ok_LPapText {fLPapText : Addr} {fdLPapText : FuncData} {k : Nat} (dLPapText : Df K mg "_law_paper_text" sLPapText ["_law_paper_here"] fLPapText fdLPapText)
     (mt : mg "str" = none) :
    FnOk P w K mg base CX0 (k + 1) fLPapText fdLPapText ["_law_paper_here"] (spLPapT) := by
  refine dLPapText.F.ok scLPapText (fun vs H Q E h => ?_) (fun cdv A outer s H vs Q E hr h => ?_)
  · obtain ⟨v, l, p, rfl, _⟩ := h
    rfl
  · obtain ⟨v, l, p, rfl, hb, hp, ret⟩ := h
    refine ⟨_, pss_cons (ps_set (i := 1) scLPapText.nd rfl (.inl rfl) (pe_str))
      (pss_cons (ps_while PassesOwn.never (pt_cmpR op_in_seq (pe_ix ix_tup (pv 0) (pe_int) (fun _ _ => rfl)) (pe_tup (pa_cons (pe_str) (pa_cons (pe_str) (pa_cons (pe_str) (pa_cons (pe_str) pa_nil))))) (by rfl)) (pss_cons (ps_set (i := 1) scLPapText.nd rfl (.inl rfl) (pe_op op_add_str (pe_op op_add_str (pv 1) (pe_ix ix_tup (pv 0) (pe_int) (fun _ _ => rfl))) (pe_str)))
        (pss_one (ps_set (i := 0) scLPapText.nd rfl (.inl rfl) (pe_ix ix_tup (pv 0) (pe_int) (fun _ _ => rfl))))))
      (pss_cons (ps_if (pt_cmpR op_ne (pe_ix ix_tup (pv 0) (pe_int) (fun _ _ => rfl)) (pe_str) (nomark _)) (pss_one (ps_ret (pe_op op_add_str (pv 1) (pe_ix ix_tup (pv 0) (pe_int) (fun _ _ => rfl))))) pss_nil)
      (pss_cons (ps_set (i := 2) scLPapText.nd rfl (.inl rfl) (pe_join (pe_str) (pe_lc (own := [("_law_row", 3)]) (g := gName 3) (tt := tYes) (te := tCB (_) (tCons (tVar 3) (tNil))) rfl scLPapText.nd (pi_list (pe_ix ix_tup (pv 0) (pe_int) (fun _ _ => rfl))) (blkOk_by (own := [("_law_row", 3)]) (N := nLPapText) (sc := defScope sLPapText) (by decide +kernel)) (fun _ _ _ _ _ => pg_name (i := 3) scLPapText.nd rfl (.inl rfl)) (fun _ _ _ _ _ => pts_nil) (fun _ _ _ _ _ => pe_callTy call_str_int (by rfl) mt (by decide +kernel) (pa_cons (pv 3) pa_nil)))))
      (pss_cons (ps_if (pt_cmpR (op_eqD hr.units) (pe_ix ix_tup (pv 0) (pe_int) (fun _ _ => rfl)) (pe_lst pa_nil) (nomark _)) (pss_one (ps_set (i := 2) scLPapText.nd rfl (.inl rfl) (pe_str))) pss_nil)
      (pss_one (ps_ret (pe_op op_add_str (pe_op op_add_str (pe_op op_add_str (pe_op op_add_str (pv 1) (pe_str)) (pe_callTy call_str_int (by rfl) mt (by decide +kernel) (pa_cons (pe_ix ix_tup (pv 0) (pe_int) (fun _ _ => rfl)) pa_nil))) (pe_str)) (pv 2)))))))), ?_⟩
    have hd := hb.2.1
    unfold depth at hd
    refine ⟨fun m σ H' => ∃ (v' : V) (p' : Pap) (ks : List Mk), σ = [some v', some (.str (preS ks)), none, none] ∧ Gr H H' ∧ PapAt H' l v' p' ∧ chain p = ks ++ chain p' ∧ core p' = core p ∧ m = (chain p').length,
      ⟨_, v, p, [], rfl, Gr.refl _, hp, rfl, rfl, rfl⟩, fun m σ H' hW => ?_⟩
    obtain ⟨v', p', ks, rfl, i1, i2, i4, i5, rfl⟩ := hW
    have lk : ks.length ≤ 1000 := by
      have := congrArg List.length i4
      rw [List.length_append] at this
      omega
    have lp := preS_len ks
    cases hc : chain p' with
    | nil =>
      obtain ⟨a, xs, rfl, ha⟩ := pap_head i2
      refine ⟨_, rfl, a, _, 0, _, rfl, rfl, .inl (.inl ha), at_hd _ _, (show 4 ≤ sizeLine by decide), fun t nt => ?_⟩
      generalize hU1 : upd _ _ _ = H1
      have g1 : Gr H' H1 := by rw [← hU1]; exact (Gr.refl _).new nt
      refine inL (at_same hU1) ⟨_, rfl, iteFB (decide_eq_false (hd_lead hc)) ?_⟩
      rw [hc, List.append_nil] at i4
      rw [core_id hc] at i5
      subst i5
      have ep := shP_pre p
      rw [i4] at ep
      have hbc : PapOk (core p) := hb.1.core
      have hrl : ∀ t rs, core p = .waves t rs → rs.length ≤ 1000 := hb.2.2
      have i2 := i2.gr g1
      have i1 := i1.trans g1
      have ha := g1.tup ha
      refine ⟨_, rfl, a, _, 0, _, rfl, rfl, .inl (.inl ha), at_hd _ _, rfl, _, rfl, ?_⟩
      have hcc := chain_core p
      generalize core p = c at ha i2 hbc hrl ep hcc
      cases c with
      | led m p => cases hcc
      | one =>
        refine iteTB (by decide +kernel) ?_
        refine ⟨_, rfl, _, rfl, a, _, 0, _, rfl, rfl, .inl (.inl ha), at_hd _ _, _, _, rfl, rfl, ?_, ?_⟩
        · show (preS ks).length + (("one" : Str)).length ≤ _
          exact sz (by show _ + 3 ≤ _; omega)
        · have := ret H1 i1
          rw [ep] at this
          exact this
      | all =>
        refine iteTB (by decide +kernel) ?_
        refine ⟨_, rfl, _, rfl, a, _, 0, _, rfl, rfl, .inl (.inl ha), at_hd _ _, _, _, rfl, rfl, ?_, ?_⟩
        · show (preS ks).length + (("all" : Str)).length ≤ _
          exact sz (by show _ + 3 ≤ _; omega)
        · have := ret H1 i1
          rw [ep] at this
          exact this
      | balls =>
        refine iteTB (by decide +kernel) ?_
        refine ⟨_, rfl, _, rfl, a, _, 0, _, rfl, rfl, .inl (.inl ha), at_hd _ _, _, _, rfl, rfl, ?_, ?_⟩
        · show (preS ks).length + (("balls" : Str)).length ≤ _
          exact sz (by show _ + 5 ≤ _; omega)
        · have := ret H1 i1
          rw [ep] at this
          exact this
      | waves t rs =>
        refine iteFB (show (!decide (V.str ("waves" : Str) = V.str "waves")) = false from by rw [decide_eq_true rfl]; rfl) ?_
        obtain ⟨a2, e2, ha2, hl⟩ := i2
        cases e2
        obtain ⟨ht, hr2⟩ := hbc
        have lr : rs.length ≤ 1000 := hrl t rs rfl
        refine ⟨⟨_, rfl⟩, _, rfl, a, _, 2, _, rfl, rfl, .inl (.inl ha2), rfl, l, rfl, ⟨_, sq hl⟩, fun D nD => ?_⟩
        refine lcL (φ := V.int) (sq hl) (fun _ => true) (fun r => .str (numS r)) nD (by omega) (fun r H' Y N hm g hy _ => ⟨rfl, yes (iteT ⟨_, rfl, r, rfl, log_ok (hr2 r hm), hy rfl H' (Gr.refl _)⟩)⟩) (fun H2 g2 e2 => ?_)
        rw [filter_yes] at e2
        have e3 : H2 D = some (.lst ((rs.map numS).map V.str)) := by rw [List.map_map]; exact e2
        have lt := rows_len lr hr2
        have jl := join_len (ts := rs.map numS)
        refine ⟨blank, D, _, rfl, rfl, .inl (sq e3), ?_, ?_⟩
        · unfold TxL at lt
          show _ + _ * 1 ≤ _
          omega
        have ha3 := g2.tup ha2
        have hl3 := g2.lst hl
        have ln := numS_len ht
        refine' join2 (α := L2.St) (P := fun σ Hx => σ = [some (.ref a), some (.str (preS ks)), some (.str (shw (rs.map numS))), none] ∧ Gr H2 Hx) (fun rest => ?jm) ?jr
        case jm =>
          refine ⟨_, rfl, a, _, 2, _, rfl, rfl, .inl (.inl ha3), rfl, Nat.zero_le _, fun z nz => ?_⟩
          generalize hU3 : upd _ _ _ = H3
          have g3 : Gr H2 H3 := by rw [← hU3]; exact (Gr.refl _).new nz
          refine ⟨dns rs, dns [], .lst (sq (g3.lst hl3)) (dp_ns _), .lst (sq (at_same hU3)) .nil, sh_ns _, sh_ns _, ?_⟩
          have eq0 : PyData.eqv (dns rs) (dns []) = decide (rs = []) := by cases rs <;> rfl
          refine ⟨_, rfl, ?_⟩
          by_cases hr0 : ¬ rs = []
          · refine iteFB (eq0.trans (decide_eq_false hr0)) ?_
            have es := shw_ne (ts := rs.map numS) (fun z => hr0 (List.map_eq_nil_iff.mp z))
            generalize hs : List.set _ 2 (some (V.str (Txt.join blank (rs.map numS)))) = σ'
            refine rest σ' H3 ⟨?_, g3⟩
            rw [← hs, es]
            rfl
          · have hr0 : rs = [] := Classical.not_not.mp hr0
            refine iteTB (eq0.trans (decide_eq_true hr0)) ?_
            refine rest _ H3 ⟨?_, g3⟩
            rw [hr0]
            rfl
        case jr =>
          rintro _ H3 ⟨rfl, g3⟩
          have ls : (shw (rs.map numS)).length ≤ 61001 := by
            unfold shw
            split
            · show 1 ≤ _
              omega
            · omega
          have w6 : ("waves " : Str).length = 6 := rfl
          have c2 : (": " : Str).length = 2 := rfl
          refine ⟨_, rfl, _, _, rfl, rfl, by rw [w6]; exact sz (by omega), _, rfl, a, _, 1, _, rfl, rfl, .inl (.inl (g3.tup ha3)), rfl, t, rfl, log_ok ht, _, _, rfl, rfl, ?_, _, _, rfl, rfl, ?_, _, rfl, _, _, rfl, rfl, ?_, ?_⟩
          · show ((preS ks ++ "waves ").length + (numS t).length) ≤ _
            rw [app_len, w6]
            exact sz (by omega)
          · show ((preS ks ++ "waves " ++ numS t).length + _) ≤ _
            rw [app_len, app_len, w6, c2]
            exact sz (by omega)
          · show ((preS ks ++ "waves " ++ numS t ++ ": ").length + _) ≤ _
            rw [app_len, app_len, app_len, w6, c2]
            exact sz (by omega)
          · have := ret H3 (i1.trans (g2.trans g3))
            rw [ep] at this
            have e9 : preS ks ++ "waves " ++ numS t ++ ": " ++ shw (rs.map numS) = preS ks ++ shIn (.waves t rs) := by
              apply str_ext
              show _ = (preS ks ++ ("waves " ++ numS t ++ ": " ++ shw (rs.map numS))).cps.toList
              simp only [str_app, List.append_assoc]
            rw [← e9] at this
            exact this
    | cons k r =>
      cases p' with
      | one => cases hc
      | all => cases hc
      | balls => cases hc
      | waves t rs => cases hc
      | led m p2 =>
        cases hc
        obtain ⟨a, u, rfl, ha, hu⟩ := i2
        refine ⟨_, rfl, a, _, 0, _, rfl, rfl, .inl (.inl ha), rfl, (show 4 ≤ sizeLine by decide), fun t nt => ?_⟩
        generalize hU1 : upd _ _ _ = H1
        have g1 : Gr H' H1 := by rw [← hU1]; exact (Gr.refl _).new nt
        refine inL (at_same hU1) ⟨_, rfl, iteTB (decide_eq_true (mk_mem k)) ?_⟩
        have ml := mk_len k
        have ha := g1.tup ha
        refine ⟨fun σ H'' => ∃ (v' : V) (ks : List Mk), σ = [some v', some (.str (preS ks)), none, none] ∧ Gr H H'' ∧ PapAt H'' l v' p2 ∧ chain p = ks ++ chain p2, fun σ' H'' h => ?_, ?_⟩
        · obtain ⟨v', ks', h1, h2, h3, h5⟩ := h
          exact ⟨(chain p2).length, by show (chain p2).length < (chain p2).length + 1; omega, v', p2, ks', h1, h2, h3, h5, i5, rfl⟩
        · refine ⟨_, rfl, _, rfl, a, _, 0, _, rfl, rfl, .inl (.inl ha), rfl, _, _, rfl, rfl, sz (by omega), _, _, rfl, rfl, ?_, ?_⟩
          · show ((preS ks ++ k.s).length + 4) ≤ _
            rw [app_len]
            exact sz (by omega)
          refine ⟨_, rfl, a, _, 1, _, rfl, rfl, .inl (.inl ha), rfl, ?_⟩
          refine ⟨u, ks ++ [k], by rw [preS_snoc]; rfl, i1.trans g1, hu.gr g1, ?_⟩
          rw [i4, List.append_assoc]
          rfl
end
end Wa
namespace Wa
open PySem PySem.Spec PyProof.Rows L2
/-- a paper as data -/
def dP : Pap → PyData
  | .one => .tuple [.str "one"]
  | .all => .tuple [.str "all"]
  | .balls => .tuple [.str "balls"]
  | .waves t rs => .tuple [.str "waves", .int t, dns rs]
  | .led m p => .tuple [.str m.s, dP p]
theorem dp_pap {K : PySem.W.Frag} {H : Hp} {l : Addr} : ∀ {v : V} {p : Pap}, PapAt H l v p → Dp K H v (dP p)
  | _, .one, ⟨a, e, q⟩ => by subst e; exact .tup (.inl (.inl q)) (.cons (.str _) .nil)
  | _, .all, ⟨a, e, q⟩ => by subst e; exact .tup (.inl (.inl q)) (.cons (.str _) .nil)
  | _, .balls, ⟨a, e, q⟩ => by subst e; exact .tup (.inl (.inl q)) (.cons (.str _) .nil)
  | _, .waves t rs, ⟨a, e, q, r⟩ => by subst e; exact .tup (.inl (.inl q)) (.cons (.str _) (.cons (.int _) (.cons (dpN r) .nil)))
  | _, .led m p, ⟨a, u, e, q, r⟩ => by subst e; exact .tup (.inl (.inl q)) (.cons (.str _) (.cons (dp_pap r) .nil))
theorem nice_st (n : Nat) (z : Str) (h : PyData.strOk z = true) : Nice n (.str z) := ⟨h, Nat.zero_le _⟩
theorem nice_mk (n : Nat) (m : Mk) : Nice n (.str m.s) := nice_st n _ (by cases m <;> decide +kernel)
theorem nice_pap : ∀ p : Pap, Nice (depth p + 2) (dP p)
  | .one => nice_tup fun d hd => by rw [List.mem_singleton.mp hd]; exact nice_st _ _ (by decide +kernel)
  | .all => nice_tup fun d hd => by rw [List.mem_singleton.mp hd]; exact nice_st _ _ (by decide +kernel)
  | .balls => nice_tup fun d hd => by rw [List.mem_singleton.mp hd]; exact nice_st _ _ (by decide +kernel)
  | .waves t rs => nice_tup fun d hd => by
    simp only [List.mem_cons, List.not_mem_nil, or_false] at hd
    rcases hd with e | e | e
    · rw [e]; exact nice_st _ _ (by decide +kernel)
    · rw [e]; exact nice_int _ _
    · rw [e]; exact nice_ns rs
  | .led m p => nice_tup fun d hd => by
    simp only [List.mem_cons, List.not_mem_nil, or_false] at hd
    rcases hd with e | e
    · rw [e]; exact nice_mk _ m
    · rw [e]; exact nice_pap p
def tlen : Pap → Nat
  | .waves _ _ => 3
  | .led _ _ => 2
  | _ => 1
theorem pap_len {H : Hp} {l : Addr} : ∀ {v : V} {p : Pap}, PapAt H l v p → ∃ a xs, v = .ref a ∧ H a = some (.tup (.str (hdP p) :: xs)) ∧ xs.length + 1 = tlen p
  | _, .one, ⟨a, e, q⟩ => ⟨a, _, e, q, rfl⟩
  | _, .all, ⟨a, e, q⟩ => ⟨a, _, e, q, rfl⟩
  | _, .balls, ⟨a, e, q⟩ => ⟨a, _, e, q, rfl⟩
  | _, .waves _ _, ⟨a, e, q, _⟩ => ⟨a, _, e, q, rfl⟩
  | _, .led _ _, ⟨a, _, e, q, _⟩ => ⟨a, _, e, q, rfl⟩
abbrev nLSame : List Str := ["_law_found", "_law_paper_here", "_law_one"]
theorem scLSame : FnScope nLSame ["_law_found", "_law_paper_here"] (defScope sLSame) := ⟨rfl, rfl, rfl, by decide +kernel, rfl, by decide +kernel, by decide +kernel⟩
def spLSame : Nat → Sp
  | 0 => fun _ _ _ _ => False
  | N + 1 => fun vs H Q _ => ∃ (v v' : V) (l l' : Addr) (p : Pap), vs = [v, v'] ∧ PapAt H l v p ∧ PapAt H l' v' p ∧ depth p ≤ N ∧ (∀ t rs, core p = .waves t rs → rs.length ≤ 1000000) ∧ ∀ H', Gr H H' → Q (.bl true) H'
section
variable {P : Program} {w : World} {K : PySem.W.Frag} {mg : Str → Option Value} {base : Heap}
theorem ok_LSame {fLSame : Addr} {fdLSame : FuncData} {k N : Nat} (dLSame : Df K mg "_law_same" sLSame ["_law_found", "_law_paper_here"] fLSame fdLSame)
    (gLSame : FnOk P w K mg base CX0 k fLSame fdLSame ["_law_found", "_law_paper_here"] (spLSame N))
     (mi : mg "isinstance" = none) (mtu : mg "tuple" = none) (ml : mg "len" = none) (mt : mg "str" = none) (mls : mg "list" = none) (mbo : mg "bool" = none) (mint : mg "int" = none) :
    FnOk P w K mg base CX0 (k + 1) fLSame fdLSame ["_law_found", "_law_paper_here"] (spLSame (N + 1)) := by
  refine dLSame.F.ok scLSame (fun vs H Q E h => ?_) (fun cdv A outer s H vs Q E hr h => ?_)
  · obtain ⟨v, v', l, l', p, rfl, _⟩ := h
    rfl
  · obtain ⟨v, v', l, l', p, rfl, hp, hp', hN, hrl, ret⟩ := h
    refine ⟨_, pss_cons (ps_if (PW.pt (pw_or (pt_not (pt_val (pe_callB call_isi (by rfl) mi (by decide +kernel) (pa_cons (pv 0) (pa_cons (pe_bltn (v := .ty "tuple") (by rfl) mtu (by decide +kernel) rfl) pa_nil))))) (pw_or1 (pt_cmpR op_ne (pe_callB call_lenK (by rfl) ml (PySem.boot_len) (pa_cons (pv 0) pa_nil)) (pe_callB call_lenK (by rfl) ml (PySem.boot_len) (pa_cons (pv 1) pa_nil)) (nomark _))))) (pss_one (ps_ret (pe_bl))) pss_nil)
      (pss_cons (ps_if (PW.pt (pw_or (pt_not (pt_val (pe_callB call_isi (by rfl) mi (by decide +kernel) (pa_cons (pe_ix ix_tup (pv 0) (pe_int) (fun _ _ => rfl)) (pa_cons (pe_bltn (v := .ty "str") (by rfl) mt (by decide +kernel) rfl) pa_nil))))) (pw_or1 (pt_cmpR op_ne (pe_ix ix_tup (pv 0) (pe_int) (fun _ _ => rfl)) (pe_ix ix_tup (pv 1) (pe_int) (fun _ _ => rfl)) (nomark _))))) (pss_one (ps_ret (pe_bl))) pss_nil)
      (pss_cons (ps_if (pt_cmpR op_eq (pe_ix ix_tup (pv 1) (pe_int) (fun _ _ => rfl)) (pe_str) (nomark _)) (pss_cons (ps_if (PW.pt (pw_or (pt_not (pt_val (pe_callB call_isi (by rfl) mi (by decide +kernel) (pa_cons (pe_ix ix_tup (pv 0) (pe_int) (fun _ _ => rfl)) (pa_cons (pe_bltn (v := .ty "list") (by rfl) mls (by decide +kernel) rfl) pa_nil))))) (pw_or1 (pt_cmpR (op_neD hr.units) (pe_slice sl_tup (pv 0) (po_some (pe_int)) po_none) (pe_slice sl_tup (pv 1) (po_some (pe_int)) po_none) (nomark _))))) (pss_one (ps_ret (pe_bl))) pss_nil)
        (pss_one (ps_ret (pe_cmpR (op_eqD hr.units) (pe_lc (own := [("_law_one", 2)]) (g := gName 2) (tt := tOr (tNot (tB (tCB (rIsi K) (tCons (tVar 2) (tCons (tC (.ty "int")) tNil))))) (tB (tCB (rIsi K) (tCons (tVar 2) (tCons (tC (.ty "bool")) tNil))))) (te := tVar 2) rfl scLSame.nd (pi_list (pe_op op_cat (pe_lst (pa_cons (pe_ix ix_tup (pv 0) (pe_int) (fun _ _ => rfl)) pa_nil)) (pe_ix ix_tup (pv 0) (pe_int) (fun _ _ => rfl)))) (blkOk_by (own := [("_law_one", 2)]) (N := nLSame) (sc := defScope sLSame) (by decide +kernel)) (fun _ _ _ _ _ => pg_name (i := 2) scLSame.nd rfl (.inl rfl)) (fun _ _ _ _ _ => pts_one (PW.pt (pw_or (pt_not (pt_val (pe_callB (id := "isinstance") (r := rIsi K) call_isi (by rfl) mi (by decide +kernel) (pa_cons (pv 2) (pa_cons (pe_bltn (v := .ty "int") (by rfl) mint (by decide +kernel) rfl) pa_nil))))) (pw_or1 (pt_val (pe_callB (id := "isinstance") (r := rIsi K) call_isi (by rfl) mi (by decide +kernel) (pa_cons (pv 2) (pa_cons (pe_bltn (v := .ty "bool") (by rfl) mbo (by decide +kernel) rfl) pa_nil)))))))) (fun _ _ _ _ _ => pv 2)) (pe_lst pa_nil) (nomark _))))) pss_nil)
      (pss_one (ps_ret (pe_or (pe_cmpR op_eq (pe_callB call_lenK (by rfl) ml (PySem.boot_len) (pa_cons (pv 1) pa_nil)) (pe_int) (nomark _)) (pe_one (pe_call gLSame hr (by rfl) dLSame.g dLSame.F.kp dLSame.b .nil pass0 (pa_cons (pe_ix ix_tup (pv 0) (pe_int) (fun _ _ => rfl)) (pa_cons (pe_ix ix_tup (pv 1) (pe_int) (fun _ _ => rfl)) pa_nil))))))))), ?_⟩
    obtain ⟨a, xs, rfl, ha, la⟩ := pap_len hp
    obtain ⟨b, ys, rfl, hb, lb⟩ := pap_len hp'
    refine ⟨_, rfl, _, .ty "tuple", .type "tuple", .type "tuple", true, rfl, .ty _, .base (.tup ha), kit_ty (by decide +kernel), true, rfl, iteF ?_⟩
    refine ⟨_, rfl, a, _, rfl, .inr (.inl (.inl ha)), _, rfl, b, _, rfl, .inr (.inl (.inl hb)), rfl, _, rfl, iteFB (by rw [decV_int, decide_eq_true (by rw [List.length_cons, List.length_cons, la, lb])]; rfl) ?_⟩
    refine ⟨_, rfl, a, _, 0, _, rfl, rfl, .inl (.inl ha), at_hd _ _, _, .ty "str", .type "str", .type "str", true, rfl, .ty _, .base (.str _), kit_ty (by decide +kernel), true, rfl, iteF ?_⟩
    refine ⟨_, rfl, a, _, 0, _, rfl, rfl, .inl (.inl ha), at_hd _ _, _, rfl, b, _, 0, _, rfl, rfl, .inl (.inl hb), at_hd _ _, rfl, _, rfl, iteFB (by rw [decide_eq_true rfl]; rfl) ?_⟩
    refine ⟨_, rfl, b, _, 0, _, rfl, rfl, .inl (.inl hb), at_hd _ _, rfl, _, rfl, ?_⟩
    cases p with
    | one =>
      refine iteFB (by decide +kernel) ?_
      refine ⟨_, rfl, b, _, rfl, .inr (.inl (.inl hb)), rfl, _, rfl, iteTB (by rw [decV_int]; exact decide_eq_true (by rw [List.length_cons, lb]; rfl)) ?_⟩
      exact ret H (Gr.refl _)
    | all =>
      refine iteFB (by decide +kernel) ?_
      refine ⟨_, rfl, b, _, rfl, .inr (.inl (.inl hb)), rfl, _, rfl, iteTB (by rw [decV_int]; exact decide_eq_true (by rw [List.length_cons, lb]; rfl)) ?_⟩
      exact ret H (Gr.refl _)
    | balls =>
      refine iteFB (by decide +kernel) ?_
      refine ⟨_, rfl, b, _, rfl, .inr (.inl (.inl hb)), rfl, _, rfl, iteTB (by rw [decV_int]; exact decide_eq_true (by rw [List.length_cons, lb]; rfl)) ?_⟩
      exact ret H (Gr.refl _)
    | led m p =>
      refine iteFB (show decide (V.str m.s = V.str "waves") = false from by cases m <;> decide +kernel) ?_
      obtain ⟨a2, u, e2, ha2, hu⟩ := hp
      cases e2
      obtain ⟨b2, u', e3, hb2, hu'⟩ := hp'
      cases e3
      obtain ⟨M, rfl⟩ : ∃ M, N = M + 1 := by
        unfold depth at hN
        have : (chain p).length + 1 ≤ N := hN
        exact ⟨N - 1, by omega⟩
      refine ⟨_, rfl, b, _, rfl, .inr (.inl (.inl hb)), rfl, _, rfl, iteFB (by rw [decV_int]; exact decide_eq_false (by rw [List.length_cons, lb]; show ¬ (((2 : Nat) : Int) = 1); decide)) ?_⟩
      refine ⟨_, rfl, a, _, 1, _, rfl, rfl, .inl (.inl ha2), rfl, _, rfl, b, _, 1, _, rfl, rfl, .inl (.inl hb2), rfl, u, u', l, l', p, rfl, hu, hu', ?_, hrl, ret⟩
      unfold depth at hN ⊢
      have : (chain p).length + 1 ≤ M + 1 := hN
      omega
    | waves t rs =>
      refine iteTB (show decide (V.str ("waves" : Str) = V.str "waves") = true from decide_eq_true rfl) ?_
      obtain ⟨a2, e2, ha2, hl⟩ := hp
      cases e2
      obtain ⟨b2, e3, hb2, hl'⟩ := hp'
      cases e3
      have lr : rs.length ≤ 1000000 := hrl t rs rfl
      refine ⟨_, rfl, a, _, 2, _, rfl, rfl, .inl (.inl ha2), rfl, _, .ty "list", .type "list", .type "list", true, rfl, .ty _, .base (.lst hl), kit_ty (by decide +kernel), true, rfl, iteF ?_⟩
      refine ⟨_, rfl, _, rfl, a, _, rfl, .inl (.inl ha2), (fun z => absurd z.1 (show ¬ (1 : Nat) = 0 by decide)), fun c nc => ?_⟩
      generalize hU1 : upd _ _ _ = H1
      have g1 : Gr H H1 := by rw [← hU1]; exact (Gr.refl _).new nc
      have ec : H1 c = some (.tup [.int t, .ref l]) := at_same hU1
      refine ⟨_, rfl, _, rfl, b, _, rfl, .inl (.inl (g1.tup hb2)), (fun z => absurd z.1 (show ¬ (1 : Nat) = 0 by decide)), fun c2 nc2 => ?_⟩
      generalize hU2 : upd _ _ _ = H2
      have g2 : Gr H1 H2 := by rw [← hU2]; exact (Gr.refl _).new nc2
      have ec2 : H2 c2 = some (.tup [.int t, .ref l']) := at_same hU2
      have g12 := g1.trans g2
      refine neD1 (dpT2 (g2.tup ec) (.int t) (dpN (g12.lst hl))) (dpT2 ec2 (.int t) (dpN (g12.lst hl'))) (nice_t2 (nice_int _ _) (nice_ns rs)) (by decide) ⟨_, rfl, iteF ?_⟩
      refine ⟨_, rfl, a, _, 1, _, rfl, rfl, .inl (.inl (g12.tup ha2)), rfl, (show 1 ≤ sizeLine by decide), fun c3 nc3 => ?_⟩
      generalize hU3 : upd _ _ _ = H3
      have g3 : Gr H2 H3 := by rw [← hU3]; exact (Gr.refl _).new nc3
      have g13 := g12.trans g3
      refine ⟨_, rfl, a, _, 2, _, rfl, rfl, .inl (.inl (g13.tup ha2)), rfl, c3, l, _, _, rfl, rfl, at_same hU3, g13.lst hl, by rw [List.length_map]; exact sz (by show 1 + _ ≤ _; omega), fun c4 nc4 => ?_⟩
      generalize hU4 : upd _ _ _ = H4
      have g4 : Gr H3 H4 := by rw [← hU4]; exact (Gr.refl _).new nc4
      have e4 : H4 c4 = some (.lst ((t :: rs).map V.int)) := at_same hU4
      refine ⟨c4, rfl, ⟨_, sq e4⟩, fun D nD => ?_⟩
      refine lcL (φ := V.int) (sq e4) (fun _ => false) (fun r => .int r) nD (by rw [List.length_cons]; omega) (fun r H' Y N hm g hy hn => ?_) (fun H5 g5 e5 => ?_)
      · refine ⟨rfl, ⟨_, rfl, _, .ty "int", .type "int", .type "int", true, rfl, .ty _, .base (.int _), kit_ty (by decide +kernel), true, rfl, iteF ?_⟩⟩
        exact ⟨_, rfl, _, .ty "bool", .type "int", .type "bool", false, rfl, .ty _, .base (.int _), kit_ty (by decide +kernel), false, rfl, iteF (hn rfl H' (Gr.refl _))⟩
      · have e6 : ((t :: rs).filter fun _ => false) = [] := List.filter_eq_nil_iff.mpr fun _ _ => Bool.false_ne_true
        rw [e6] at e5
        refine ⟨Nat.zero_le _, fun z nz => ?_⟩
        generalize hU7 : upd _ _ _ = H7
        have g7 : Gr H5 H7 := by rw [← hU7]; exact (Gr.refl _).new nz
        exact ⟨dns [], dns [], .lst (sq (g7.lst e5)) .nil, .lst (sq (at_same hU7)) .nil, sh_ns _, sh_ns _, ret H7 (g13.trans (g4.trans (g5.trans g7)))⟩
end
section
variable {P : Program} {w : World} {K : PySem.W.Frag} {mg : Str → Option Value} {base : Heap}
theorem okR_LSame {fLSame : Addr} {fdLSame : FuncData} {k : Nat} (N : Nat) (dLSame : Df K mg "_law_same" sLSame ["_law_found", "_law_paper_here"] fLSame fdLSame) (mi : mg "isinstance" = none) (ml : mg "len" = none) (mint : mg "int" = none) (mls : mg "list" = none) (mt : mg "str" = none) (mbo : mg "bool" = none) (mtu : mg "tuple" = none) :
    FnOk P w K mg base CX0 (k + N) fLSame fdLSame ["_law_found", "_law_paper_here"] (spLSame N) := by
  induction N with
  | zero => exact ⟨fun _ _ _ _ h => h.elim, fun _ _ _ _ _ _ _ _ _ _ _ _ _ h => h.elim⟩
  | succ N ih => exact ok_LSame dLSame ih (by assumption) (by assumption) (by assumption) (by assumption) (by assumption) (by assumption) (by assumption)
end
end Wa
namespace Wa
open PySem PySem.Spec PyProof.Rows L2
/-! a text bent -/
theorem appL (x y : Str) : (x ++ y).length = x.length + y.length := by
  show (x.cps ++ y.cps).size = _
  rw [Array.size_append]
  rfl
theorem cutL_to (z : Str) (k : Nat) : (cutS z none (some (k : Int))).length ≤ k ∧ (cutS z none (some (k : Int))).length ≤ z.length := by
  have e : (cutS z none (some (k : Int))).length = ((z.cps.toList.drop (HT.sIx z.length 0 none)).take (HT.sIx z.length z.length (some (k : Int)) - HT.sIx z.length 0 none)).length := by
    show (List.toArray _).size = _
    rw [List.size_toArray]
  rw [e, HT.sIx_none, HT.sIx_nat, List.length_take]
  omega
theorem cutL_from (z : Str) (k : Nat) : (cutS z (some (k : Int)) none).length ≤ z.length - k := by
  have e : (cutS z (some (k : Int)) none).length = ((z.cps.toList.drop (HT.sIx z.length 0 (some (k : Int)))).take (HT.sIx z.length z.length none - HT.sIx z.length 0 (some (k : Int)))).length := by
    show (List.toArray _).size = _
    rw [List.size_toArray]
  rw [e, HT.sIx_none, HT.sIx_nat, List.length_take]
  omega
theorem cutL_mid (z : Str) : (cutS z (some 1) (some 2)).length ≤ 1 := by
  have e : (cutS z (some ((1 : Nat) : Int)) (some ((2 : Nat) : Int))).length = ((z.cps.toList.drop (HT.sIx z.length 0 (some ((1 : Nat) : Int)))).take (HT.sIx z.length z.length (some ((2 : Nat) : Int)) - HT.sIx z.length 0 (some ((1 : Nat) : Int)))).length := by
    show (List.toArray _).size = _
    rw [List.size_toArray]
  show (cutS z (some ((1 : Nat) : Int)) (some ((2 : Nat) : Int))).length ≤ 1
  rw [e, HT.sIx_nat, HT.sIx_nat, List.length_take]
  omega
def okT (z : Str) : Prop := ∀ c ∈ z.cps.toList, c < 0x110000
theorem okT_app {x y : Str} (hx : okT x) (hy : okT y) : okT (x ++ y) := fun c hc => by
  have e : (x ++ y).cps.toList = x.cps.toList ++ y.cps.toList := by
    show (x.cps ++ y.cps).toList = _
    rw [Array.toList_append]
  rw [e] at hc
  rcases List.mem_append.mp hc with h | h
  · exact hx c h
  · exact hy c h
theorem okT_cut {z : Str} (h : okT z) (lo hi : Option Int) : okT (cutS z lo hi) := fun c hc => h c (List.mem_of_mem_drop (List.mem_of_mem_take (show c ∈ (z.cps.toList.drop (HT.sIx z.length 0 lo)).take (HT.sIx z.length z.length hi - HT.sIx z.length 0 lo) from hc)))
theorem okT_str {z : Str} (h : okT z) : PyData.strOk z = true := by
  unfold PyData.strOk
  rw [← Array.all_toList, List.all_eq_true]
  exact fun c hc => decide_eq_true (h c hc)
def B42 (a : Addr) (z sg hd sn : Str) (i : Nat) (x at_ tn : Int) (H5 : Hp) (B : Nat) (σ : L2.St) (Hx : Hp) : Prop := ∃ u : Str, σ = [some (.str z), some (.ref a), some (.str sg), some (.int (0 + (i : Int))), some (.int x), some (.int at_), some (.str sn), some (.int tn), some (.str hd), some (.str u)] ∧ u.length ≤ B ∧ okT u ∧ H5 = Hx
abbrev nLBent42 : List Str := ["_law_text", "_law_draws_here", "_law_signs", "_law_k", "_law_number_here", "_law_at", "_law_sign", "_law_turn", "_law_head", "_law_tail"]
theorem scLBent42 : FnScope nLBent42 ["_law_text", "_law_draws_here", "_law_signs"] (defScope sLBent42) := ⟨rfl, rfl, rfl, by decide +kernel, rfl, by decide +kernel, by decide +kernel⟩
def spLBent42 : Sp := fun vs H Q _ => ∃ (z sg : Str) (a : Addr) (ds : List Int), vs = [.str z, .ref a, .str sg] ∧ z.length ≤ 70000 ∧ okT z ∧ 1 ≤ sg.length ∧ sg.length ≤ 100 ∧ okT sg ∧ H a = some (.lst (ds.map V.int)) ∧ Drawn ds ∧
  ∀ H' z' ds', z'.length ≤ z.length + 60 → okT z' → Drawn ds' → H' a = some (.lst (ds'.map V.int)) → OG a H H' → Q (.str z') H'
section
variable {P : Program} {w : World} {K : PySem.W.Frag} {mg : Str → Option Value} {base : Heap}
theorem ok_LBent42 {fLBent42  fPop : Addr} {fdLBent42 fdPop : FuncData} {k : Nat} (dLBent42 : Df K mg "_law_bent" sLBent42 ["_law_text", "_law_draws_here", "_law_signs"] fLBent42 fdLBent42)
    (dPop : Df K mg "_law_pop" sPop ["_law_draws_here"] fPop fdPop) (gPop : FnOk P w K mg base CX0 k fPop fdPop ["_law_draws_here"] (spPop))
     (mr : mg "range" = none) (ml : mg "len" = none) :
    FnOk P w K mg base CX0 (k + 1) fLBent42 fdLBent42 ["_law_text", "_law_draws_here", "_law_signs"] (spLBent42) := by
  refine dLBent42.F.ok scLBent42 (fun vs H Q E h => ?_) (fun cdv A outer s H vs Q E hr h => ?_)
  · obtain ⟨z, sg, a, ds, rfl, _⟩ := h
    rfl
  · obtain ⟨z, sg, a, ds, rfl, hz, oz, hs1, hs2, osg, ha, hd, ret⟩ := h
    refine ⟨_, pss_cons (ps_for PassesOwn.never rfl (pi_range1 rfl mr (pa_cons (pe_op op_mod (pe_call gPop hr (by rfl) dPop.g dPop.F.kp dPop.b .nil pass0 (pa_cons (pv 1) pa_nil)) (pe_int)) pa_nil)) (pg_name (i := 3) scLBent42.nd rfl (.inl rfl))
        (pss_cons (ps_set (i := 4) scLBent42.nd rfl (.inl rfl) (pe_call gPop hr (by rfl) dPop.g dPop.F.kp dPop.b .nil pass0 (pa_cons (pv 1) pa_nil)))
        (pss_cons (ps_set (i := 5) scLBent42.nd rfl (.inl rfl) (pe_op op_mod (pv 4) (pe_op op_add (pe_callB call_len_str (by rfl) ml (PySem.boot_len) (pa_cons (pv 0) pa_nil)) (pe_int))))
        (pss_cons (ps_set (i := 6) scLBent42.nd rfl (.inl rfl) (pe_item_str (pv 2) (pe_op op_mod (pe_op op_fdiv (pv 4) (pe_int)) (pe_callB call_len_str (by rfl) ml (PySem.boot_len) (pa_cons (pv 2) pa_nil))) (fun _ _ => rfl)))
        (pss_cons (ps_set (i := 7) scLBent42.nd rfl (.inl rfl) (pe_op op_mod (pe_op op_fdivW (pv 4) (pe_int)) (pe_int)))
        (pss_cons (ps_set (i := 8) scLBent42.nd rfl (.inl rfl) (pe_slice sl_str (pv 0) po_none (po_some (pv 5))))
        (pss_cons (ps_set (i := 9) scLBent42.nd rfl (.inl rfl) (pe_slice sl_str (pv 0) (po_some (pv 5)) po_none))
        (pss_cons (ps_if (pt_cmpR op_eq (pv 7) (pe_int) (nomark _)) (pss_one (ps_set (i := 9) scLBent42.nd rfl (.inl rfl) (pe_slice sl_str (pv 9) (po_some (pe_int)) po_none))) pss_nil)
        (pss_cons (ps_if (pt_cmpR op_eq (pv 7) (pe_int) (nomark _)) (pss_one (ps_set (i := 9) scLBent42.nd rfl (.inl rfl) (pe_op op_add_str (pv 6) (pv 9)))) pss_nil)
        (pss_cons (ps_if (pt_cmpR op_eq (pv 7) (pe_int) (nomark _)) (pss_one (ps_set (i := 9) scLBent42.nd rfl (.inl rfl) (pe_op op_add_str (pv 6) (pe_slice sl_str (pv 9) (po_some (pe_int)) po_none)))) pss_nil)
        (pss_cons (ps_if (pt_cmpR op_eq (pv 7) (pe_int) (nomark _)) (pss_one (ps_set (i := 9) scLBent42.nd rfl (.inl rfl) (pe_op op_add_str (pe_op op_add_str (pe_slice sl_str (pv 9) (po_some (pe_int)) (po_some (pe_int))) (pe_slice sl_str (pv 9) po_none (po_some (pe_int)))) (pe_slice sl_str (pv 9) (po_some (pe_int)) po_none)))) pss_nil)
        (pss_cons (ps_if (pt_cmpR op_eq (pv 7) (pe_int) (nomark _)) (pss_one (ps_set (i := 9) scLBent42.nd rfl (.inl rfl) (pe_op op_add_str (pe_slice sl_str (pv 9) po_none (po_some (pe_op op_add (pe_int) (pe_op op_mod (pe_op op_fdiv (pv 4) (pe_int)) (pe_int))))) (pv 9)))) pss_nil)
        (pss_cons (ps_if (pt_cmpR op_eq (pv 7) (pe_int) (nomark _)) (pss_one (ps_set (i := 9) scLBent42.nd rfl (.inl rfl) (pe_str))) pss_nil)
        (pss_one (ps_set (i := 0) scLBent42.nd rfl (.inl rfl) (pe_op op_add_str (pv 8) (pv 9)))))))))))))))))
      (pss_one (ps_ret (pv 0))), ?_⟩
    refine ⟨_, rfl, a, ds, rfl, ha, fun H1 a1 k1 => ?_⟩
    have og1 : OG a H H1 := OG.pop k1 ⟨_, a1⟩
    obtain ⟨m, em, hm⟩ : ∃ m : Nat, popV ds % 4 = (m : Int) ∧ m ≤ 3 := ⟨(popV ds % 4).toNat, by omega, by omega⟩
    refine tCi (rdMod (by decide) em ⟨(m : Int), rfl, by omega, by omega, ?_⟩)
    refine walk_f m (fun i σ H' => ∃ (y3 y4 y5 y6 y7 y8 y9 : Option V) (u : Str) (ds' : List Int), σ = [some (.str u), some (.ref a), some (.str sg), y3, y4, y5, y6, y7, y8, y9] ∧ u.length ≤ z.length + 20 * i ∧ okT u ∧ Drawn ds' ∧ H' a = some (.lst (ds'.map V.int)) ∧ OG a H H')
      ⟨none, none, none, none, none, none, none, z, _, rfl, by omega, oz, hd.rest, a1, og1⟩ (fun i σ H' hi hp => ?_) (fun σ H' hp => ?_)
    · obtain ⟨y3, y4, y5, y6, y7, y8, y9, u, ds', rfl, i1, ou, i2, i3, i4⟩ := hp
      refine ⟨by show i < (m : Int).toNat; omega, fun x H'' y => ?_⟩
      obtain ⟨rfl, rfl⟩ := y
      refine ⟨_, rfl, a, _, rfl, i3, fun H2 a2 k2 => ?_⟩
      have og2 : OG a H H2 := i4.trans (OG.pop k2 ⟨_, a2⟩)
      obtain ⟨x0, x1⟩ := i2.pop
      have hd2 := i2.rest
      generalize popV ds' = x at x0 x1
      obtain ⟨at_, eat, hat⟩ : ∃ m : Nat, x % ((u.length : Nat) + 1 : Int) = (m : Int) ∧ m ≤ u.length := by
        have h0 := Int.emod_nonneg x (show ((u.length : Nat) + 1 : Int) ≠ 0 by omega)
        have h1 := Int.emod_lt_of_pos x (show (0 : Int) < (u.length : Nat) + 1 by omega)
        exact ⟨(x % ((u.length : Nat) + 1 : Int)).toNat, by omega, by omega⟩
      refine ⟨_, rfl, _, rfl, u, rfl, sz (by omega), tCi (rdAdd rfl (rdMod (by omega) eat ?_))⟩
      obtain ⟨sn, esn, hsn⟩ : ∃ m : Nat, x / 1000 % (sg.length : Int) = (m : Int) ∧ m < sg.length := by
        have h0 := Int.emod_nonneg (x / 1000) (show (sg.length : Int) ≠ 0 by omega)
        have h1 := Int.emod_lt_of_pos (x / 1000) (show (0 : Int) < sg.length by omega)
        exact ⟨(x / 1000 % (sg.length : Int)).toNat, by omega, by omega⟩
      have gc : sg.cps[sn]? = some (sg.cps[sn]'hsn) := Array.getElem?_eq_getElem hsn
      have oc : sg.cps[sn]'hsn < 0x110000 := osg _ (Array.mem_toList_iff.mpr (Array.getElem_mem hsn))
      generalize sg.cps[sn]'hsn = c at gc oc
      refine ⟨_, rfl, _, rfl, x, 1000, rfl, rfl, ⟨by decide, by decide⟩, _, rfl, sg, rfl, sz (by omega), rdMod (by omega) esn ⟨sg, _, c, rfl, rfl, by omega, by omega, by omega, by rw [Int.toNat_natCast]; exact gc, ?_⟩⟩
      have hsn1 : (⟨#[c]⟩ : Str).length = 1 := rfl
      have osn : okT ⟨#[c]⟩ := fun d hd => by rw [List.mem_singleton.mp (show d ∈ [c] from hd)]; exact oc
      generalize (⟨#[c]⟩ : Str) = sn at hsn1 osn
      obtain ⟨tn, etn⟩ : ∃ tn : Int, x / 100000 % 6 = tn := ⟨_, rfl⟩
      refine ⟨_, rfl, x, 100000, rfl, rfl, wide_div (b := 20) (by decide) (by decide) (by decide) (by decide), tCi (rdMod (by decide) etn ?_)⟩
      clear etn
      refine ⟨_, rfl, _, rfl, _, rfl, u, rfl, sz (by omega), ?_⟩
      refine ⟨_, rfl, _, rfl, _, rfl, u, rfl, sz (by omega), ?_⟩
      have h1 := (cutL_to u at_).1
      have h2 := cutL_from u at_
      have o1 := okT_cut ou none (some (at_ : Int))
      have o2 := okT_cut ou (some (at_ : Int)) none
      generalize cutS u none (some (at_ : Int)) = hd at h1 o1
      generalize cutS u (some (at_ : Int)) none = tl at h2 o2
      have lim : u.length ≤ 80000 := by omega
      have sm_ : ∀ {B : Nat} {v : Str}, v.length ≤ B → okT v → B42 a u sg hd sn i x at_ tn H2 B [some (.str u), some (.ref a), some (.str sg), some (.int (0 + (i : Int))), some (.int x), some (.int at_), some (.str sn), some (.int tn), some (.str hd), some (.str v)] H2 := fun h o => ⟨_, rfl, h, o, rfl⟩
      refine' join2 (α := L2.St) (P := B42 a u sg hd sn i x at_ tn H2 (u.length - at_)) (fun rest => ?jm) ?jr
      case jm =>
        refine ⟨_, rfl, rfl, _, rfl, ?_⟩
        by_cases c : ¬ tn = 0
        · refine iteFB (by rw [decV_int]; exact decide_eq_false c) ?_
          generalize hs : List.set _ 9 (some (V.str tl)) = σ'
          exact rest σ' H2 (hs ▸ sm_ h2 o2)
        refine iteTB (by rw [decV_int]; exact decide_eq_true (by omega)) ?_
        refine ⟨_, rfl, _, rfl, tl, rfl, sz (by omega), rest _ H2 (sm_ ?_ (okT_cut o2 _ _))⟩
        have := cutL_from tl 1
        exact Nat.le_trans this (by omega)
      case jr =>
        rintro _ _ ⟨tl, rfl, h2, o2, rfl⟩
        refine' join2 (α := L2.St) (P := B42 a u sg hd sn i x at_ tn H2 (u.length - at_ + 1)) (fun rest => ?jm) ?jr
        case jm =>
          refine ⟨_, rfl, rfl, _, rfl, ?_⟩
          by_cases c : ¬ tn = 1
          · refine iteFB (by rw [decV_int]; exact decide_eq_false c) ?_
            generalize hs : (List.cons (some (V.str u)) _ : L2.St) = σ'
            exact rest σ' H2 (hs ▸ sm_ (by omega) o2)
          refine iteTB (by rw [decV_int]; exact decide_eq_true (by omega)) ?_
          exact ⟨_, rfl, _, rfl, _, _, rfl, rfl, sz (by omega), rest _ H2 (sm_ (by rw [appL]; omega) (okT_app osn o2))⟩
        case jr =>
          rintro _ _ ⟨tl, rfl, h2, o2, rfl⟩
          refine' join2 (α := L2.St) (P := B42 a u sg hd sn i x at_ tn H2 (u.length - at_ + 2)) (fun rest => ?jm) ?jr
          case jm =>
            refine ⟨_, rfl, rfl, _, rfl, ?_⟩
            by_cases c : ¬ tn = 2
            · refine iteFB (by rw [decV_int]; exact decide_eq_false c) ?_
              generalize hs : (List.cons (some (V.str u)) _ : L2.St) = σ'
              exact rest σ' H2 (hs ▸ sm_ (by omega) o2)
            refine iteTB (by rw [decV_int]; exact decide_eq_true (by omega)) ?_
            have := cutL_from tl 1
            have e1 : (cutS tl (some (1 : Int)) none).length ≤ tl.length - 1 := this
            refine ⟨_, rfl, _, rfl, _, rfl, tl, rfl, sz (by omega), _, _, rfl, rfl, sz (by omega), rest _ H2 (sm_ (by rw [appL]; omega) (okT_app osn (okT_cut o2 _ _)))⟩
          case jr =>
            rintro _ _ ⟨tl, rfl, h2, o2, rfl⟩
            refine' join2 (α := L2.St) (P := B42 a u sg hd sn i x at_ tn H2 (u.length - at_ + 4)) (fun rest => ?jm) ?jr
            case jm =>
              refine ⟨_, rfl, rfl, _, rfl, ?_⟩
              by_cases c : ¬ tn = 3
              · refine iteFB (by rw [decV_int]; exact decide_eq_false c) ?_
                generalize hs : (List.cons (some (V.str u)) _ : L2.St) = σ'
                exact rest σ' H2 (hs ▸ sm_ (by omega) o2)
              refine iteTB (by rw [decV_int]; exact decide_eq_true (by omega)) ?_
              have e1 : (cutS tl (some (1 : Int)) (some (2 : Int))).length ≤ 1 := cutL_mid tl
              have e2 : (cutS tl none (some (1 : Int))).length ≤ 1 := (cutL_to tl 1).1
              have e3 : (cutS tl (some (2 : Int)) none).length ≤ tl.length - 2 := cutL_from tl 2
              refine ⟨_, rfl, _, rfl, _, rfl, tl, rfl, sz (by omega), _, rfl, _, rfl, tl, rfl, sz (by omega), _, _, rfl, rfl, sz (by omega), _, rfl, _, rfl, tl, rfl, sz (by omega), _, _, rfl, rfl, sz (by rw [appL]; omega), rest _ H2 (sm_ (by rw [appL, appL]; omega) (okT_app (okT_app (okT_cut o2 _ _) (okT_cut o2 _ _)) (okT_cut o2 _ _)))⟩
            case jr =>
              rintro _ _ ⟨tl, rfl, h2, o2, rfl⟩
              refine' join2 (α := L2.St) (P := B42 a u sg hd sn i x at_ tn H2 (u.length - at_ + 13)) (fun rest => ?jm) ?jr
              case jm =>
                refine ⟨_, rfl, rfl, _, rfl, ?_⟩
                by_cases c : ¬ tn = 4
                · refine iteFB (by rw [decV_int]; exact decide_eq_false c) ?_
                  generalize hs : (List.cons (some (V.str u)) _ : L2.St) = σ'
                  exact rest σ' H2 (hs ▸ sm_ (by omega) o2)
                refine iteTB (by rw [decV_int]; exact decide_eq_true (by omega)) ?_
                obtain ⟨r, er, hr9⟩ : ∃ r : Nat, 1 + x / 1000 % 9 = (r : Int) ∧ r ≤ 9 := ⟨(1 + x / 1000 % 9).toNat, by omega, by omega⟩
                have e2 := (cutL_to tl r).1
                refine ⟨_, rfl, _, rfl, x, 1000, rfl, rfl, ⟨by decide, by decide⟩, x / 1000, 9, rfl, rfl, (show (0 : Int) < 9 by decide), rdAdd er ⟨_, rfl, tl, rfl, sz (by omega), _, rfl, _, _, rfl, rfl, sz (by omega), rest _ H2 (sm_ (by rw [appL]; omega) (okT_app (okT_cut o2 _ _) o2))⟩⟩
              case jr =>
                rintro _ _ ⟨tl, rfl, h2, o2, rfl⟩
                refine' join2 (α := L2.St) (P := B42 a u sg hd sn i x at_ tn H2 (u.length - at_ + 13)) (fun rest => ?jm) ?jr
                case jm =>
                  refine ⟨_, rfl, rfl, _, rfl, ?_⟩
                  by_cases c : ¬ tn = 5
                  · refine iteFB (by rw [decV_int]; exact decide_eq_false c) ?_
                    generalize hs : (List.cons (some (V.str u)) _ : L2.St) = σ'
                    exact rest σ' H2 (hs ▸ sm_ (by omega) o2)
                  refine iteTB (by rw [decV_int]; exact decide_eq_true (by omega)) ?_
                  exact rest _ H2 (sm_ (show ("" : Str).length ≤ _ from Nat.le_trans (show ("" : Str).length ≤ 0 by decide +kernel) (Nat.zero_le _)) (fun c hc => by cases hc))
                case jr =>
                  rintro _ _ ⟨tl, rfl, h2, o2, rfl⟩
                  exact ⟨_, rfl, _, rfl, _, _, rfl, rfl, sz (by omega), _, _, _, _, _, _, _, hd ++ tl, _, rfl, by rw [appL]; omega, okT_app o1 o2, hd2, a2, og2⟩
    · obtain ⟨y3, y4, y5, y6, y7, y8, y9, u, ds', rfl, i1, ou, i2, i3, i4⟩ := hp
      exact ⟨by show (m : Int).toNat ≤ m; omega, _, rfl, ret H' u ds' (by omega) ou i2 i3 i4⟩
end
end Wa
namespace Wa
open PySem PySem.Spec PyProof.Rows L2
/-! a caught error kept as a value -/
def ExK (D a : Addr) : HO := .ext fun h => ∃ (oe : Obj) (vs : Array Value), h.get? a = some oe ∧ Zc (.ref D) none oe ∧ oe.data = .fields vs
theorem exK_ok {P : Program} {w : World} {H : Hp} {h : Heap} {a D : Addr} {oe : Obj} {vs : Array Value} (e : h.get? a = some oe) (z : Zc (.ref D) none oe) (d : oe.data = .fields vs) : ObjOk P w H h a (ExK D a) :=
  ⟨⟨oe, vs, e, z, d⟩, ⟨oe, e⟩, fun _ _ ⟨o, v, q, r⟩ k => ⟨o, v, k o q, r⟩⟩
theorem laidE {X : Cx} {pins : List (Addr × Obj)} {σ : L2.St} {H : Hp} {s : Shared} {a : Addr} {o : HO} (I : Inv X pins σ H s) (h0 : ∀ b u, X.s_0.heap.get? b = some u → b ∉ X.ex → b ≠ a) (na : H a = none) (nL : a ≠ X.env.locals) (nC : ∀ x c, X.env.cells.lookup x = some c → c ≠ a) (nP : ∀ p ∈ X.pn ++ pins, p.1 ≠ a)
    (new : ObjOk X.prog X.w (upd H a o) s.heap a o) : Inv X pins σ (upd H a o) s := by
  refine ⟨I.ok, I.os, I.bare, ⟨I.base.keep, I.base.slot, fun b u e n hx => ?_, I.base.there, fun b xs e => ?_, fun b u v e => ?_, fun b ps e => ?_⟩, I.loc, I.cell, ?_, fun x c e => ?_, fun p hp => ?_, I.hok.laidN (fun b u e => e) na new, I.len⟩
  · rw [upd_ne (h0 b u e hx)]; exact I.base.free b u e n hx
  · have q := I.base.tups b xs e
    rw [upd_ne (ne_of_none q na)]; exact q
  · have q := I.base.frzs b u v e
    rw [upd_ne (ne_of_none q na)]; exact q
  · obtain ⟨more, q⟩ := I.base.tbls b ps e
    exact ⟨more, by rw [upd_ne (ne_of_none q na)]; exact q⟩
  · rw [upd_ne nL.symm]; exact I.free
  · rw [upd_ne (nC x c e)]; exact I.freeC x c e
  · obtain ⟨p1, p2, p3⟩ := I.pin p hp
    exact ⟨p1, by rw [upd_ne (nP p hp)]; exact p2, p3⟩
/-- isinstance of an error that was kept -/
def rIsK (K : PySem.W.Frag) (D : Addr) : List V → Hp → VK → Prop := fun xs H Q => ∃ (a : Addr) (c : V) (cv : Value) (b : Bool), xs = [.ref a, c] ∧ H a = some (ExK D a) ∧ (∀ u, RelV c u → u = cv) ∧ PySem.W.kitOne K (.ref D) cv = some b ∧ Q (.bl b) H
theorem call_isK {X : Cx} {D : Addr} (C : ExcC X.K D) : CallR X (.builtin "isinstance") (rIsK X.K D) := by
  intro pins s σ H xs us Q I r h
  obtain ⟨a, c, cv, b, rfl, ha, hcv, e, q⟩ := h
  cases r with
  | cons rx rr =>
    cases rr with
    | cons rt rr =>
      cases rr
      cases rx
      have ec := hcv _ rt
      subst ec
      obtain ⟨⟨oe, vs, hget, hz, hv⟩, _⟩ := I.hok a _ ha
      have J : PySem.W.InstAt s.heap a oe D none := by
        obtain ⟨oc, od, oda, osl⟩ := oe
        obtain ⟨h1, h2⟩ := hz
        dsimp only at h1 h2 hv
        subst h1 h2 hv
        exact ⟨hget, rfl, rfl, trivial⟩
      exact PySem.W.kia_one (PySem.W.handS_kitx_exc C.hg C.hk C.hs C.hd C.ha C.hn C.ht C.hm) I.kIn J e (fun z => nomatch z) fun tk => ⟨.bl b, H, I.kept (t' := tk) fun _ _ z => z, rfl, q⟩
/-- try: body / except x as n: kept = n -/
def wKeep (K : PySem.W.Frag) (c : Value) (i j : Nat) (Wout : WX) (D : Ends) : WX := fun cls d σ H =>
  ∃ b, PySem.W.exmOne K cls c = some b ∧ (b = true → d = none ∧ ∃ C, cls = .ref C ∧ ∀ a, H a = none → D.nx ((σ.set j (some (.ref a))).set i none) (upd H a (ExK C a))) ∧ (b = false → Wout cls d σ H)
section
variable {X : Cx} {x n m : Str} {c : Value} {i j : Nat} {body : List Stmt} {np pos pos' pm pn' pa : Pos} {tb : WX → TS} {Wout : WX}
theorem ps_try_keep (hs : X.stack = X.env :: X.outer) (hf : X.env.frame = some X.env.locals) (hN : X.N.Nodup) (hi : X.N[i]? = some n) (hj : X.N[j]? = some m) (hij : i ≠ j) (hln : X.env.kindOf n = some .local) (hlm : X.env.kindOf m = some .local) (hc : Names X x c) (tk : Takes X Wout)
    (hb : ∀ (W : WX) (pn : List (Addr × Obj)) (xe : Value → Shared → Prop), Takes (X.tr pn xe) W → PassesOwn (model X.prog X.w) X.A X.env xe → PSs (X.tr pn xe) body (tb W))
    (hst : ∀ (a : Addr) (oe : Obj) (pn : List (Addr × Obj)), PS (X.suite a ((a, oe) :: pn)) (.Assign [.Name m pm] (.Name n pn') pa) (tAsg (tVar i) (gName j))) :
    PS X (.Try body [.ExceptHandler (some (.Name x np)) (some n) [.Assign [.Name m pm] (.Name n pn') pa] pos'] [] [] pos) (fun D σ H => tb (wKeep X.K c i j Wout D) D σ H) := by
  refine ⟨fun pins s σ H D I h => ?_⟩
  have ok := I.ok
  have hfr : X.A.frames = some (X.env :: X.outer) := by rw [ok.frames, hs]
  have hloc : Loc X.env.scope n := .inl hln
  refine wpAny_Try_except ?_
  refine wpAny_mono ((hb (wKeep X.K c i j Wout D) (X.pn ++ pins) (fun e s₁ => wpAny (model X.prog X.w) X.A (noteFrame e X.env) (fun _ s₂ => wpAny (model X.prog X.w) X.A (setFlight e none) (fun _ s₃ =>
    wpAny (model X.prog X.w) X.A (handleBy e X.env [.ExceptHandler (some (.Name x np)) (some n) [.Assign [.Name m pm] (.Name n pn') pa] pos']) (SP X pins D) X.xe s₃) X.xe s₂) X.xe s₁) (fun u s' xx => ?_) PassesOwn.looking).run [] s σ H D (I.toTry _) h) (fun f s1 hsp => ?_) (fun e s1 he => he)
  · -- the catch
    obtain ⟨a, B, sI, pins', σ', H', cls, d, rfl, J', nb, up, sky, na, os, ag, b, hb1, hyes, hno⟩ := xx
    have J : Inv X pins σ' H' sI := J'.ofTry ok
    have sky' : Sky B (X.env :: X.outer) a (Zc cls d) X.env.locals s'.heap := by rw [← hs]; exact sky
    show wpAny (model X.prog X.w) X.A (noteFrame (.ref a) X.env) _ _ _
    refine Sky.land Zc.steady hfr hf sky' fun h3 fl3 up3 => ?_
    have J3 : Inv X pins σ' H' { s' with heap := h3 } := J.landed nb fl3.1 (up.trans up3) os ag
    obtain ⟨oe3, vs3, he3, hz3, hd3⟩ := fl3.there
    have notFr : ∀ {h : Heap} {o : Obj} {vs : Array Value}, h.FunFrames B (X.env :: X.outer) → h.get? a = some o → o.data = .fields vs → a ∉ frs (X.env :: X.outer) := fun {h o vs} ff e dd hm => by
      obtain ⟨_, o', e', hnf⟩ := ff.mem hm
      rw [e] at e'; cases e'
      exact hnf _ dd
    have nfr := notFr fl3.2.2.1 he3 hd3
    have nL : a ≠ X.env.locals := fun z => nfr (List.mem_filterMap.mpr ⟨X.env, List.mem_cons_self, by rw [hf, z]⟩)
    have nF : a ∉ X.fs := fun hm => by
      obtain ⟨e, he, q⟩ := List.mem_filterMap.mp hm
      exact nfr (List.mem_filterMap.mpr ⟨e, List.mem_cons_of_mem _ he, q⟩)
    have Ba : B.get? a = none := fl3.2.1
    have sIa : sI.heap.get? a = none := by
      cases e : sI.heap.get? a with
      | none => rfl
      | some o =>
        have := nb a o e (by rw [hs]; exact nfr)
        rw [Ba] at this
        cases this
    have h0 : ∀ b u, X.s_0.heap.get? b = some u → b ∉ X.ex → b ≠ a := fun b u e hx z => by
      obtain ⟨o', q⟩ := J.base.there b u e hx
      rw [z, sIa] at q
      cases q
    have nP : ∀ p ∈ X.pn ++ pins, p.1 ≠ a := fun p hp z => by
      have := (J.pin p hp).1
      rw [z, sIa] at this
      cases this
    have S3 := J3.suite he3 hd3 na nL nF
    refine wpAny_handleBy_cons (codeAny_handlers_test ?_) (by intro q; cases q)
    have LT : PySem.W.Looks (model X.prog X.w) h3 (typeOf (.ref a)) cls := fun A Q E s k q => wpAny_typeOf_ref (k _ _ he3) (by rw [hz3.1]; exact q)
    have LM := PySem.W.exm_one (M := model X.prog X.w) (J3.kIn) LT hb1
    have test : ∀ {Q : Value → Shared → Prop} {E : Value → Shared → Prop}, Q c { s' with heap := h3 } → wpAny (model X.prog X.w) (X.A.mark (some (.ref a))) (eval (.Name x np) X.env) Q E { s' with heap := h3 } := fun {Q E} q => by
      obtain ⟨hg, hdbg, hm | ⟨hm, hv, hnn⟩⟩ := hc
      · exact ld_glob (X := X.suite a ((a, oe3) :: (X.pn ++ pins))) S3 hg hm q hdbg
      · exact ld_blt (X := X.suite a ((a, oe3) :: (X.pn ++ pins))) S3 hg hm hv q hnn hdbg
    refine test (LM.here ?_)
    cases b with
    | true =>
      obtain ⟨rfl, C, rfl, hy⟩ := hyes rfl
      refine codeAny_handlers_suite_as ?_
      refine HandSPX.lands_againZ fl3 fun h4 fl4 up4 => ?_
      have J4 : Inv X pins σ' H' { s' with heap := h4 } := J.landed nb fl4.1 ((up.trans up3).trans up4) os ag
      obtain ⟨oe4, vs4, he4, hz4, hd4⟩ := fl4.there
      have S4 := J4.suite he4 hd4 na nL nF
      refine store_ok (X := X.suite a ((a, oe4) :: (X.pn ++ pins))) (v := .ref a) S4 hN hi hloc rfl (fun s5 S5 => ?_) (.inr hln)
      have hlen : i < σ'.length := by
        have l1 := J4.len
        have := (List.getElem?_eq_some_iff.mp hi).1
        omega
      refine wpAny_mono ((pss_one (hst a oe4 (X.pn ++ pins))).run [] s5 _ H' { nx := fun σ6 H6 => σ6 = (σ'.set i (some (.ref a))).set j (some (.ref a)) ∧ H' = H6, rt := fun _ _ => False, bk := fun _ _ => False, ct := fun _ _ => False } S5 ⟨.ref a, by rw [List.getElem?_set_self hlen], rfl, rfl⟩) (fun f s6 hsp => ?_) (fun _ _ z => False.elim z)
      cases f with
      | next =>
        obtain ⟨σ6, H6, S6, rfl, rfl⟩ := hsp
        have he6 := (S6.pin (a, oe4) (List.mem_append.mpr (.inl List.mem_cons_self))).1
        have J6 : Inv X pins _ H' s6 := S6.unsuite ok
        have nC : ∀ y k, X.env.cells.lookup y = some k → k ≠ a := fun y k e z => by
          obtain ⟨v, o', q1, q2⟩ := J6.cell y k e
          rw [z, he6] at q1
          cases q1
          have : oe4.data = .cell v := by first | exact q2 | exact q2.1 | exact q2.2
          rw [hd4] at this
          cases this
        have J6' := laidE (o := ExK C a) J6 h0 na nL nC nP (exK_ok he6 hz4 hd4)
        refine gone_ok J6' hN hi hln fun s7 J7 => ⟨_, _, J7, ?_⟩
        have ec : ((σ'.set i (some (V.ref a))).set j (some (.ref a))).set i none = (σ'.set j (some (.ref a))).set i none := by
          apply List.ext_getElem?
          intro l
          simp only [List.getElem?_set]
          by_cases h1 : i = l
          · subst h1
            simp [hij.symm]
          · simp [h1]
        rw [ec]
        exact hy a na
      | brk => obtain ⟨_, _, _, z⟩ := hsp; exact z.elim
      | cont => obtain ⟨_, _, _, z⟩ := hsp; exact z.elim
      | ret u => obtain ⟨_, _, _, _, _, z⟩ := hsp; exact z.elim
    | false =>
      show wpAny _ X.A (handleBy (.ref a) X.env []) _ _ _
      refine wpAny_handleBy_nil ?_
      obtain ⟨k1, k2, k3, oe, vs, T, oT, ts', he, hz, hd, h1, hr⟩ := id fl3
      unfold PySem.passOn
      refine wpAny_bind (wpAny_field he hd h1 ?_)
      rw [if_neg (show ¬ ((Value.ref T == Value.none) = true) from by simp)]
      have fin : wpAny (model X.prog X.w) X.A (setFlight (.ref a) X.env.frame) (fun _ s4 => wpAny (model X.prog X.w) X.A (throw (.ref a) : Sem Flow) (SP X pins D) X.xe s4) X.xe { s' with heap := h3 } := by
        rw [hf]
        refine HandSPX.setFlight_upZ fl3 fun h4 hh4 up4 => wpAny_throw (tk _ _ ?_)
        exact ⟨a, B, sI, pins, σ', H', cls, d, rfl, J, nb, (up.trans up3).trans up4, .inr (.inr (by rw [hs]; exact hh4)), na, os, ag, hno rfl⟩
      first
        | exact wpAny_bind (wpAny_pure (wpAny_bind fin))
        | exact wpAny_bind fin
  · cases f with
    | next =>
      obtain ⟨σ', H', J', q⟩ := hsp
      exact wpAny_execs_nil ⟨σ', H', J'.ofTry ok, q⟩
    | brk =>
      obtain ⟨σ', H', J', q⟩ := hsp
      exact ⟨σ', H', J'.ofTry ok, q⟩
    | cont =>
      obtain ⟨σ', H', J', q⟩ := hsp
      exact ⟨σ', H', J'.ofTry ok, q⟩
    | ret u =>
      obtain ⟨v, σ', H', J', r, q⟩ := hsp
      exact ⟨v, σ', H', J'.ofTry ok, r, q⟩
end
end Wa
namespace Wa
open PySem PySem.Spec PyProof.Rows L2
/-- what is known of the classes that are told apart: T is raised -/
structure Only (K : PySem.W.Frag) (mg : Str → Option Value) (T L S W N A : Addr) : Prop where
  gT : mg "NoText" = some (.ref T)
  gL : mg "NoLine" = some (.ref L)
  gS : mg "NoSize" = some (.ref S)
  gW : mg "NoWord" = some (.ref W)
  gN : mg "Near" = some (.ref N)
  gA : mg "ApartError" = some (.ref A)
  gV : mg "ValueError" = none
  iT : PySem.W.kitOne K (.ref T) (.ref T) = some true
  iL : PySem.W.kitOne K (.ref T) (.ref L) = some false
  iS : PySem.W.kitOne K (.ref T) (.ref S) = some false
  iW : PySem.W.kitOne K (.ref T) (.ref W) = some false
  iN : PySem.W.kitOne K (.ref T) (.ref N) = some false
  iV : PySem.W.kitOne K (.ref T) (.type "ValueError") = some true
  xA : PySem.W.exmOne K (.ref T) (.ref A) = some true
  c : ExcC K T
end Wa
namespace PySem.W
open PySem PySem.Spec PySem.Calls PyProof.Rows
theorem kit_self {K : Frag} (T : Addr) : kitOne K (.ref T) (.ref T) = some true := if_pos (beq_self_eq_true _)
theorem kit_not {K : Frag} {T C : Addr} {b : Bool} (hne : (Value.ref T == Value.ref C) = false) (hd : hasDictIn K C = true) (ht : typeIn K (.ref C) = some (.type "type")) (hs : subIn K (.ref T) (.ref C) = some b) : kitOne K (.ref T) (.ref C) = some b := by
  obtain ⟨cd, hc, _⟩ := any_some hd
  have e : ((clsIn K C).isSome && typeIn K (.ref C) == some (.type "type")) = true := by rw [hc, ht] <;> rfl
  unfold kitOne
  rw [if_neg (by rw [hne]; exact Bool.false_ne_true)]
  show (if ((clsIn K C).isSome && typeIn K (.ref C) == some (.type "type")) = true then subIn K (.ref T) (.ref C) else none) = some b
  rw [if_pos e]
  exact hs
theorem kit_val {K : Frag} {T : Addr} {b : Bool} (hs : subIn K (.ref T) (.type "ValueError") = some b) : kitOne K (.ref T) (.type "ValueError") = some b := by
  unfold kitOne
  rw [if_neg (show ¬ ((Value.ref T == Value.type "ValueError") = true) from fun z => by cases z)]
  show (if kitMeta "ValueError" = true then subIn K (.ref T) (.type "ValueError") else none) = some b
  rw [if_pos (by decide +kernel)]
  exact hs
end PySem.W
namespace Wa
open PySem PySem.Spec PyProof.Rows L2
abbrev nLOnly : List Str := ["_law_error", "_law_found"]
theorem scLOnly : FnScope nLOnly ["_law_error"] (defScope sLOnly) := ⟨rfl, rfl, rfl, by decide +kernel, rfl, by decide +kernel, by decide +kernel⟩
def dbs (bs : List Bool) : PyData := .list (bs.map PyData.bool)
theorem dp_bs {K : PySem.W.Frag} {H : Hp} : ∀ (bs : List Bool), DpAll K H (bs.map V.bl) (bs.map PyData.bool)
  | [] => .nil
  | b :: r => .cons (.bl b) (dp_bs r)
def spLOnly (C : Addr) : Sp := fun vs H Q _ => ∃ (a : Addr), vs = [.ref a] ∧ H a = some (ExK C a) ∧ ∀ H', Gr H H' → Q (.bl true) H'
section
variable {P : Program} {w : World} {K : PySem.W.Frag} {mg : Str → Option Value} {base : Heap}
theorem ok_LOnly {fLOnly  CNoText  CNoLine  CNoSize  CNoWord  CNear  CApartError : Addr} {fdLOnly : FuncData} {k : Nat} (dLOnly : Df K mg "_law_only" sLOnly ["_law_error"] fLOnly fdLOnly)
    (only : Only K mg CNoText CNoLine CNoSize CNoWord CNear CApartError)
     (mi : mg "isinstance" = none) :
    FnOk P w K mg base CX0 (k + 1) fLOnly fdLOnly ["_law_error"] (spLOnly CNoText) := by
  refine dLOnly.F.ok scLOnly (fun vs H Q E h => ?_) (fun cdv A outer s H vs Q E hr h => ?_)
  · obtain ⟨a, rfl, _⟩ := h
    rfl
  · obtain ⟨a, rfl, ha, ret⟩ := h
    refine ⟨_, pss_cons (ps_set (i := 1) scLOnly.nd rfl (.inl rfl) (pe_lst (pa_cons (pe_callB (id := "isinstance") (r := rIsK K CNoText) (call_isK only.c) (by rfl) mi (by decide +kernel) (pa_cons (pv 0) (pa_cons (pe_glob (v := .ref CNoText) rfl only.gT rfl) pa_nil))) (pa_cons (pe_callB (id := "isinstance") (r := rIsK K CNoText) (call_isK only.c) (by rfl) mi (by decide +kernel) (pa_cons (pv 0) (pa_cons (pe_glob (v := .ref CNoLine) rfl only.gL rfl) pa_nil))) (pa_cons (pe_callB (id := "isinstance") (r := rIsK K CNoText) (call_isK only.c) (by rfl) mi (by decide +kernel) (pa_cons (pv 0) (pa_cons (pe_glob (v := .ref CNoSize) rfl only.gS rfl) pa_nil))) pa_nil)))))
      (pss_cons (ps_set (i := 1) scLOnly.nd rfl (.inl rfl) (pe_op op_cat (pv 1) (pe_lst (pa_cons (pe_callB (id := "isinstance") (r := rIsK K CNoText) (call_isK only.c) (by rfl) mi (by decide +kernel) (pa_cons (pv 0) (pa_cons (pe_glob (v := .ref CNoWord) rfl only.gW rfl) pa_nil))) (pa_cons (pe_callB (id := "isinstance") (r := rIsK K CNoText) (call_isK only.c) (by rfl) mi (by decide +kernel) (pa_cons (pv 0) (pa_cons (pe_glob (v := .ref CNear) rfl only.gN rfl) pa_nil))) (pa_cons (pe_callB (id := "isinstance") (r := rIsK K CNoText) (call_isK only.c) (by rfl) mi (by decide +kernel) (pa_cons (pv 0) (pa_cons (pe_bltn (v := .ty "ValueError") (by rfl) only.gV (by decide +kernel) rfl) pa_nil))) pa_nil))))))
      (pss_one (ps_ret (pe_cmpR (op_eqD hr.units) (pv 1) (pe_lst (pa_cons (pe_bl) (pa_cons (pe_bl) (pa_cons (pe_bl) (pa_cons (pe_bl) (pa_cons (pe_bl) (pa_cons (pe_bl) pa_nil))))))) (nomark _))))), ?_⟩
    refine ⟨_, rfl, a, _, .ref CNoText, true, rfl, ha, (fun u r => r), only.iT, _, rfl, a, _, .ref CNoLine, false, rfl, ha, (fun u r => r), only.iL, _, rfl, a, _, .ref CNoSize, false, rfl, ha, (fun u r => r), only.iS, (show 3 ≤ sizeLine by decide), fun p np => ?_⟩
    generalize hU1 : upd _ _ _ = H1
    have g1 : Gr H H1 := by rw [← hU1]; exact (Gr.refl _).new np
    have ha1 : H1 a = some (ExK CNoText a) := g1.keep _ _ ha fun _ z => by cases z
    refine ⟨_, rfl, _, rfl, a, _, .ref CNoWord, false, rfl, ha1, (fun u r => r), only.iW, _, rfl, a, _, .ref CNear, false, rfl, ha1, (fun u r => r), only.iN, _, rfl, a, _, .type "ValueError", true, rfl, ha1, (fun u r => r), only.iV, (show 3 ≤ sizeLine by decide), fun z nz => ?_⟩
    generalize hU2 : upd _ _ _ = H2
    have g2 : Gr H1 H2 := by rw [← hU2]; exact (Gr.refl _).new nz
    refine ⟨p, z, _, _, rfl, rfl, g2.lst (at_same hU1), at_same hU2, (show 3 + 3 ≤ sizeLine by decide), fun c nc => ?_⟩
    generalize hU3 : upd _ _ _ = H3
    have g3 : Gr H2 H3 := by rw [← hU3]; exact (Gr.refl _).new nc
    refine ⟨_, rfl, (show 6 ≤ sizeLine by decide), fun e ne => ?_⟩
    generalize hU4 : upd _ _ _ = H4
    have g4 : Gr H3 H4 := by rw [← hU4]; exact (Gr.refl _).new ne
    have ec : H4 c = some (.lst ([true, false, false, false, false, true].map V.bl)) := g4.lst (at_same hU3)
    have ee : H4 e = some (.lst ([true, false, false, false, false, true].map V.bl)) := at_same hU4
    have sh : SeqAt.shaped (dbs [true, false, false, false, false, true]) = true := (nice_list (n := 0) fun d hd => by
      obtain ⟨b, _, rfl⟩ := List.mem_map.mp hd
      exact ⟨rfl, Nat.zero_le _⟩).shaped (by decide)
    refine ⟨dbs [true, false, false, false, false, true], dbs [true, false, false, false, false, true], .lst (sq ec) (dp_bs _), .lst (sq ee) (dp_bs _), sh, sh, ?_⟩
    have e1 : PyData.eqv (dbs [true, false, false, false, false, true]) (dbs [true, false, false, false, false, true]) = true := by decide +kernel
    rw [e1]
    exact ret H4 (g1.trans (g2.trans (g3.trans g4)))
end
end Wa
namespace Wa
open PySem PySem.Spec PyProof.Rows L2
/-! a paper read by the law's own words -/
theorem spl_mem (S : List Nat) : ∀ (l : List Nat) (k : Nat) (acc : List Nat), ∀ p ∈ TL.spl S k acc l, ∀ c ∈ p, c ∈ acc ∨ c ∈ l
  | [], k, acc, p, hp, c, hc => by
    rw [TL.spl_nil] at hp
    rw [List.mem_singleton.mp hp] at hc
    exact .inl hc
  | d :: r, 0, acc, p, hp, c, hc => by
    cases e : TL.pre S (d :: r) with
    | true =>
      rw [TL.spl_hit e] at hp
      rcases List.mem_cons.mp hp with z | z
      · rw [z] at hc; exact .inl hc
      · rcases spl_mem S r _ [] p z c hc with h | h
        · cases h
        · exact .inr (List.mem_cons_of_mem _ h)
    | false =>
      rw [TL.spl_miss e] at hp
      rcases spl_mem S r 0 (acc ++ [d]) p hp c hc with h | h
      · rcases List.mem_append.mp h with h | h
        · exact .inl h
        · rw [List.mem_singleton.mp h]; exact .inr List.mem_cons_self
      · exact .inr (List.mem_cons_of_mem _ h)
  | d :: r, k + 1, acc, p, hp, c, hc => by
    rcases spl_mem S r k acc p hp c hc with h | h
    · exact .inl h
    · exact .inr (List.mem_cons_of_mem _ h)
theorem split_okT {z y t : Str} (hy : TL.tl y ≠ []) (hk : y.cps.all (· < 256) = true) (hz : okT z) (h : t ∈ Txt.split z y) : okT t := fun c hc => by
  have e := TL.split_spl z y hy (TL.kind_ok hk)
  have := spl_mem (TL.tl y) (TL.tl z) 0 [] (TL.tl t) (by rw [← e]; exact List.mem_map.mpr ⟨t, h, rfl⟩) c hc
  rcases this with h | h
  · cases h
  · exact hz c h
theorem prt_okT {z t : Str} (hz : okT z) (h : t ∈ prt z) : okT t := by
  unfold prt at h
  split at h
  · cases h
  · exact split_okT (by rw [blank_tl]; simp) blank_lo hz h
theorem eqv_nil (ds : List PyData) : PyData.eqv (.list ds) (.list []) = ds.isEmpty := by cases ds <;> rfl
theorem dp_sg {K : PySem.W.Frag} {H : Hp} : ∀ (cs : List Nat), DpAll K H (cs.map fun c => V.str ⟨#[c]⟩) (cs.map fun c => PyData.str ⟨#[c]⟩)
  | [] => .nil
  | c :: r => .cons (.str _) (dp_sg r)
theorem nice_sg (cs : List Nat) (h : ∀ c ∈ cs, c < 0x110000) : Nice 1 (.list (cs.map fun c => PyData.str ⟨#[c]⟩)) := nice_list fun d hd => by
  obtain ⟨c, hc, rfl⟩ := List.mem_map.mp hd
  exact ⟨okT_str (z := ⟨#[c]⟩) (fun e he => by rw [List.mem_singleton.mp (show e ∈ [c] from he)]; exact h c hc), Nat.zero_le _⟩
theorem par_acc (S : List Nat) : ∀ (l acc : List Nat), TL.par S acc l = (TL.par S [] l).map fun ab => (acc ++ ab.1, ab.2)
  | [], acc => rfl
  | c :: r, acc => by
    cases e : TL.pre S (c :: r) with
    | true => rw [TL.par_hit e, TL.par_hit e, Option.map_some, List.append_nil]
    | false =>
      rw [TL.par_miss e, TL.par_miss e, par_acc S r (acc ++ [c]), par_acc S r ([] ++ [c])]
      cases TL.par S [] r with
      | none => rfl
      | some ab =>
        simp only [Option.map_some, List.nil_append, List.append_assoc]
theorem par_some (S : List Nat) : ∀ (l acc a b : List Nat), TL.par S acc l = some (a, b) → acc ++ l = a ++ S ++ b
  | [], acc, a, b, h => by cases h
  | c :: r, acc, a, b, h => by
    cases e : TL.pre S (c :: r) with
    | true =>
      rw [TL.par_hit e] at h
      cases h
      have e2 : (c :: r).take S.length = S := beq_iff_eq.mp e
      rw [List.append_assoc]
      congr 1
      have := (List.take_append_drop S.length (c :: r)).symm
      rw [e2] at this
      exact this
    | false =>
      rw [TL.par_miss e] at h
      have := par_some S r _ a b h
      rw [← this, List.append_assoc]
      rfl
theorem part_cases {z y : Str} (hy : TL.tl y ≠ []) : (∃ a b : Str, Txt.partition z y = (a, y, b) ∧ TL.tl z = TL.tl a ++ TL.tl y ++ TL.tl b ∧ TL.par (TL.tl y) [] (TL.tl z) = some (TL.tl a, TL.tl b)) ∨ (Txt.partition z y = (z, Str.empty, Str.empty) ∧ TL.par (TL.tl y) [] (TL.tl z) = none) := by
  rw [TL.partition_par z y hy]
  cases e : TL.par (TL.tl y) [] (TL.tl z) with
  | none => exact .inr ⟨rfl, rfl⟩
  | some ab =>
    obtain ⟨a, b⟩ := ab
    have h := par_some _ _ _ _ _ e
    exact .inl ⟨⟨a.toArray⟩, ⟨b.toArray⟩, rfl, h, rfl⟩
def w6 : Str := "waves "
theorem w6_tl : TL.tl w6 = [119, 97, 118, 101, 115, 32] := by decide +kernel
theorem col_tl : TL.tl colS = [58, 32] := by decide +kernel
theorem wav_tl : TL.tl wavS = [119, 97, 118, 101, 115] := by decide +kernel
theorem cut_to6 (z : Str) : TL.tl (cutS z none (some 6)) = (TL.tl z).take 6 := by
  show ((z.cps.toList.drop (HT.sIx z.length 0 none)).take (HT.sIx z.length z.length (some ((6 : Nat) : Int)) - HT.sIx z.length 0 none)) = _
  rw [HT.sIx_none, HT.sIx_nat, List.drop_zero, Nat.sub_zero]
  have e : z.length = z.cps.toList.length := TL.len_tl z
  rw [e]
  exact (List.take_eq_take_min ..).symm
theorem cut_from6 (z : Str) : TL.tl (cutS z (some 6) none) = (TL.tl z).drop 6 := by
  show ((z.cps.toList.drop (HT.sIx z.length 0 (some ((6 : Nat) : Int)))).take (HT.sIx z.length z.length none - HT.sIx z.length 0 (some ((6 : Nat) : Int)))) = _
  rw [HT.sIx_none, HT.sIx_nat]
  have e : z.length = z.cps.toList.length := TL.len_tl z
  rw [e]
  show _ = z.cps.toList.drop 6
  rw [List.take_of_length_le (by rw [List.length_drop]; omega)]
  rcases Nat.le_total 6 z.cps.toList.length with h | h
  · rw [Nat.min_eq_left h]
  · rw [Nat.min_eq_right h, List.drop_length, List.drop_eq_nil_of_le h]
/-- the law's reading of an inmost paper -/
def rdL (z : Str) : Option Pap :=
  if z = "one" then some .one else if z = "all" then some .all else if z = "balls" then some .balls else
  let f := Txt.partition (cutS z (some 6) none) colS
  if cutS z none (some 6) ≠ w6 ∨ f.2.1 = "" then none else
  match numIn f.1 60, (prt f.2.2).mapM (numIn · 60) with
  | some t, some rs => some (.waves t rs)
  | _, _ => none
theorem col_ne : ¬ colS = "" := by decide +kernel
theorem numIn_empty : numIn Str.empty 60 = none := by decide +kernel
theorem rdL_eq (z : Str) : rdL z = rdIn z := by
  unfold rdL rdIn
  by_cases h1 : z = "one"
  · rw [if_pos h1, if_pos h1]
  rw [if_neg h1, if_neg h1]
  by_cases h2 : z = "all"
  · rw [if_pos h2, if_pos h2]
  rw [if_neg h2, if_neg h2]
  by_cases h3 : z = "balls"
  · rw [if_pos h3, if_pos h3]
  rw [if_neg h3, if_neg h3]
  have hc : TL.tl colS ≠ [] := by rw [col_tl]; simp
  have hb : TL.tl blank ≠ [] := by rw [blank_tl]; simp
  by_cases hw : cutS z none (some 6) = w6
  · have ez : TL.tl z = TL.tl w6 ++ TL.tl (cutS z (some 6) none) := by
      rw [← hw, cut_to6, cut_from6, List.take_append_drop]
    generalize cutS z (some 6) none = t at ez
    have epar : TL.par (TL.tl colS) [] (TL.tl z) = (TL.par (TL.tl colS) [] (TL.tl t)).map fun ab => (TL.tl w6 ++ ab.1, ab.2) := by
      rw [← par_acc, ez, w6_tl, col_tl]
      rfl
    rcases part_cases (z := t) hc with ⟨a, b, ep, et, eq⟩ | ⟨ep, eq⟩
    · rw [eq, Option.map_some] at epar
      have ef : Txt.partition z colS = (w6 ++ a, colS, b) := by
        rcases part_cases (z := z) hc with ⟨a', b', ep', et', eq'⟩ | ⟨ep', eq'⟩
        · rw [epar] at eq'
          injection eq' with q
          injection q with q1 q2
          have e1 : a' = w6 ++ a := str_ext (by rw [str_app]; exact q1.symm)
          have e2 : b' = b := str_ext q2.symm
          rw [ep', e1, e2]
        · rw [epar] at eq'
          cases eq'
      have eg : Txt.partition (w6 ++ a) blank = (wavS, blank, a) := by
        have e : w6 ++ a = wavS ++ blank ++ a := by
          apply str_ext
          rw [str_app, str_app, str_app]
          rfl
        rw [e]
        exact TL.partition_app (s := 32) (S := []) blank_tl (by rw [wav_tl]; decide)
      rw [ep, ef]
      simp only
      rw [eg]
      simp only
      rw [if_neg (fun w => w.elim (fun w => w hw) fun w => col_ne w), if_neg (fun w => w.elim (fun w => col_ne w) fun w => w rfl)] <;> rfl
    · rw [eq] at epar
      have ef : Txt.partition z colS = (z, Str.empty, Str.empty) := by
        rcases part_cases (z := z) hc with ⟨a', b', ep', et', eq'⟩ | ⟨ep', eq'⟩
        · rw [epar] at eq'; cases eq'
        · exact ep'
      rw [ep, ef]
      simp only
      rw [if_pos (.inr rfl), if_pos (.inl rfl)]
  · simp only
    rw [if_pos (.inl hw)]
    by_cases hx : (Txt.partition z colS).2.1 = "" ∨ (Txt.partition (Txt.partition z colS).1 blank).1 ≠ wavS
    · rw [if_pos hx]
    · rw [if_neg hx]
      rcases part_cases (z := z) hc with ⟨a, b, ep, et, eq⟩ | ⟨ep, eq⟩
      · rw [ep] at hx ⊢
        simp only at hx ⊢
        rcases part_cases (z := a) hb with ⟨a', b', ep', et', eq'⟩ | ⟨ep', eq'⟩
        · rw [ep'] at hx ⊢
          exfalso
          have ea : a' = wavS := Classical.not_not.mp fun w => hx (.inr w)
          refine hw (str_ext ?_)
          show TL.tl (cutS z none (some 6)) = TL.tl w6
          rw [cut_to6, et, et', ea, wav_tl, blank_tl, w6_tl]
          rfl
        · rw [ep', numIn_empty]
      · rw [ep] at hx
        exact absurd (.inl rfl) hx
theorem rdL_some {z : Str} (h : ¬ z ∈ plains) : rdIn z = (if cutS z none (some 6) ≠ w6 ∨ (Txt.partition (cutS z (some 6) none) colS).2.1 = "" then none else
    match numIn (Txt.partition (cutS z (some 6) none) colS).1 60, (prt (Txt.partition (cutS z (some 6) none) colS).2.2).mapM (numIn · 60) with
    | some t, some rs => some (.waves t rs)
    | _, _ => none) := by
  have n1 : z ≠ "one" ∧ z ≠ "all" ∧ z ≠ "balls" := ⟨fun e => h (by rw [e]; decide +kernel), fun e => h (by rw [e]; decide +kernel), fun e => h (by rw [e]; decide +kernel)⟩
  rw [← rdL_eq]
  unfold rdL
  rw [if_neg n1.1, if_neg n1.2.1, if_neg n1.2.2]
theorem part_okT {z y : Str} (hy : TL.tl y ≠ []) (hz : okT z) : okT (Txt.partition z y).1 ∧ okT (Txt.partition z y).2.2 := by
  have e0 : okT Str.empty := fun c hc => by cases hc
  rcases part_cases (z := z) hy with ⟨a, b, ep, et, eq⟩ | ⟨ep, eq⟩
  · rw [ep]
    refine ⟨fun c hc => hz c ?_, fun c hc => hz c ?_⟩
    · show c ∈ TL.tl z
      rw [et, List.append_assoc]
      exact List.mem_append_left _ hc
    · show c ∈ TL.tl z
      rw [et]
      exact List.mem_append_right _ hc
  · rw [ep]
    exact ⟨hz, e0⟩
theorem sIx_neg (n d : Nat) : HT.sIx n d (some (-1)) = n - 1 := by
  show (if (-1 : Int) < 0 then (-1 + (n : Int)).toNat else min (-1 : Int).toNat n) = n - 1
  rw [if_pos (by decide)]
  omega
theorem cut_init {α : Type} (f : α → V) (xs : List α) : cutV (xs.map f) none (some (-1)) = xs.dropLast.map f := by
  unfold cutV
  rw [HT.sIx_none, List.drop_zero, Nat.sub_zero, ← List.map_take, List.dropLast_eq_take, List.length_map, sIx_neg]
theorem flat_opt (l : List (Option Int)) : (l.map optI).all flatV = true := by
  rw [List.all_eq_true]
  intro x hx
  obtain ⟨o, _, rfl⟩ := List.mem_map.mp hx
  cases o <;> rfl
theorem in_opt (l : List (Option Int)) : inV .non (l.map optI) = decide (none ∈ l) := by
  have key : inV .non (l.map optI) = true ↔ none ∈ l := by
    unfold inV
    rw [List.any_map, List.any_eq_true]
    constructor
    · rintro ⟨o, ho, e⟩
      cases o with
      | none => exact ho
      | some n => cases e
    · intro h
      exact ⟨none, h, rfl⟩
  rw [Bool.eq_iff_iff, decide_eq_true_eq]
  exact key
theorem mapM_nones {α : Type} {f : α → Option Int} : ∀ {l : List α}, none ∈ l.map f → l.mapM f = none
  | [], h => by cases h
  | x :: l, h => by
    rw [List.mapM_cons]
    cases e : f x with
    | none => rfl
    | some y =>
      rw [List.map_cons, e] at h
      rcases List.mem_cons.mp h with w | w
      · cases w
      · rw [mapM_nones w]
        rfl
theorem mapM_full {α : Type} {f : α → Option Int} : ∀ {l : List α}, none ∉ l.map f → ∃ rs, l.mapM f = some rs ∧ (l.map f).map optI = rs.map V.int
  | [], _ => ⟨[], rfl, rfl⟩
  | x :: l, h => by
    rw [List.map_cons] at h
    cases e : f x with
    | none => rw [e] at h; exact absurd List.mem_cons_self h
    | some y =>
      obtain ⟨rs, e1, e2⟩ := mapM_full (l := l) fun w => h (List.mem_cons_of_mem _ w)
      refine ⟨y :: rs, by rw [List.mapM_cons, e, e1]; rfl, ?_⟩
      rw [List.map_cons, List.map_cons, e2, e]
      rfl
theorem mapM_rev {ms : List Str} {ks : List Mk} (h : ms.reverse.mapM mkOf = some ks) : ms.mapM mkOf = some ks.reverse := by
  have e := mapM_mk h
  have e2 : ms = ks.reverse.map Mk.s := by rw [List.map_reverse, ← e, List.reverse_reverse]
  rw [e2]
  exact mapM_some fun m _ => mk_of m
end Wa
namespace Wa
open PySem PySem.Spec PyProof.Rows L2
abbrev nLNumIn : List Str := ["_law_text", "_law_sign"]
theorem scLNumIn : FnScope nLNumIn ["_law_text"] (defScope sLNumIn) := ⟨rfl, rfl, rfl, by decide +kernel, rfl, by decide +kernel, by decide +kernel⟩
def spLNumIn : Sp := fun vs H Q _ => ∃ (z : Str), vs = [.str z] ∧ z.length ≤ 15000000 ∧ okT z ∧ ∀ H', Gr H H' → Q (optI (numIn z 60)) H'
section
variable {P : Program} {w : World} {K : PySem.W.Frag} {mg : Str → Option Value} {base : Heap}
theorem ok_LNumIn {fLNumIn : Addr} {fdLNumIn : FuncData} {k : Nat} (dLNumIn : Df K mg "_law_number_in" sLNumIn ["_law_text"] fLNumIn fdLNumIn)
     (mint : mg "int" = none) (ml : mg "len" = none) :
    FnOk P w K mg base CX0 (k + 1) fLNumIn fdLNumIn ["_law_text"] (spLNumIn) := by
  refine dLNumIn.F.ok scLNumIn (fun vs H Q E h => ?_) (fun cdv A outer s H vs Q E hr h => ?_)
  · obtain ⟨z, rfl, _⟩ := h
    rfl
  · obtain ⟨z, rfl, hz, oz, ret⟩ := h
    refine ⟨_, pss_cons (ps_if (PW.pt (pw_or (pt_cmpR op_eq (pv 0) (pe_str) (nomark _)) (pw_or (pt_cmpR op_gt (pe_callB call_len_str (by rfl) ml (PySem.boot_len) (pa_cons (pv 0) pa_nil)) (pe_int) (nomark _)) (pw_or1 (pt_cmpR (op_neD hr.units) (pe_lc (own := [("_law_sign", 1)]) (g := gName 1) (tt := tTest (tOp (_) (tVar 1) (tC (.str ("0123456789" : Str))))) (te := tVar 1) rfl scLNumIn.nd (pi_str (pv 0)) (blkOk_by (own := [("_law_sign", 1)]) (N := nLNumIn) (sc := defScope sLNumIn) (by decide +kernel)) (fun _ _ _ _ _ => pg_name (i := 1) scLNumIn.nd rfl (.inl rfl)) (fun _ _ _ _ _ => pts_one (pt_cmpR op_notIn_sign (pv 1) (pe_str) (by rfl))) (fun _ _ _ _ _ => pv 1)) (pe_lst pa_nil) (nomark _)))))) (pss_one (ps_ret (pe_non))) pss_nil)
      (pss_cons (ps_if (PW.pt (pw_and (pt_cmpR op_eq (pe_item_str (pv 0) (pe_int) (fun _ _ => rfl)) (pe_str) (nomark _)) (pw_and1 (pt_cmpR op_ne (pv 0) (pe_str) (nomark _))))) (pss_one (ps_ret (pe_non))) pss_nil)
      (pss_one (ps_ret (pe_callTy call_int_str (by rfl) mint (by decide +kernel) (pa_cons (pv 0) pa_nil))))), ?_⟩
    unfold numIn at ret
    have no : ∀ H', Gr H H' → ((decide (1 ≤ z.length) && decide (z.length ≤ 60)) && z.cps.toList.all isFig) = false → Q .non H' := fun H' g e => by
      have r := ret H' g
      rw [if_neg (by rw [e]; exact Bool.false_ne_true)] at r
      exact r
    refine ⟨_, rfl, rfl, _, rfl, ?_⟩
    rw [decV_str]
    by_cases e0 : z = ""
    · refine iteTB (decide_eq_true e0) (iteT ?_)
      refine no H (Gr.refl _) ?_
      rw [e0]
      decide +kernel
    refine iteFB (decide_eq_false e0) ?_
    have h1 : 1 ≤ z.length := by
      refine Nat.one_le_iff_ne_zero.mpr fun q => e0 (str_ext ?_)
      rw [TL.len_tl] at q
      have : z.cps.toList = [] := List.length_eq_zero_iff.mp q
      rw [this]
      decide +kernel
    refine ⟨_, rfl, z, rfl, sz (by omega), _, _, rfl, rfl, _, rfl, ?_⟩
    by_cases h2 : z.length ≤ 60
    case neg =>
      refine iteTB (decide_eq_true (by omega)) (iteT ?_)
      exact no H (Gr.refl _) (by rw [decide_eq_false h2, Bool.and_false, Bool.false_and])
    refine iteFB (decide_eq_false (by omega)) ?_
    refine ⟨_, rfl, z, rfl, fun D nD => ?_⟩
    refine lcH (handsL_txt z) (fun c => !isFig c) (fun c => .str ⟨#[c]⟩) nD (by rw [Array.length_toList]; show z.length ≤ _; omega) (fun c Hx Y N hc g hy hn => ?_) (fun H4 g4 e4 => ?_)
    · refine ⟨rfl, _, rfl, c, figs, rfl, rfl, _, rfl, ?_⟩
      rw [figs_mem]
      exact ite2 (fun e => ⟨_, rfl, hy e Hx (Gr.refl _)⟩) (fun e => hn (Bool.eq_false_iff.mpr e) Hx (Gr.refl _))
    refine ⟨Nat.zero_le _, fun z5 n5 => ?_⟩
    generalize hU5 : upd _ _ _ = H5
    have g5 : Gr H4 H5 := by rw [← hU5]; exact (Gr.refl _).new n5
    have g15 := g4.trans g5
    refine ⟨_, .list [], .lst (sq (g5.lst e4)) (dp_sg _), .lst (sq (at_same hU5)) .nil, (nice_sg _ fun c hc => oz c (List.mem_filter.mp hc).1).shaped (by decide), (nice_list (n := 0) (ds := []) fun d hd => by cases hd).shaped (by decide), _, rfl, ?_⟩
    rw [eqv_nil]
    cases h3 : z.cps.toList.all isFig with
    | false =>
      have e3 : ((z.cps.toList.filter fun c => !isFig c).map fun c => PyData.str ⟨#[c]⟩).isEmpty = false := by
        rw [Bool.eq_false_iff]
        intro q
        rw [List.isEmpty_iff, List.map_eq_nil_iff, List.filter_eq_nil_iff] at q
        have : z.cps.toList.all isFig = true := List.all_eq_true.mpr fun c hc => by
          have := q c hc
          cases hd : isFig c with
          | true => rfl
          | false => rw [hd] at this; exact absurd rfl this
        rw [this] at h3
        cases h3
      refine iteTB (by rw [e3]; rfl) ?_
      exact no H5 g15 (by rw [h3, Bool.and_false])
    | true =>
      have ha := List.all_eq_true.mp h3
      have e3 : (z.cps.toList.filter fun c => !isFig c) = [] := List.filter_eq_nil_iff.mpr fun c hc w => by
        rw [ha c hc] at w
        cases w
      refine iteFB (by rw [e3]; rfl) ?_
      have r := ret H5 g15
      rw [decide_eq_true h1, decide_eq_true h2, h3, if_pos (by rfl)] at r
      have len : z.cps.toList.length = z.length := (TL.len_tl z).symm
      cases hd : z.cps.toList with
      | nil => rw [hd] at len; simp at len; omega
      | cons c cs =>
        have hc0 : z.cps[0]? = some c := by rw [← Array.getElem?_toList, hd]; rfl
        rw [hd] at r
        refine ⟨_, rfl, z, 0, c, rfl, rfl, by decide, by decide, by omega, hc0, rfl, _, rfl, ?_⟩
        have hv : intText? z = some ((NumText.digitsVal (c :: cs) : Nat) : Int) := by
          rw [← hd]
          refine intText_digits (fun x hx => ?_) (by rw [hd]; simp) (by omega)
          have := ha x hx
          unfold isFig at this
          rw [Bool.and_eq_true] at this
          exact ⟨of_decide_eq_true this.1, of_decide_eq_true this.2⟩
        have fin : ¬ (some c = some 48 ∧ z ≠ zeroS) → Q (.int ((NumText.digitsVal (c :: cs) : Nat) : Int)) H5 := fun e => by
          rw [List.head?_cons, if_neg e] at r
          exact r
        have ec : decide (V.str ⟨#[c]⟩ = V.str zeroS) = decide (c = 48) := by
          rw [decV_str]
          by_cases h : c = 48
          · subst h
            decide +kernel
          · rw [decide_eq_false h, decide_eq_false]
            intro q
            have q2 := congrArg (fun s : Str => s.cps.toList) q
            have q3 : zeroS.cps.toList = [48] := by decide +kernel
            rw [q3] at q2
            exact h (List.cons.inj q2).1
        by_cases h4 : c = 48
        · refine iteTB (by exact ec.trans (decide_eq_true h4)) ?_
          refine ⟨_, rfl, rfl, _, rfl, ?_⟩
          rw [decV_str]
          by_cases h5 : z = zeroS
          · refine iteFB (by rw [decide_eq_true (show z = ("0" : Str) from h5)]; rfl) ?_
            exact ⟨_, rfl, z, _, rfl, hv, by omega, fin fun e => e.2 h5⟩
          · refine iteTB (by rw [decide_eq_false (show ¬ z = ("0" : Str) from h5)]; rfl) ?_
            rw [List.head?_cons, if_pos ⟨by rw [h4], h5⟩] at r
            exact r
        · refine iteFB (by exact ec.trans (decide_eq_false h4)) ?_
          exact ⟨_, rfl, z, _, rfl, hv, by omega, fin fun e => h4 (Option.some.inj e.1)⟩
end
abbrev nLPlainIn : List Str := ["_law_text", "_law_times", "_law_mark", "_law_more", "_law_rows", "_law_part"]
theorem scLPlainIn : FnScope nLPlainIn ["_law_text"] (defScope sLPlainIn) := ⟨rfl, rfl, rfl, by decide +kernel, rfl, by decide +kernel, by decide +kernel⟩
def spLPlainIn : Sp := fun vs H Q _ => ∃ (z : Str), vs = [.str z] ∧ z.length ≤ 100000 ∧ okT z ∧ (∀ p, rdIn z = some p → ∀ H' v l, Gr H H' → PapAt H' l v p → Q v H') ∧ (rdIn z = none → ∀ H', Gr H H' → Q .non H')
section
variable {P : Program} {w : World} {K : PySem.W.Frag} {mg : Str → Option Value} {base : Heap}
theorem ok_LPlainIn {fLPlainIn  fLNumIn : Addr} {fdLPlainIn fdLNumIn : FuncData} {k : Nat} (dLPlainIn : Df K mg "_law_plain_in" sLPlainIn ["_law_text"] fLPlainIn fdLPlainIn)
    (dLNumIn : Df K mg "_law_number_in" sLNumIn ["_law_text"] fLNumIn fdLNumIn) (gLNumIn : FnOk P w K mg base CX0 k fLNumIn fdLNumIn ["_law_text"] (spLNumIn))
      :
    FnOk P w K mg base CX0 (k + 1) fLPlainIn fdLPlainIn ["_law_text"] (spLPlainIn) := by
  refine dLPlainIn.F.ok scLPlainIn (fun vs H Q E h => ?_) (fun cdv A outer s H vs Q E hr h => ?_)
  · obtain ⟨z, rfl, _⟩ := h
    rfl
  · obtain ⟨z, rfl, hz, oz, ret, no⟩ := h
    refine ⟨_, pss_cons (ps_if (pt_cmpR op_in_seq (pv 0) (pe_tup (pa_cons (pe_str) (pa_cons (pe_str) (pa_cons (pe_str) pa_nil)))) (by rfl)) (pss_one (ps_ret (pe_tup (pa_cons (pv 0) pa_nil)))) pss_nil)
      (pss_cons (ps_asg (pe_m1 PySem.F.slot_str_partition PySem.F.type_str_partition mt_partition (pe_slice sl_str (pv 0) (po_some (pe_int)) po_none) (pe_str)) (pg_tup (by rfl) (pgs_cons (pg_name (i := 1) scLPlainIn.nd rfl (.inl rfl)) (pgs_cons (pg_name (i := 2) scLPlainIn.nd rfl (.inl rfl)) (pgs_cons (pg_name (i := 3) scLPlainIn.nd rfl (.inl rfl)) pgs_nil)))))
      (pss_cons (ps_set (i := 4) scLPlainIn.nd rfl (.inl rfl) (pe_lst pa_nil))
      (pss_cons (ps_if (pt_cmpR op_ne (pv 3) (pe_str) (nomark _)) (pss_one (ps_setLc (i := 4) (own := [("_law_part", 5)]) (g := gName 5) (tt := tYes) (te := tCall (spLNumIn) [] _ (tCons (tVar 5) (tNil))) rfl scLPlainIn.nd rfl rfl (sw_true rfl rfl rfl (by decide +kernel)) (pi_list (pe_m1 PySem.F.slot_str_split PySem.F.type_str_split mt_split (pv 3) (pe_str))) (blkOk_by (own := [("_law_part", 5)]) (N := nLPlainIn) (sc := defScope sLPlainIn) (by decide +kernel)) (fun _ _ _ _ _ => pg_name (i := 5) scLPlainIn.nd rfl (.inl rfl)) (fun _ _ _ _ _ => pts_nil) (fun _ _ _ _ _ => pe_call gLNumIn hr (by rfl) dLNumIn.g dLNumIn.F.kp dLNumIn.b .nil pass0 (pa_cons (pv 5) pa_nil)))) pss_nil)
      (pss_cons (ps_if (PW.pt (pw_or (pt_cmpR op_ne (pe_slice sl_str (pv 0) po_none (po_some (pe_int))) (pe_str) (nomark _)) (pw_or (pt_cmpR op_eq (pv 2) (pe_str) (nomark _)) (pw_or1 (pt_cmpR op_in_seq (pe_non) (pe_op op_cat (pv 4) (pe_lst (pa_cons (pe_call gLNumIn hr (by rfl) dLNumIn.g dLNumIn.F.kp dLNumIn.b .nil pass0 (pa_cons (pv 1) pa_nil)) pa_nil))) (by rfl)))))) (pss_one (ps_ret (pe_non))) pss_nil)
      (pss_one (ps_ret (pe_tup (pa_cons (pe_str) (pa_cons (pe_call gLNumIn hr (by rfl) dLNumIn.g dLNumIn.F.kp dLNumIn.b .nil pass0 (pa_cons (pv 1) pa_nil)) (pa_cons (pv 4) pa_nil)))))))))), ?_⟩
    refine ⟨_, rfl, (show 3 ≤ sizeLine by decide), fun t0 n0 => ?_⟩
    generalize hU0 : upd _ _ _ = H0
    have g0 : Gr H H0 := by rw [← hU0]; exact (Gr.refl _).new n0
    refine inT (S := plains) (.inl (.inl (at_same hU0))) ⟨_, rfl, ?_⟩
    by_cases hpl : z ∈ plains
    · refine iteTB (decide_eq_true hpl) ?_
      refine ⟨_, rfl, (show 1 ≤ sizeLine by decide), fun a na => ?_⟩
      generalize hU1 : upd _ _ _ = H1
      have g1 : Gr H0 H1 := by rw [← hU1]; exact (Gr.refl _).new na
      unfold rdIn at ret
      unfold plains at hpl
      simp only [List.mem_cons, List.not_mem_nil, or_false] at hpl
      rcases hpl with e | e | e
      · subst e
        exact ret _ rfl H1 (.ref a) a (g0.trans g1) ⟨a, rfl, at_same hU1⟩
      · subst e
        exact ret _ rfl H1 (.ref a) a (g0.trans g1) ⟨a, rfl, at_same hU1⟩
      · subst e
        exact ret _ rfl H1 (.ref a) a (g0.trans g1) ⟨a, rfl, at_same hU1⟩
    refine iteFB (decide_eq_false hpl) ?_
    have er := rdL_some hpl
    rw [er] at ret no
    clear er
    have lc : (cutS z (some (6 : Int)) none).length ≤ z.length - 6 := cutL_from z 6
    have oc := okT_cut oz (some (6 : Int)) none
    refine ⟨_, rfl, 6, rfl, z, rfl, sz (by omega), ⟨_, rfl⟩, cutS z (some 6) none, colS, rfl, rfl, rfl, sz (by omega), fun t1 nt1 => ?_⟩
    generalize hU1 : upd _ _ _ = H1
    have g1 : Gr H0 H1 := by rw [← hU1]; exact (Gr.refl _).new nt1
    have et1 := at_same hU1
    obtain ⟨l1, l2⟩ := part_len (z := cutS z (some 6) none) (y := colS) (by rw [col_tl]; simp)
    obtain ⟨o1, o2⟩ := part_okT (z := cutS z (some 6) none) (y := colS) (by rw [col_tl]; simp) oc
    generalize Txt.partition (cutS z (some 6) none) colS = f at *
    obtain ⟨tm, mk, mr⟩ := f
    simp only at ret no l1 l2 o1 o2 et1
    refine ⟨t1, _, rfl, .inl (.inl et1), rfl, _, _, rfl, _, _, rfl, _, _, rfl, rfl, ?_⟩
    refine ⟨Nat.zero_le _, fun r0 nr0 => ?_⟩
    generalize hU2 : upd _ _ _ = H2
    have g2 : Gr H1 H2 := by rw [← hU2]; exact (Gr.refl _).new nr0
    have er0 := at_same hU2
    have g02 := g0.trans (g1.trans g2)
    have lp : (prt mr).length ≤ 100001 := Nat.le_trans (prt_many mr) (by omega)
    refine' join2 (α := L2.St) (P := fun σ Hx => ∃ R, σ = [some (.str z), some (.str tm), some (.str mk), some (.str mr), some (.ref R), none] ∧ Gr H Hx ∧ Hx R = some (.lst (((prt mr).map (numIn · 60)).map optI))) (fun rest => ?jm) ?jr
    case jm =>
      refine ⟨_, rfl, rfl, _, rfl, ?_⟩
      by_cases ed : mr = dash
      · refine iteFB (by rw [decV_str, decide_eq_true (show mr = ("-" : Str) from ed)]; rfl) ?_
        refine rest _ H2 ⟨r0, rfl, g02, ?_⟩
        rw [er0, show prt mr = [] by unfold prt; rw [if_pos ed]]
        rfl
      · refine iteTB (by rw [decV_str, decide_eq_false (show ¬ mr = ("-" : Str) from ed)]; rfl) ?_
        have ep : prt mr = Txt.split mr blank := by unfold prt; rw [if_neg ed]
        refine ⟨_, rfl, ⟨_, rfl⟩, mr, blank, rfl, rfl, rfl, sz (by omega), fun p np => ?_⟩
        rw [← ep]
        generalize hU3 : upd _ _ _ = H3
        have g3 : Gr H2 H3 := by rw [← hU3]; exact (Gr.refl _).new np
        have e3 : H3 p = some (.lst ((prt mr).map V.str)) := at_same hU3
        refine ⟨p, rfl, ⟨_, sq e3⟩, fun D nD => ?_⟩
        refine lcL (φ := V.str) (sq e3) (fun _ => true) (fun u => optI (numIn u 60)) nD (by omega) (fun u H' Y N hu g hy _ => ⟨rfl, yes (iteT ⟨_, rfl, u, rfl, Nat.le_trans (prt_len hu) (by omega), prt_okT o2 hu, fun H6 g6 => hy rfl H6 g6⟩)⟩) (fun H5 g5 e5 => ?_)
        rw [filter_yes] at e5
        refine rest _ H5 ⟨D, rfl, g02.trans (g3.trans g5), ?_⟩
        rw [List.map_map]
        exact e5
    case jr =>
      rintro _ H3 ⟨R, rfl, g3, eR⟩
      refine ⟨_, rfl, 6, rfl, z, rfl, sz (by omega), rfl, _, rfl, ?_⟩
      by_cases hw : ¬ cutS z none (some 6) = w6
      · rw [if_pos (.inl hw)] at no
        refine iteTB (by rw [decV_str, decide_eq_false (show ¬ cutS z none (some 6) = ("waves " : Str) from hw)]; rfl) (iteT ?_)
        exact no rfl H3 g3
      have hw : cutS z none (some 6) = w6 := Classical.not_not.mp hw
      refine iteFB (by rw [decV_str, decide_eq_true (show cutS z none (some 6) = ("waves " : Str) from hw)]; rfl) ?_
      refine ⟨_, rfl, rfl, _, rfl, ?_⟩
      by_cases hm : mk = ""
      · rw [if_pos (.inr hm)] at no
        refine iteTB (by rw [decV_str]; exact decide_eq_true hm) (iteT ?_)
        exact no rfl H3 g3
      refine iteFB (by rw [decV_str]; exact decide_eq_false hm) ?_
      rw [if_neg (fun w => w.elim (fun w => w hw) hm)] at ret no
      refine ⟨_, rfl, _, rfl, tm, rfl, by omega, o1, fun H4 g4 => ⟨(show 1 ≤ sizeLine by decide), fun b nb => ?_⟩⟩
      generalize hU5 : upd _ _ _ = H5
      have g5 : Gr H4 H5 := by rw [← hU5]; exact (Gr.refl _).new nb
      refine ⟨R, b, _, _, rfl, rfl, (g4.trans g5).lst eR, at_same hU5, sz (by rw [List.length_map, List.length_map]; show (prt mr).length + 1 ≤ _; omega), fun c nc => ?_⟩
      generalize hU6 : upd _ _ _ = H6
      have g6 : Gr H5 H6 := by rw [← hU6]; exact (Gr.refl _).new nc
      have g36 := g4.trans (g5.trans g6)
      have e6 : H6 c = some (.lst (((prt mr).map (numIn · 60) ++ [numIn tm 60]).map optI)) := by
        rw [at_same hU6, List.map_append]
        rfl
      refine ⟨c, _, rfl, .inl (sq e6), rfl, flat_opt _, ?_⟩
      rw [if_neg Bool.false_ne_true, in_opt]
      refine ⟨_, rfl, ?_⟩
      by_cases hn : none ∈ (prt mr).map (numIn · 60) ++ [numIn tm 60]
      · refine iteTB (decide_eq_true hn) ?_
        refine no ?_ H6 (g3.trans g36)
        rcases List.mem_append.mp hn with q | q
        · rw [mapM_nones q]
          cases numIn tm 60 <;> rfl
        · rw [← List.mem_singleton.mp q]
      refine iteFB (decide_eq_false hn) ?_
      have hn1 : none ∉ (prt mr).map (numIn · 60) := fun q => hn (List.mem_append_left _ q)
      obtain ⟨rs, e1, e2⟩ := mapM_full hn1
      cases et : numIn tm 60 with
      | none => exact absurd (List.mem_append_right _ (by rw [et]; exact List.mem_singleton.mpr rfl)) hn
      | some t =>
        rw [et, e1] at ret
        refine ⟨_, rfl, tm, rfl, by omega, o1, fun H7 g7 => ⟨_, rfl, (show 3 ≤ sizeLine by decide), fun a na => ?_⟩⟩
        generalize hU8 : upd _ _ _ = H8
        have g8 : Gr H7 H8 := by rw [← hU8]; exact (Gr.refl _).new na
        refine ret (.waves t rs) rfl H8 (.ref a) R (g3.trans (g36.trans (g7.trans g8))) ⟨a, rfl, ?_, ?_⟩
        · rw [at_same hU8, et]
          rfl
        · rw [← e2]
          exact (g36.trans (g7.trans g8)).lst eR
end
abbrev nLPaperIn : List Str := ["_law_text", "_law_parts", "_law_found", "_law_word"]
theorem scLPaperIn : FnScope nLPaperIn ["_law_text"] (defScope sLPaperIn) := ⟨rfl, rfl, rfl, by decide +kernel, rfl, by decide +kernel, by decide +kernel⟩
def spLPaperIn : Sp := fun vs H Q _ => ∃ (z : Str), vs = [.str z] ∧ z.length ≤ 100000 ∧ okT z ∧ (∀ p, rdP z = some p → ∀ H' v l, Gr H H' → PapAt H' l v p → Q v H') ∧ (rdP z = none → ∀ H', Gr H H' → Q .non H')
section
variable {P : Program} {w : World} {K : PySem.W.Frag} {mg : Str → Option Value} {base : Heap}
theorem ok_LPaperIn {fLPaperIn  fLPlainIn : Addr} {fdLPaperIn fdLPlainIn : FuncData} {k : Nat} (dLPaperIn : Df K mg "_law_paper_in" sLPaperIn ["_law_text"] fLPaperIn fdLPaperIn)
    (dLPlainIn : Df K mg "_law_plain_in" sLPlainIn ["_law_text"] fLPlainIn fdLPlainIn) (gLPlainIn : FnOk P w K mg base CX0 k fLPlainIn fdLPlainIn ["_law_text"] (spLPlainIn))
     (ml : mg "len" = none) :
    FnOk P w K mg base CX0 (k + 1) fLPaperIn fdLPaperIn ["_law_text"] (spLPaperIn) := by
  refine dLPaperIn.F.ok scLPaperIn (fun vs H Q E h => ?_) (fun cdv A outer s H vs Q E hr h => ?_)
  · obtain ⟨z, rfl, _⟩ := h
    rfl
  · obtain ⟨z, rfl, hz, oz, ret, no⟩ := h
    refine ⟨_, pss_cons (ps_set (i := 1) scLPaperIn.nd rfl (.inl rfl) (pe_m1 PySem.F.slot_str_split PySem.F.type_str_split mt_split (pv 0) (pe_str)))
      (pss_cons (ps_set (i := 2) scLPaperIn.nd rfl (.inl rfl) (pe_call gLPlainIn hr (by rfl) dLPlainIn.g dLPlainIn.F.kp dLPlainIn.b .nil pass0 (pa_cons (pe_ix ix_list (pv 1) (pe_un un_neg pe_int) (fun _ _ => rfl)) pa_nil)))
      (pss_cons (ps_if (PW.pt (pw_or (pt_cmpR op_isN (pv 2) (pe_non) (nomark _)) (pw_or1 (pt_cmpR op_gt (pe_callB call_lenK (by rfl) ml (PySem.boot_len) (pa_cons (pv 1) pa_nil)) (pe_int) (nomark _))))) (pss_one (ps_ret (pe_non))) pss_nil)
      (pss_cons (ps_for PassesOwn.never rfl (pi_list (pe_revL (pe_slice sl_list (pv 1) po_none (po_some (pe_un un_neg pe_int))))) (pg_name (i := 3) scLPaperIn.nd rfl (.inl rfl))
        (pss_cons (ps_if (pt_cmpR op_notIn_seq (pv 3) (pe_tup (pa_cons (pe_str) (pa_cons (pe_str) (pa_cons (pe_str) (pa_cons (pe_str) pa_nil))))) (by rfl)) (pss_one (ps_ret (pe_non))) pss_nil)
        (pss_one (ps_set (i := 2) scLPaperIn.nd rfl (.inl rfl) (pe_tup (pa_cons (pv 3) (pa_cons (pv 2) pa_nil)))))))
      (pss_one (ps_ret (pv 2)))))), ?_⟩
    refine ⟨_, rfl, ⟨_, rfl⟩, z, ofS, rfl, rfl, rfl, sz (by omega), fun a na => ?_⟩
    generalize hU1 : upd _ _ _ = H1
    have g1 : Gr H H1 := by rw [← hU1]; exact (Gr.refl _).new na
    have ea := at_same hU1
    obtain ⟨sl1, sl2⟩ := split_few (z := z) (y := ofS) (by decide +kernel) (by decide +kernel)
    have ok : ∀ t ∈ Txt.split z ofS, okT t := fun t ht => split_okT (by decide +kernel) (by decide +kernel) oz ht
    obtain ⟨ms, u, eps⟩ := split_two z (y := ofS) (by decide +kernel) (by decide +kernel)
    unfold rdP at ret no
    rw [eps] at ea sl1 sl2 ret no ok
    clear eps
    simp only [List.dropLast_concat, List.getLast?_append, List.getLast?_singleton, Option.some_or, Option.getD_some] at ret no
    have lms : (ms ++ [u]).length = ms.length + 1 := by rw [List.length_append]; rfl
    have ela : atI ((ms ++ [u]).map V.str) (-1) = some (.str u) := by rw [List.map_append]; exact atI_last _ _
    have hu : u ∈ ms ++ [u] := List.mem_append_right _ (List.mem_singleton.mpr rfl)
    refine ⟨_, rfl, 1, rfl, a, _, -1, _, rfl, rfl, sq ea, ela, u, rfl, Nat.le_trans (sl2 u hu) hz, ok u hu, fun p0 ei H2 v l g2 hp => ?_, fun ei H2 g2 => ?_⟩
    case refine_2 =>
      refine ⟨_, rfl, rfl, _, rfl, iteTB (decide_eq_true rfl) (iteT (no ?_ H2 (g1.trans g2)))⟩
      rw [ei]
      split
      · rfl
      · cases ms.mapM mkOf <;> rfl
    rw [ei] at ret no
    obtain ⟨v0, ev0⟩ := hp.ref
    refine ⟨_, rfl, rfl, _, rfl, iteFB (decide_eq_false (by rw [ev0]; simp)) ?_⟩
    have ea2 := g2.lst ea
    refine ⟨_, rfl, a, _, rfl, .inl (sq ea2), _, _, rfl, rfl, _, rfl, ?_⟩
    by_cases h12 : (ms ++ [u]).length > 12
    · rw [if_pos h12] at no
      exact iteTB (decide_eq_true (by rw [List.length_map]; omega)) (no rfl H2 (g1.trans g2))
    refine iteFB (decide_eq_false (by rw [List.length_map]; omega)) ?_
    rw [if_neg h12] at ret no
    refine ⟨_, rfl, 1, rfl, _, rfl, a, _, rfl, sq ea2, fun p np => ?_⟩
    rw [cut_init, List.dropLast_concat]
    generalize hU3 : upd _ _ _ = H3
    have g3 : Gr H2 H3 := by rw [← hU3]; exact (Gr.refl _).new np
    refine ⟨p, _, rfl, sq (at_same hU3), fun R nR => ?_⟩
    generalize hU4 : upd _ _ _ = H4
    have g4 : Gr H3 H4 := by rw [← hU4]; exact (Gr.refl _).new nR
    have eR : H4 R = some (.lst (ms.reverse.map V.str)) := by
      rw [at_same hU4, List.map_reverse]
    have g14 := g1.trans (g2.trans (g3.trans g4))
    refine ⟨R, rfl, ⟨_, sq eR⟩, ?_⟩
    refine walk_f ms.reverse.length (fun i σ H' => ∃ (v' : V) (y3 : Option V) (ks : List Mk), σ = [some (.str z), some (.ref a), some v', y3] ∧ Gr H4 H' ∧ (ms.reverse.take i).mapM mkOf = some ks ∧ PapAt H' l v' (ks.foldl (fun p m => Pap.led m p) p0))
      ⟨v, none, [], rfl, Gr.refl _, rfl, (hp.gr g3).gr g4⟩ (fun i σ H' hi hp => ?_) (fun σ H' hp => ?_)
    · obtain ⟨v', y3, ks, rfl, i1, i2, i3⟩ := hp
      refine ⟨itl_go (i1.seq (sq eR)) (by rw [List.length_map]; exact hi), fun x H'' y => ?_⟩
      obtain ⟨rfl, ex⟩ := itl_yld (i1.seq (sq eR)) y
      have gi : ms.reverse[i]? = some ms.reverse[i] := List.getElem?_eq_getElem hi
      have hmem : ms.reverse[i] ∈ ms := List.mem_reverse.mp (List.getElem_mem hi)
      rw [List.getElem?_map, gi] at ex
      cases ex
      generalize ms.reverse[i] = t at gi hmem
      refine ⟨_, rfl, (show 4 ≤ sizeLine by decide), fun b nb => ?_⟩
      generalize hU5 : upd _ _ _ = H5
      have g5 : Gr H'' H5 := by rw [← hU5]; exact (Gr.refl _).new nb
      refine notInT (S := leads) (.inl (.inl (at_same hU5))) ⟨_, rfl, ?_⟩
      by_cases ht : ¬ t ∈ leads
      · refine iteTB (by rw [decide_eq_false ht]; rfl) ?_
        refine no ?_ H5 (g14.trans (i1.trans g5))
        cases em : ms.mapM mkOf with
        | none => rfl
        | some ks =>
          obtain ⟨k, ek⟩ := mapM_all em hmem
          exact absurd (mkOf_mem ek) ht
      have ht : t ∈ leads := Classical.not_not.mp ht
      refine iteFB (by rw [decide_eq_true ht]; rfl) ?_
      obtain ⟨m, em⟩ := mk_lead ht
      refine ⟨_, rfl, _, rfl, (show 2 ≤ sizeLine by decide), fun c nc => ?_⟩
      generalize hU6 : upd _ _ _ = H6
      have g6 : Gr H5 H6 := by rw [← hU6]; exact (Gr.refl _).new nc
      refine ⟨.ref c, _, ks ++ [m], rfl, i1.trans (g5.trans g6), ?_, ?_⟩
      · rw [List.take_add_one, gi, Option.toList_some, List.mapM_append, i2, List.mapM_cons, em, mk_of]
        rfl
      · rw [List.foldl_append]
        exact ⟨c, v', rfl, by rw [at_same hU6, em], (i3.gr g5).gr g6⟩
    · obtain ⟨v', y3, ks, rfl, i1, i2, i3⟩ := hp
      refine ⟨itl_stop (i1.seq (sq eR)) (List.length_map ..), ?_⟩
      rw [List.take_length] at i2
      rw [mapM_rev i2] at ret
      refine ⟨_, rfl, ret _ rfl H' v' l (g14.trans i1) ?_⟩
      rw [List.foldr_reverse]
      exact i3
end
end Wa
namespace Wa
open PySem PySem.Spec PyProof.Rows L2
/-! odd texts; the law -/
theorem okT_small (z : Str) (h : (z.cps.toList.all fun c => decide (c < 0x110000)) = true) : okT z := fun c hc => of_decide_eq_true (List.all_eq_true.mp h c hc)
def od1 : List Str := ["", "waves", "waves ", "waves 1", "waves 1:", "waves 1: ", "waves 1: -", "waves 1: - 1", "waves 01: 1"]
def od2 : List Str := ["waves 1: 01", "waves : 1", "waves 0: 0", "cut", "cut of", "cut of ", "of one", " of one"]
def od3 : List Str := ["one of one", "cut of  one", "cut  of one", "One", "ones", "one ", " one", "all of cut"]
def od4 : List Str := ["waves 1: 1  2", "waves -1: 1", "waves " ++ repS "9" 60 ++ ": -", "waves " ++ repS "9" 61 ++ ": -"]
def od5 : List Str := [repS "nearer of " 12 ++ "one", repS "nearer of " 11 ++ "all"]
def od6 : List Str := ["waves 1_0: 1", "waves +1: 1", "waves 1: 1_0 +2"]
def ods : List Str := od1 ++ od2 ++ od3 ++ od4 ++ od5 ++ od6
theorem ods_len : ods.length = 34 := by decide +kernel
theorem ods_ok : ∀ z ∈ ods, z.length ≤ 200 ∧ okT z := by
  have h : (ods.all fun z => decide (z.length ≤ 200) && z.cps.toList.all fun c => decide (c < 0x110000)) = true := by decide +kernel
  intro z hz
  have := List.all_eq_true.mp h z hz
  rw [Bool.and_eq_true] at this
  exact ⟨of_decide_eq_true this.1, okT_small z this.2⟩
theorem cat_str {A B : List Str} {H : Hp} {c : Addr} (h : H c = some (.lst (A.map V.str ++ B.map V.str))) : H c = some (.lst ((A ++ B).map V.str)) := by rw [List.map_append]; exact h
abbrev nLOdd : List Str := ["_law_number_here", "_law_some"]
theorem scLOdd : FnScope nLOdd ["_law_number_here"] (defScope sLOdd) := ⟨rfl, rfl, rfl, by decide +kernel, rfl, by decide +kernel, by decide +kernel⟩
def spLOdd : Sp := fun vs H Q _ => ∃ (x : Int), vs = [.int x] ∧ ∀ H' z, Gr H H' → z.length ≤ 200 → okT z → Q (.str z) H'
section
variable {P : Program} {w : World} {K : PySem.W.Frag} {mg : Str → Option Value} {base : Heap}
theorem ok_LOdd {fLOdd : Addr} {fdLOdd : FuncData} {k : Nat} (dLOdd : Df K mg "_law_odd" sLOdd ["_law_number_here"] fLOdd fdLOdd)
     (ml : mg "len" = none) :
    FnOk P w K mg base CX0 (k + 1) fLOdd fdLOdd ["_law_number_here"] (spLOdd) := by
  refine dLOdd.F.ok scLOdd (fun vs H Q E h => ?_) (fun cdv A outer s H vs Q E hr h => ?_)
  · obtain ⟨x, rfl, _⟩ := h
    rfl
  · obtain ⟨x, rfl, ret⟩ := h
    refine ⟨_, pss_cons (ps_set (i := 1) scLOdd.nd rfl (.inl rfl) (pe_lst (pa_cons (pe_str) (pa_cons (pe_str) (pa_cons (pe_str) (pa_cons (pe_str) (pa_cons (pe_str) (pa_cons (pe_str) (pa_cons (pe_str) (pa_cons (pe_str) (pa_cons (pe_str) pa_nil)))))))))))
      (pss_cons (ps_set (i := 1) scLOdd.nd rfl (.inl rfl) (pe_op op_cat (pv 1) (pe_lst (pa_cons (pe_str) (pa_cons (pe_str) (pa_cons (pe_str) (pa_cons (pe_str) (pa_cons (pe_str) (pa_cons (pe_str) (pa_cons (pe_str) (pa_cons (pe_str) pa_nil)))))))))))
      (pss_cons (ps_set (i := 1) scLOdd.nd rfl (.inl rfl) (pe_op op_cat (pv 1) (pe_lst (pa_cons (pe_str) (pa_cons (pe_str) (pa_cons (pe_str) (pa_cons (pe_str) (pa_cons (pe_str) (pa_cons (pe_str) (pa_cons (pe_str) (pa_cons (pe_str) pa_nil)))))))))))
      (pss_cons (ps_set (i := 1) scLOdd.nd rfl (.inl rfl) (pe_op op_cat (pv 1) (pe_lst (pa_cons (pe_str) (pa_cons (pe_str) (pa_cons (pe_op op_add_str (pe_op op_add_str (pe_str) (pe_op op_repS (pe_str) (pe_int))) (pe_str)) (pa_cons (pe_op op_add_str (pe_op op_add_str (pe_str) (pe_op op_repS (pe_str) (pe_int))) (pe_str)) pa_nil)))))))
      (pss_cons (ps_set (i := 1) scLOdd.nd rfl (.inl rfl) (pe_op op_cat (pv 1) (pe_lst (pa_cons (pe_op op_add_str (pe_op op_repS (pe_str) (pe_int)) (pe_str)) (pa_cons (pe_op op_add_str (pe_op op_repS (pe_str) (pe_int)) (pe_str)) pa_nil)))))
      (pss_cons (ps_set (i := 1) scLOdd.nd rfl (.inl rfl) (pe_op op_cat (pv 1) (pe_lst (pa_cons (pe_str) (pa_cons (pe_str) (pa_cons (pe_str) pa_nil))))))
      (pss_one (ps_ret (pe_ix ix_list (pv 1) (pe_op op_mod (pv 0) (pe_callB call_lenK (by rfl) ml (PySem.boot_len) (pa_cons (pv 1) pa_nil))) (fun _ _ => rfl))))))))), ?_⟩
    refine ⟨(show 9 ≤ sizeLine by decide), fun p1 n1 => ?_⟩
    generalize hU1 : upd _ _ _ = H1
    have g1 : Gr H H1 := by rw [← hU1]; exact (Gr.refl _).new n1
    have e1 : H1 p1 = some (.lst (od1.map V.str)) := at_same hU1
    clear hU1
    refine ⟨_, rfl, (show 8 ≤ sizeLine by decide), fun q2 m2 => ?_⟩
    generalize hV2 : upd _ _ _ = G2
    have h2 : Gr H1 G2 := by rw [← hV2]; exact (Gr.refl _).new m2
    have f2 : G2 q2 = some (.lst (od2.map V.str)) := at_same hV2
    clear hV2
    refine ⟨p1, q2, _, _, rfl, rfl, h2.lst e1, f2, sz (by rw [List.length_map, List.length_map]; decide), fun p2 n2 => ?_⟩
    generalize hU2 : upd _ _ _ = H2
    have g2 : Gr G2 H2 := by rw [← hU2]; exact (Gr.refl _).new n2
    have e2 := cat_str (at_same hU2)
    clear hU2
    refine ⟨_, rfl, (show 8 ≤ sizeLine by decide), fun q3 m3 => ?_⟩
    generalize hV3 : upd _ _ _ = G3
    have h3 : Gr H2 G3 := by rw [← hV3]; exact (Gr.refl _).new m3
    have f3 : G3 q3 = some (.lst (od3.map V.str)) := at_same hV3
    clear hV3
    refine ⟨p2, q3, _, _, rfl, rfl, h3.lst e2, f3, sz (by rw [List.length_map, List.length_map]; decide), fun p3 n3 => ?_⟩
    generalize hU3 : upd _ _ _ = H3
    have g3 : Gr G3 H3 := by rw [← hU3]; exact (Gr.refl _).new n3
    have e3 := cat_str (at_same hU3)
    clear hU3
    have l60 : (repS ("9" : Str) 60).length = 60 := by decide +kernel
    have l61 : (repS ("9" : Str) 61).length = 61 := by decide +kernel
    have l12 : (repS ("nearer of " : Str) 12).length = 120 := by decide +kernel
    have l11 : (repS ("nearer of " : Str) 11).length = 110 := by decide +kernel
    refine ⟨_, rfl, "9", 60, rfl, rfl, by decide +kernel, by decide, _, _, rfl, rfl, sz (by rw [l60]; decide +kernel), _, _, rfl, rfl, sz (by decide +kernel), "9", 61, rfl, rfl, by decide +kernel, by decide, _, _, rfl, rfl, sz (by rw [l61]; decide +kernel), _, _, rfl, rfl, sz (by decide +kernel), (show 4 ≤ sizeLine by decide), fun q4 m4 => ?_⟩
    generalize hV4 : upd _ _ _ = G4
    have h4 : Gr H3 G4 := by rw [← hV4]; exact (Gr.refl _).new m4
    have f4 : G4 q4 = some (.lst (od4.map V.str)) := at_same hV4
    clear hV4
    refine ⟨p3, q4, _, _, rfl, rfl, h4.lst e3, f4, sz (by rw [List.length_map, List.length_map]; decide), fun p4 n4 => ?_⟩
    generalize hU4 : upd _ _ _ = H4
    have g4 : Gr G4 H4 := by rw [← hU4]; exact (Gr.refl _).new n4
    have e4 := cat_str (at_same hU4)
    clear hU4
    refine ⟨_, rfl, "nearer of ", 12, rfl, rfl, by decide +kernel, by decide, _, _, rfl, rfl, sz (by rw [l12]; decide +kernel), "nearer of ", 11, rfl, rfl, by decide +kernel, by decide, _, _, rfl, rfl, sz (by rw [l11]; decide +kernel), (show 2 ≤ sizeLine by decide), fun q5 m5 => ?_⟩
    generalize hV5 : upd _ _ _ = G5
    have h5 : Gr H4 G5 := by rw [← hV5]; exact (Gr.refl _).new m5
    have f5 : G5 q5 = some (.lst (od5.map V.str)) := at_same hV5
    clear hV5
    refine ⟨p4, q5, _, _, rfl, rfl, h5.lst e4, f5, sz (by rw [List.length_map, List.length_map]; decide), fun p5 n5 => ?_⟩
    generalize hU5 : upd _ _ _ = H5
    have g5 : Gr G5 H5 := by rw [← hU5]; exact (Gr.refl _).new n5
    have e5 := cat_str (at_same hU5)
    clear hU5
    refine ⟨_, rfl, (show 3 ≤ sizeLine by decide), fun q6 m6 => ?_⟩
    generalize hV6 : upd _ _ _ = G6
    have h6 : Gr H5 G6 := by rw [← hV6]; exact (Gr.refl _).new m6
    have f6 : G6 q6 = some (.lst (od6.map V.str)) := at_same hV6
    clear hV6
    refine ⟨p5, q6, _, _, rfl, rfl, h6.lst e5, f6, sz (by rw [List.length_map, List.length_map]; decide), fun p6 n6 => ?_⟩
    generalize hU6 : upd _ _ _ = H6
    have g6 : Gr G6 H6 := by rw [← hU6]; exact (Gr.refl _).new n6
    have e6 : H6 p6 = some (.lst (ods.map V.str)) := cat_str (at_same hU6)
    clear hU6
    have g16 : Gr H H6 := g1.trans (h2.trans (g2.trans (h3.trans (g3.trans (h4.trans (g4.trans (h5.trans (g5.trans (h6.trans g6)))))))))
    have lv : (ods.map V.str).length = 34 := by rw [List.length_map, ods_len]
    obtain ⟨m, em, hm⟩ : ∃ m : Nat, x % ((ods.map V.str).length : Int) = (m : Int) ∧ m < ods.length := by
      rw [lv, ods_len]
      exact ⟨(x % 34).toNat, by omega, by omega⟩
    have gw : ods[m]? = some ods[m] := List.getElem?_eq_getElem hm
    obtain ⟨k1, k2⟩ := ods_ok _ (List.getElem_mem hm)
    generalize ods[m] = u at gw k1 k2
    exact ⟨_, rfl, _, rfl, _, rfl, p6, _, rfl, .inl (sq e6), rdMod (by rw [lv]; decide) em ⟨p6, _, _, _, rfl, rfl, sq e6, atI_nat (by rw [List.getElem?_map, gw]; rfl), ret H6 u g16 k1 k2⟩⟩
end
theorem okT_join {ts : List Str} (h : ∀ t ∈ ts, okT t) : okT (Txt.join blank ts) := fun c hc => by
  have key : ∀ l : List (List Nat), (∀ p ∈ l, ∀ c ∈ p, c < 0x110000) → ∀ c ∈ TL.joinL [32] l, c < 0x110000 := by
    intro l
    induction l with
    | nil => exact fun _ c hc => by cases hc
    | cons p r ih =>
      intro hl c hc
      cases r with
      | nil => exact hl p List.mem_cons_self c hc
      | cons u r =>
        have hc : c ∈ p ++ ([32] ++ TL.joinL [32] (u :: r)) := hc
        rcases List.mem_append.mp hc with z | z
        · exact hl p List.mem_cons_self c z
        · rcases List.mem_append.mp z with z | z
          · rw [List.mem_singleton.mp z]; decide
          · exact ih (fun p hp => hl p (List.mem_cons_of_mem _ hp)) c z
  have hc : c ∈ TL.tl (Txt.join blank ts) := hc
  rw [TL.join_eq, TL.tl_join, blank_tl] at hc
  refine key _ (fun p hp c hc => ?_) c hc
  obtain ⟨t, ht, rfl⟩ := List.mem_map.mp hp
  exact h t ht c hc
theorem okT_num {n : Int} (h : 0 ≤ n) : okT (numS n) := fun c hc => by
  obtain ⟨m, rfl⟩ : ∃ m : Nat, n = (m : Int) := ⟨n.toNat, by omega⟩
  rw [numS_tl] at hc
  have := TL.numL_digits m c hc
  omega
theorem okT_mk (m : Mk) : okT m.s := by cases m <;> exact okT_small _ (by decide +kernel)
theorem okT_pre : ∀ ks : List Mk, okT (preS ks)
  | [] => okT_small _ (by decide +kernel)
  | k :: r => okT_app (okT_app (okT_mk k) (okT_small ofS (by decide +kernel))) (okT_pre r)
theorem okT_in : ∀ {p : Pap}, chain p = [] → PapOk p → okT (shIn p)
  | .one, _, _ => okT_small _ (by decide +kernel)
  | .all, _, _ => okT_small _ (by decide +kernel)
  | .balls, _, _ => okT_small _ (by decide +kernel)
  | .waves t rs, _, h => by
    obtain ⟨ht, hr⟩ := h
    refine okT_app (okT_app (okT_app (okT_small "waves " (by decide +kernel)) (okT_num ht.1)) (okT_small ": " (by decide +kernel))) ?_
    unfold shw
    split
    · exact okT_small _ (by decide +kernel)
    · refine okT_join fun t ht => ?_
      obtain ⟨r, hr2, rfl⟩ := List.mem_map.mp ht
      exact okT_num (hr r hr2).1
  | .led _ _, h, _ => by cases h
theorem okT_sh {p : Pap} (h : PapOk p) : okT (shP p) := by
  rw [shP_pre]
  exact okT_app (okT_pre _) (okT_in (chain_core p) h.core)
theorem chain_fold (ks : List Mk) (p : Pap) : chain (ks.foldr Pap.led p) = ks ++ chain p := by
  induction ks with
  | nil => rfl
  | cons k r ih => show k :: chain (r.foldr Pap.led p) = _; rw [ih]; rfl
theorem core_fold (ks : List Mk) (p : Pap) : core (ks.foldr Pap.led p) = core p := by
  induction ks with
  | nil => rfl
  | cons k r ih => exact ih
theorem rdIn_bd {z : Str} {p : Pap} (h : rdIn z = some p) : chain p = [] ∧ ∀ t rs, core p = .waves t rs → rs.length ≤ z.length + 1 := by
  unfold rdIn at h
  split at h
  · cases h; exact ⟨rfl, fun t rs e => by cases e⟩
  split at h
  · cases h; exact ⟨rfl, fun t rs e => by cases e⟩
  split at h
  · cases h; exact ⟨rfl, fun t rs e => by cases e⟩
  simp only at h
  split at h
  · cases h
  · have hl := (part_len (z := z) (y := colS) (by rw [col_tl]; simp)).2
    cases e1 : numIn (Txt.partition (Txt.partition z colS).1 blank).2.2 60 with
    | none => rw [e1] at h; cases h
    | some t =>
      cases e2 : (prt (Txt.partition z colS).2.2).mapM (numIn · 60) with
      | none => rw [e1, e2] at h; cases h
      | some rs =>
        rw [e1, e2] at h
        cases h
        refine ⟨rfl, fun t' rs' e => ?_⟩
        cases e
        have h1 := (mapM_get e2).1
        have h2 := prt_many (Txt.partition z colS).2.2
        omega
theorem rdP_bd {z : Str} {p : Pap} (h : rdP z = some p) : depth p ≤ 11 ∧ ∀ t rs, core p = .waves t rs → rs.length ≤ z.length + 1 := by
  obtain ⟨sl1, sl2⟩ := split_few (z := z) (y := ofS) (by decide +kernel) (by decide +kernel)
  obtain ⟨ms, u, eps⟩ := split_two z (y := ofS) (by decide +kernel) (by decide +kernel)
  unfold rdP at h
  rw [eps] at sl2 h
  simp only [List.dropLast_concat, List.getLast?_append, List.getLast?_singleton, Option.some_or, Option.getD_some] at h
  have lms : (ms ++ [u]).length = ms.length + 1 := by rw [List.length_append]; rfl
  by_cases h12 : (ms ++ [u]).length > 12
  · rw [if_pos h12] at h; cases h
  rw [if_neg h12] at h
  cases em : ms.mapM mkOf with
  | none => rw [em] at h; cases h
  | some ks =>
    cases ei : rdIn u with
    | none => rw [em, ei] at h; cases h
    | some p0 =>
      rw [em, ei] at h
      cases h
      obtain ⟨h1, h2⟩ := rdIn_bd ei
      have h3 := (mapM_get em).1
      have hu := sl2 u (List.mem_append_right _ (List.mem_singleton.mpr rfl))
      unfold depth
      rw [chain_fold, core_fold, h1, List.append_nil]
      exact ⟨by omega, fun t rs e => Nat.le_trans (h2 t rs e) (by omega)⟩
abbrev nLaw : List Str := ["_law_script", "_law_draws_here", "_law_text", "_law_number_here", "_law_due", "_law_caught", "_law_found", "e"]
theorem scLaw : FnScope nLaw ["_law_script"] (defScope sLaw) := ⟨rfl, rfl, rfl, by decide +kernel, rfl, by decide +kernel, by decide +kernel⟩
section
variable {P : Program} {w : World} {K : PySem.W.Frag} {mg : Str → Option Value} {base : Heap}
theorem ok_law {fNumberIn fPartsIn fReadNumber fReadInmost fReadPaper fDraws fPop fLNumber fLPaper fLPapText fLSame fLNumIn fLPlainIn fLPaperIn fLOnly fLBent42 fLOdd fLaw cNumberIn pNumberIn cReadPaper pReadPaper CNoText CNoLine CNoSize CNoWord CNear CApartError : Addr} {fdNumberIn fdPartsIn fdReadNumber fdReadInmost fdReadPaper fdDraws fdPop fdLNumber fdLPaper fdLPapText fdLSame fdLNumIn fdLPlainIn fdLPaperIn fdLOnly fdLBent42 fdLOdd fdLaw : FuncData} (F : Fun K "law" "law" sLaw fLaw fdLaw)
    (dNumberIn : Df K mg "number_in" sNumberIn ["text", "most"] fNumberIn fdNumberIn) (hcNumberIn : fdNumberIn.code = .ref cNumberIn) (tbNumberIn : GxR.TabB base mg cNumberIn pNumberIn)
    (dPartsIn : Df K mg "parts_in" sPartsIn ["text"] fPartsIn fdPartsIn)
    (dReadNumber : Df K mg "read_number" sReadNumber ["text"] fReadNumber fdReadNumber)
    (dReadInmost : Df K mg "read_inmost" sReadInmost ["text"] fReadInmost fdReadInmost)
    (dReadPaper : Df K mg "read_paper" sReadPaper ["text"] fReadPaper fdReadPaper) (hcReadPaper : fdReadPaper.code = .ref cReadPaper) (tbReadPaper : GxR.TabB base mg cReadPaper pReadPaper)
    (dDraws : Df K mg "_law_draws" sDraws ["_law_script", "_law_turn", "_law_many"] fDraws fdDraws)
    (dPop : Df K mg "_law_pop" sPop ["_law_draws_here"] fPop fdPop)
    (dLNumber : Df K mg "_law_number" sLNumber ["_law_draws_here"] fLNumber fdLNumber)
    (dLPaper : Df K mg "_law_paper" sLPaper ["_law_draws_here"] fLPaper fdLPaper)
    (dLPapText : Df K mg "_law_paper_text" sLPapText ["_law_paper_here"] fLPapText fdLPapText)
    (dLSame : Df K mg "_law_same" sLSame ["_law_found", "_law_paper_here"] fLSame fdLSame)
    (dLNumIn : Df K mg "_law_number_in" sLNumIn ["_law_text"] fLNumIn fdLNumIn)
    (dLPlainIn : Df K mg "_law_plain_in" sLPlainIn ["_law_text"] fLPlainIn fdLPlainIn)
    (dLPaperIn : Df K mg "_law_paper_in" sLPaperIn ["_law_text"] fLPaperIn fdLPaperIn)
    (dLOnly : Df K mg "_law_only" sLOnly ["_law_error"] fLOnly fdLOnly)
    (dLBent42 : Df K mg "_law_bent" sLBent42 ["_law_text", "_law_draws_here", "_law_signs"] fLBent42 fdLBent42)
    (dLOdd : Df K mg "_law_odd" sLOdd ["_law_number_here"] fLOdd fdLOdd)
    (xNoText : Xc K mg "NoText" CNoText)
    (only : Only K mg CNoText CNoLine CNoSize CNoWord CNear CApartError)
    {aLEADING : Addr} (mLEADING : mg "LEADING" = some (.ref aLEADING)) (wLEADING : txtsIn K aLEADING ["nearer", "cut", "shorter", "longer"] = true) {tkFIGURES : Tok} (mFIGURES : mg "FIGURES" = some (.str ("0123456789" : Str) tkFIGURES)) {tkMOST_FIGURES : Tok} (mMOST_FIGURES : mg "MOST_FIGURES" = some (.int 60 tkMOST_FIGURES)) {tkMOST_MAKINGS : Tok} (mMOST_MAKINGS : mg "MOST_MAKINGS" = some (.int 12 tkMOST_MAKINGS)) {aPLAIN : Addr} (mPLAIN : mg "PLAIN" = some (.ref aPLAIN)) (wPLAIN : txtsIn K aPLAIN ["one", "all", "balls"] = true) (mint : mg "int" = none) (many : mg "any" = none) (ml : mg "len" = none) (mr : mg "range" = none) (mt : mg "str" = none) (mi : mg "isinstance" = none) (mtu : mg "tuple" = none) (mls : mg "list" = none) (mbo : mg "bool" = none) :
    FnOk P w K mg base CX0 24 fLaw fdLaw ["_law_script"] (spLaw K [pNumberIn, pReadPaper]) := by
  have gDraws : FnOk P w K mg base CX0 23 fDraws fdDraws ["_law_script", "_law_turn", "_law_many"] (spDraws K) := (ok_draws dDraws.F ml mr)
  have gLPapText : FnOk P w K mg base CX0 23 fLPapText fdLPapText ["_law_paper_here"] (spLPapT) := (ok_LPapText (k := 22) dLPapText mt)
  have gPop : FnOk P w K mg base CX0 23 fPop fdPop ["_law_draws_here"] (spPop) := (ok_pop dPop.F)
  have gLBent42 : FnOk P w K mg base CX0 23 fLBent42 fdLBent42 ["_law_text", "_law_draws_here", "_law_signs"] (spLBent42) := (ok_LBent42 (k := 22) dLBent42 dPop (ok_pop dPop.F) mr ml)
  have gLPaperIn : FnOk P w K mg base CX0 23 fLPaperIn fdLPaperIn ["_law_text"] (spLPaperIn) := (ok_LPaperIn (k := 22) dLPaperIn dLPlainIn (ok_LPlainIn (k := 21) dLPlainIn dLNumIn (ok_LNumIn (k := 20) dLNumIn mint ml)) ml)
  have gLPaper : FnOk P w K mg base CX0 23 fLPaper fdLPaper ["_law_draws_here"] (spLPap) := (ok_LPaper (k := 22) dLPaper dPop (ok_pop dPop.F) dLNumber (ok_LNumber (k := 21) dLNumber dPop (ok_pop dPop.F)) mr mint)
  have gLOdd : FnOk P w K mg base CX0 23 fLOdd fdLOdd ["_law_number_here"] (spLOdd) := (ok_LOdd (k := 22) dLOdd ml)
  have gReadPaper : FnOk P w K mg base (L2.CX P w) 23 fReadPaper fdReadPaper ["text"] (spReadPX pNumberIn pReadPaper CNoText) := (ok_ReadPaper (k := 19) (CNoText := CNoText) dReadPaper hcReadPaper tbReadPaper dReadInmost (ok_ReadInmost (k := 21) (CNoText := CNoText) dReadInmost dReadNumber (ok_ReadNumber (k := 20) (CNoText := CNoText) dReadNumber dNumberIn (ok_NumberIn (k := 16) dNumberIn hcNumberIn tbNumberIn mFIGURES mint many ml) xNoText mMOST_FIGURES) dPartsIn (ok_PartsIn (k := 20) dPartsIn) xNoText mPLAIN wPLAIN) xNoText mMOST_MAKINGS mLEADING wLEADING many ml)
  have gLOnly : FnOk P w K mg base CX0 23 fLOnly fdLOnly ["_law_error"] (spLOnly CNoText) := (ok_LOnly (k := 22) dLOnly only mi)
  have gLSame : FnOk P w K mg base CX0 23 fLSame fdLSame ["_law_found", "_law_paper_here"] (spLSame 14) := (okR_LSame 14 dLSame mi ml mint mls mt mbo mtu)
  refine F.ok scLaw (fun vs H Q E h => ?_) (fun cdv A outer s H vs Q E hr h => ?_)
  · obtain ⟨a, ns, rfl, _⟩ := h
    rfl
  · obtain ⟨a, ns, rfl, ha, hT, ret⟩ := h
    have T1 : GxR.TabG H pNumberIn := hT _ (by simp)
    have T2 : GxR.TabG H pReadPaper := hT _ (by simp)
    refine ⟨_, pss_cons (ps_set (i := 1) scLaw.nd rfl (.inl rfl) (pe_call gDraws hr (by rfl) dDraws.g dDraws.F.kp dDraws.b .nil pass0 (pa_cons (pv 0) (pa_cons (pe_int) (pa_cons (pe_int) pa_nil)))))
      (pss_cons (ps_set (i := 2) scLaw.nd rfl (.inl rfl) (pe_call gLPapText hr (by rfl) dLPapText.g dLPapText.F.kp dLPapText.b .nil pass0 (pa_cons (pe_call gLPaper hr (by rfl) dLPaper.g dLPaper.F.kp dLPaper.b .nil pass0 (pa_cons (pv 1) pa_nil)) pa_nil)))
      (pss_cons (ps_set (i := 3) scLaw.nd rfl (.inl rfl) (pe_call gPop hr (by rfl) dPop.g dPop.F.kp dPop.b .nil pass0 (pa_cons (pv 1) pa_nil)))
      (pss_cons (ps_if (pt_cmpR op_eq (pe_op op_mod (pv 3) (pe_int)) (pe_int) (nomark _)) (pss_one (ps_set (i := 2) scLaw.nd rfl (.inl rfl) (pe_call gLOdd hr (by rfl) dLOdd.g dLOdd.F.kp dLOdd.b .nil pass0 (pa_cons (pe_op op_fdiv (pv 3) (pe_int)) pa_nil)))) pss_nil)
      (pss_cons (ps_set (i := 2) scLaw.nd rfl (.inl rfl) (pe_call gLBent42 hr (by rfl) dLBent42.g dLBent42.F.kp dLBent42.b .nil pass0 (pa_cons (pv 2) (pa_cons (pv 1) (pa_cons (pe_str) pa_nil)))))
      (pss_cons (ps_set (i := 4) scLaw.nd rfl (.inl rfl) (pe_call gLPaperIn hr (by rfl) dLPaperIn.g dLPaperIn.F.kp dLPaperIn.b .nil pass0 (pa_cons (pv 2) pa_nil)))
      (pss_cons (ps_set (i := 5) scLaw.nd rfl (.inl rfl) (pe_non))
      (pss_cons (ps_set (i := 6) scLaw.nd rfl (.inl rfl) (pe_non))
      (pss_cons (ps_try_keep (i := 7) (j := 5) (tb := fun W => tAsg (tCallS (spReadPX pNumberIn pReadPaper CNoText) (WE W) (tCons (tVar 2) (tNil))) (gName 6)) (Wout := fun _ _ _ _ => False) rfl rfl scLaw.nd rfl rfl (by decide) rfl rfl ⟨rfl, by decide, .inl only.gA⟩ takes0 (fun W pn xe tk _ => pss_one (ps_set (i := 6) scLaw.nd rfl (Or.inl rfl) (by exact (pe_callS gReadPaper hr rfl dReadPaper.g dReadPaper.F.kp dReadPaper.b (fun σ => passAt tk σ) (by exact (pa_cons (pv 2) pa_nil)))))) (fun a oe pn => ps_set (i := 5) scLaw.nd rfl (Or.inl rfl) (pv 7)))
      (pss_cons (ps_if (pt_cmpR op_isN (pv 4) (pe_non) (nomark _)) (pss_one (ps_ret (pe_call gLOnly hr (by rfl) dLOnly.g dLOnly.F.kp dLOnly.b .nil pass0 (pa_cons (pv 5) pa_nil)))) pss_nil)
      (pss_one (ps_ret (pe_and (pe_cmpR op_isN (pv 5) (pe_non) (nomark _)) (pe_one (pe_call gLSame hr (by rfl) dLSame.g dLSame.F.kp dLSame.b .nil pass0 (pa_cons (pv 6) (pa_cons (pv 4) pa_nil)))))))))))))))), ?_⟩
    refine ⟨_, rfl, a, ns, 2, 80, rfl, ha, by decide, by decide, fun H1 d0 ds s1 n1 l1 w1 e1 => ?_⟩
    refine ⟨_, rfl, d0, ds, rfl, e1, w1, fun H2 v l p ds2 hp hok hde hrl nl nHl hd2 ed og => ?_⟩
    have t1 : GxR.TabG H2 pNumberIn := by walk_at "tb"
    have t2 : GxR.TabG H2 pReadPaper := by walk_at "tb"
    have npd : ∀ {p : Addr}, GxR.TabG H2 p → p ≠ d0 := fun {p} h z => by
      obtain ⟨ps, e, _⟩ := h
      rw [z, ed] at e
      cases e
    have hbd : PapBd p := ⟨hok, by omega, fun t rs e => by have := hrl t rs e; omega⟩
    have hlen : (shP p).length ≤ 63000 := by
      rw [shP_pre, app_len]
      have h1 := preS_len (chain p)
      have h2 := shIn_len (p := core p) ⟨hok.core, fun t rs e => hbd.2.2 t rs (by rw [← core_core]; exact e)⟩
      unfold depth at hde
      omega
    have osh := okT_sh hok
    refine ⟨v, l, p, rfl, hbd, hp, fun H3 g3 => ?_⟩
    generalize shP p = z0 at hlen osh
    have ed3 := g3.lst ed
    refine ⟨_, rfl, d0, _, rfl, ed3, fun H4 a4 k4 => ?_⟩
    have og4 : OG d0 H2 H4 := (OG.gr g3).trans (OG.pop k4 ⟨_, a4⟩)
    have hd4 := hd2.rest
    generalize popV ds2 = x
    generalize ds2.dropLast = ds4 at a4 hd4
    refine' join2 (α := L2.St) (P := fun σ Hx => ∃ (z : Str), σ = [some (.ref a), some (.ref d0), some (.str z), some (.int x), none, none, none, none] ∧ Gr H4 Hx ∧ z.length ≤ 63000 ∧ okT z) (fun rest => ?jm) ?jr
    case jm =>
      refine ⟨_, rfl, x, 4, rfl, rfl, (show (0 : Int) < 4 by decide), rfl, _, rfl, ?_⟩
      by_cases c : ¬ x % 4 = 0
      · refine iteFB (by rw [decV_int]; exact decide_eq_false c) ?_
        generalize hs : List.set _ 3 (some (V.int x)) = σ'
        exact rest σ' H4 ⟨z0, hs.symm, Gr.refl _, hlen, osh⟩
      refine iteTB (by rw [decV_int]; exact decide_eq_true (by omega)) ?_
      refine ⟨_, rfl, x, 4, rfl, rfl, ⟨by decide, by decide⟩, x / 4, rfl, fun H5 z g5 hz oz => ?_⟩
      exact rest _ H5 ⟨z, rfl, g5, by omega, oz⟩
    case jr =>
      rintro _ H5 ⟨z, rfl, g5, hz, oz⟩
      have sl : (" :-+_of019cutwvsnelrgb/" : Str).length = 23 := by decide +kernel
      refine ⟨_, rfl, _, rfl, z, " :-+_of019cutwvsnelrgb/", d0, ds4, rfl, by omega, oz, by rw [sl]; decide, by rw [sl]; decide, okT_small _ (by decide +kernel), g5.lst a4, hd4, fun H6 y ds6 ly oy hd6 a6 og6 => ?_⟩
      have og26 := (og4.trans (OG.gr g5)).trans og6
      have W1 := og26.tab _ (npd t1) t1
      have W2 := og26.tab _ (npd t2) t2
      refine ⟨_, rfl, y, rfl, by omega, oy, fun p7 ep H7 v7 l7 g7 hp7 => ?_, fun ep H7 g7 => ?_⟩
      · refine ⟨_, rfl, y, rfl, by omega, g7.tab _ W1, g7.tab _ W2, fun p8 ep8 H8 v8 l8 g8 _ _ hp8 => ?_, fun ep8 => by rw [ep] at ep8; cases ep8⟩
        rw [ep] at ep8
        cases ep8
        obtain ⟨bd1, bd2⟩ := rdP_bd ep
        obtain ⟨b7, e7⟩ := hp7.ref
        refine ⟨_, rfl, rfl, _, rfl, iteFB (decide_eq_false (by rw [e7]; simp)) ?_⟩
        refine ⟨_, rfl, rfl, true, (by rw [decide_eq_true rfl]), iteT ?_⟩
        exact ⟨_, rfl, _, rfl, v8, v7, l8, l7, p7, rfl, hp8, hp7.gr g8, (show depth p7 ≤ 13 by omega), fun t rs e => by have := bd2 t rs e; omega, fun H9 _ => ret _⟩
      · refine ⟨_, rfl, y, rfl, by omega, g7.tab _ W1, g7.tab _ W2, (fun p8 ep8 => by rw [ep] at ep8; cases ep8), fun _ H8 g8 => ?_⟩
        refine ⟨true, only.xA, fun _ => ⟨rfl, CNoText, rfl, fun e ne => ?_⟩, fun w => by cases w⟩
        refine ⟨_, rfl, rfl, _, rfl, iteTB (decide_eq_true rfl) ?_⟩
        exact ⟨_, rfl, e, rfl, upd_same, fun H9 _ => ret _⟩
end
end Wa
namespace Wa
open PySem PySem.Spec PyProof.Rows L2
theorem all_mk {l : PySem.W.OpenLaw} {w : World} {K : PySem.W.Frag} {h : Heap} {mg : Str → Option Value} {fa f1 f2 f3 f4 f5 f6 f7 f8 f9 f10 f11 f12 f13 f14 f15 f16 f17 f18 : Addr} (X : K.In h) (G : h.Ns mainGlobals mg) (hfa : mg "law" = some (.ref fa)) (T : TabsOf PySem.Challenge.pw_wordsapart_k43_texts_of_papers_looked_at mg h)
    {od1 an1 od2 an2 od3 an3 od4 an4 od5 an5 od6 an6 od7 an7 od8 an8 od9 an9 od10 an10 od11 an11 od12 an12 od13 an13 od14 an14 od15 an15 od16 an16 od17 an17 od18 an18 : Option Addr} {sl1 sl2 sl3 sl4 sl5 sl6 sl7 sl8 sl9 sl10 sl11 sl12 sl13 sl14 sl15 sl16 sl17 sl18 : Array (Option Value)} {oc1 kV1 dc1 pm1 ct1 oc2 kV2 dc2 pm2 cd2 ct2 oc3 kV3 dc3 pm3 cd3 ct3 oc4 kV4 dc4 pm4 cd4 ct4 oc5 kV5 dc5 pm5 ct5 oc6 kV6 dc6 pm6 cd6 ct6 oc7 kV7 dc7 pm7 cd7 ct7 oc8 kV8 dc8 pm8 cd8 ct8 oc9 kV9 dc9 pm9 cd9 ct9 oc10 kV10 dc10 pm10 cd10 ct10 oc11 kV11 dc11 pm11 cd11 ct11 oc12 kV12 dc12 pm12 cd12 ct12 oc13 kV13 dc13 pm13 cd13 ct13 oc14 kV14 dc14 pm14 cd14 ct14 oc15 kV15 dc15 pm15 cd15 ct15 oc16 kV16 dc16 pm16 cd16 ct16 oc17 kV17 dc17 pm17 cd17 ct17 oc18 kV18 dc18 pm18 cd18 ct18 : Value}
    {c1 P1 c5 P5 : Addr} {e1 e5 : Value} {dd1 dd5 : Option Addr} {sm1 sm5 : Array (Option Value)} {us1 us5 : Array Value}
    {aC0 : Addr}
    {tk1 : Tok}
    {tk2 : Tok}
    {tk3 : Tok}
    {aC4 : Addr}
    (a1 : PySem.W.nsIn K mainGlobals "number_in" = some (some (.ref f1))) (l1 : K.lookup f1 = some ⟨oc1, od1, .func (PySem.W.fnOf "number_in" "number_in" (defArgs sNumberIn) (defBody sNumberIn) (defScope sNumberIn) .none kV1 dc1 pm1 an1 (.ref c1) ct1), sl1⟩) (q1 : PySem.W.codeIn K (.ref c1) "number_in" = true) (k1 : PySem.W.keepIn K (.ref f1) = true)
    (m1 : K.lookup c1 = some ⟨e1, dd1, .fields us1, sm1⟩) (v1 : us1[11]? = some (.ref P1)) (n1 : K.lookup P1 = none) (r1 : ((recsOf PySem.Challenge.pw_wordsapart_k43_texts_of_papers_looked_at).any fun r => r.name == "number_in") = true)
    (a2 : PySem.W.nsIn K mainGlobals "parts_in" = some (some (.ref f2))) (l2 : K.lookup f2 = some ⟨oc2, od2, .func (PySem.W.fnOf "parts_in" "parts_in" (defArgs sPartsIn) (defBody sPartsIn) (defScope sPartsIn) .none kV2 dc2 pm2 an2 cd2 ct2), sl2⟩) (q2 : PySem.W.codeIn K cd2 "parts_in" = true) (k2 : PySem.W.keepIn K (.ref f2) = true)
    (a3 : PySem.W.nsIn K mainGlobals "read_number" = some (some (.ref f3))) (l3 : K.lookup f3 = some ⟨oc3, od3, .func (PySem.W.fnOf "read_number" "read_number" (defArgs sReadNumber) (defBody sReadNumber) (defScope sReadNumber) .none kV3 dc3 pm3 an3 cd3 ct3), sl3⟩) (q3 : PySem.W.codeIn K cd3 "read_number" = true) (k3 : PySem.W.keepIn K (.ref f3) = true)
    (a4 : PySem.W.nsIn K mainGlobals "read_inmost" = some (some (.ref f4))) (l4 : K.lookup f4 = some ⟨oc4, od4, .func (PySem.W.fnOf "read_inmost" "read_inmost" (defArgs sReadInmost) (defBody sReadInmost) (defScope sReadInmost) .none kV4 dc4 pm4 an4 cd4 ct4), sl4⟩) (q4 : PySem.W.codeIn K cd4 "read_inmost" = true) (k4 : PySem.W.keepIn K (.ref f4) = true)
    (a5 : PySem.W.nsIn K mainGlobals "read_paper" = some (some (.ref f5))) (l5 : K.lookup f5 = some ⟨oc5, od5, .func (PySem.W.fnOf "read_paper" "read_paper" (defArgs sReadPaper) (defBody sReadPaper) (defScope sReadPaper) .none kV5 dc5 pm5 an5 (.ref c5) ct5), sl5⟩) (q5 : PySem.W.codeIn K (.ref c5) "read_paper" = true) (k5 : PySem.W.keepIn K (.ref f5) = true)
    (m5 : K.lookup c5 = some ⟨e5, dd5, .fields us5, sm5⟩) (v5 : us5[11]? = some (.ref P5)) (n5 : K.lookup P5 = none) (r5 : ((recsOf PySem.Challenge.pw_wordsapart_k43_texts_of_papers_looked_at).any fun r => r.name == "read_paper") = true)
    (a6 : PySem.W.nsIn K mainGlobals "_law_draws" = some (some (.ref f6))) (l6 : K.lookup f6 = some ⟨oc6, od6, .func (PySem.W.fnOf "_law_draws" "_law_draws" (defArgs sDraws) (defBody sDraws) (defScope sDraws) .none kV6 dc6 pm6 an6 cd6 ct6), sl6⟩) (q6 : PySem.W.codeIn K cd6 "_law_draws" = true) (k6 : PySem.W.keepIn K (.ref f6) = true)
    (a7 : PySem.W.nsIn K mainGlobals "_law_pop" = some (some (.ref f7))) (l7 : K.lookup f7 = some ⟨oc7, od7, .func (PySem.W.fnOf "_law_pop" "_law_pop" (defArgs sPop) (defBody sPop) (defScope sPop) .none kV7 dc7 pm7 an7 cd7 ct7), sl7⟩) (q7 : PySem.W.codeIn K cd7 "_law_pop" = true) (k7 : PySem.W.keepIn K (.ref f7) = true)
    (a8 : PySem.W.nsIn K mainGlobals "_law_number" = some (some (.ref f8))) (l8 : K.lookup f8 = some ⟨oc8, od8, .func (PySem.W.fnOf "_law_number" "_law_number" (defArgs sLNumber) (defBody sLNumber) (defScope sLNumber) .none kV8 dc8 pm8 an8 cd8 ct8), sl8⟩) (q8 : PySem.W.codeIn K cd8 "_law_number" = true) (k8 : PySem.W.keepIn K (.ref f8) = true)
    (a9 : PySem.W.nsIn K mainGlobals "_law_paper" = some (some (.ref f9))) (l9 : K.lookup f9 = some ⟨oc9, od9, .func (PySem.W.fnOf "_law_paper" "_law_paper" (defArgs sLPaper) (defBody sLPaper) (defScope sLPaper) .none kV9 dc9 pm9 an9 cd9 ct9), sl9⟩) (q9 : PySem.W.codeIn K cd9 "_law_paper" = true) (k9 : PySem.W.keepIn K (.ref f9) = true)
    (a10 : PySem.W.nsIn K mainGlobals "_law_paper_text" = some (some (.ref f10))) (l10 : K.lookup f10 = some ⟨oc10, od10, .func (PySem.W.fnOf "_law_paper_text" "_law_paper_text" (defArgs sLPapText) (defBody sLPapText) (defScope sLPapText) .none kV10 dc10 pm10 an10 cd10 ct10), sl10⟩) (q10 : PySem.W.codeIn K cd10 "_law_paper_text" = true) (k10 : PySem.W.keepIn K (.ref f10) = true)
    (a11 : PySem.W.nsIn K mainGlobals "_law_same" = some (some (.ref f11))) (l11 : K.lookup f11 = some ⟨oc11, od11, .func (PySem.W.fnOf "_law_same" "_law_same" (defArgs sLSame) (defBody sLSame) (defScope sLSame) .none kV11 dc11 pm11 an11 cd11 ct11), sl11⟩) (q11 : PySem.W.codeIn K cd11 "_law_same" = true) (k11 : PySem.W.keepIn K (.ref f11) = true)
    (a12 : PySem.W.nsIn K mainGlobals "_law_number_in" = some (some (.ref f12))) (l12 : K.lookup f12 = some ⟨oc12, od12, .func (PySem.W.fnOf "_law_number_in" "_law_number_in" (defArgs sLNumIn) (defBody sLNumIn) (defScope sLNumIn) .none kV12 dc12 pm12 an12 cd12 ct12), sl12⟩) (q12 : PySem.W.codeIn K cd12 "_law_number_in" = true) (k12 : PySem.W.keepIn K (.ref f12) = true)
    (a13 : PySem.W.nsIn K mainGlobals "_law_plain_in" = some (some (.ref f13))) (l13 : K.lookup f13 = some ⟨oc13, od13, .func (PySem.W.fnOf "_law_plain_in" "_law_plain_in" (defArgs sLPlainIn) (defBody sLPlainIn) (defScope sLPlainIn) .none kV13 dc13 pm13 an13 cd13 ct13), sl13⟩) (q13 : PySem.W.codeIn K cd13 "_law_plain_in" = true) (k13 : PySem.W.keepIn K (.ref f13) = true)
    (a14 : PySem.W.nsIn K mainGlobals "_law_paper_in" = some (some (.ref f14))) (l14 : K.lookup f14 = some ⟨oc14, od14, .func (PySem.W.fnOf "_law_paper_in" "_law_paper_in" (defArgs sLPaperIn) (defBody sLPaperIn) (defScope sLPaperIn) .none kV14 dc14 pm14 an14 cd14 ct14), sl14⟩) (q14 : PySem.W.codeIn K cd14 "_law_paper_in" = true) (k14 : PySem.W.keepIn K (.ref f14) = true)
    (a15 : PySem.W.nsIn K mainGlobals "_law_only" = some (some (.ref f15))) (l15 : K.lookup f15 = some ⟨oc15, od15, .func (PySem.W.fnOf "_law_only" "_law_only" (defArgs sLOnly) (defBody sLOnly) (defScope sLOnly) .none kV15 dc15 pm15 an15 cd15 ct15), sl15⟩) (q15 : PySem.W.codeIn K cd15 "_law_only" = true) (k15 : PySem.W.keepIn K (.ref f15) = true)
    (a16 : PySem.W.nsIn K mainGlobals "_law_bent" = some (some (.ref f16))) (l16 : K.lookup f16 = some ⟨oc16, od16, .func (PySem.W.fnOf "_law_bent" "_law_bent" (defArgs sLBent42) (defBody sLBent42) (defScope sLBent42) .none kV16 dc16 pm16 an16 cd16 ct16), sl16⟩) (q16 : PySem.W.codeIn K cd16 "_law_bent" = true) (k16 : PySem.W.keepIn K (.ref f16) = true)
    (a17 : PySem.W.nsIn K mainGlobals "_law_odd" = some (some (.ref f17))) (l17 : K.lookup f17 = some ⟨oc17, od17, .func (PySem.W.fnOf "_law_odd" "_law_odd" (defArgs sLOdd) (defBody sLOdd) (defScope sLOdd) .none kV17 dc17 pm17 an17 cd17 ct17), sl17⟩) (q17 : PySem.W.codeIn K cd17 "_law_odd" = true) (k17 : PySem.W.keepIn K (.ref f17) = true)
    (a18 : PySem.W.nsIn K mainGlobals "law" = some (some (.ref f18))) (l18 : K.lookup f18 = some ⟨oc18, od18, .func (PySem.W.fnOf "law" "law" (defArgs sLaw) (defBody sLaw) (defScope sLaw) .none kV18 dc18 pm18 an18 cd18 ct18), sl18⟩) (q18 : PySem.W.codeIn K cd18 "law" = true) (k18 : PySem.W.keepIn K (.ref f18) = true)
    (y0 : PySem.W.nsIn K mainGlobals "LEADING" = some (some (.ref aC0)))
    (u0 : txtsIn K aC0 ["nearer", "cut", "shorter", "longer"] = true)
    (y1 : PySem.W.nsIn K mainGlobals "FIGURES" = some (some (.str ("0123456789" : Str) tk1)))
    (y2 : PySem.W.nsIn K mainGlobals "MOST_FIGURES" = some (some (.int 60 tk2)))
    (y3 : PySem.W.nsIn K mainGlobals "MOST_MAKINGS" = some (some (.int 12 tk3)))
    (y4 : PySem.W.nsIn K mainGlobals "PLAIN" = some (some (.ref aC4)))
    (u4 : txtsIn K aC4 ["one", "all", "balls"] = true)
    {CC0 : Addr} (ga0 : PySem.W.nsIn K mainGlobals "NoText" = some (some (.ref CC0))) (gb0 : PySem.W.excIn K CC0 [.type "ValueError", .type "Exception", .type "BaseException", .type "object"] "ValueError.__new__" = true) (gc0 : PySem.W.keepIn K (.ref CC0) = true) (gd0 : PySem.W.subIn K (.ref CC0) (.type "BaseException") = some true) (ge0 : PySem.W.typeIn K (.ref CC0) = some (.type "type"))
    {oL oS oW oN oA : Addr}
    (hoL : PySem.W.nsIn K mainGlobals "NoLine" = some (some (.ref oL)))
    (hoS : PySem.W.nsIn K mainGlobals "NoSize" = some (some (.ref oS)))
    (hoW : PySem.W.nsIn K mainGlobals "NoWord" = some (some (.ref oW)))
    (hoN : PySem.W.nsIn K mainGlobals "Near" = some (some (.ref oN)))
    (hoA : PySem.W.nsIn K mainGlobals "ApartError" = some (some (.ref oA)))
    (hoV : PySem.W.nsIn K mainGlobals "ValueError" = some none)
    (uo0 : (Value.ref CC0 == Value.ref oL) = false)
    (hj0 : PySem.W.hasDictIn K oL = true)
    (ht0 : PySem.W.typeIn K (.ref oL) = some (.type "type"))
    (hs0 : PySem.W.subIn K (.ref CC0) (.ref oL) = some false)
    (uo1 : (Value.ref CC0 == Value.ref oS) = false)
    (hj1 : PySem.W.hasDictIn K oS = true)
    (ht1 : PySem.W.typeIn K (.ref oS) = some (.type "type"))
    (hs1 : PySem.W.subIn K (.ref CC0) (.ref oS) = some false)
    (uo2 : (Value.ref CC0 == Value.ref oW) = false)
    (hj2 : PySem.W.hasDictIn K oW = true)
    (ht2 : PySem.W.typeIn K (.ref oW) = some (.type "type"))
    (hs2 : PySem.W.subIn K (.ref CC0) (.ref oW) = some false)
    (uo3 : (Value.ref CC0 == Value.ref oN) = false)
    (hj3 : PySem.W.hasDictIn K oN = true)
    (ht3 : PySem.W.typeIn K (.ref oN) = some (.type "type"))
    (hs3 : PySem.W.subIn K (.ref CC0) (.ref oN) = some false)
    (hv : PySem.W.subIn K (.ref CC0) (.type "ValueError") = some true)
    (hx1 : PySem.W.subIn K (.ref oA) (.type "BaseException") = some true)
    (hx2 : PySem.W.hasDictIn K oA = true)
    (hx3 : PySem.W.typeIn K (.ref oA) = some (.type "type"))
    (hx4 : PySem.W.subIn K (.ref CC0) (.ref oA) = some true)
    (hc1 : PySem.W.findIn K (.ref CC0) "__getattribute__" = some (some (.builtin "BaseException.__getattribute__")))
    (hc2 : PySem.W.findIn K (.ref CC0) "__getattr__" = some none)
    (hc4 : PySem.W.hasDictIn K CC0 = true)
    (hc5 : PySem.W.findIn K (.ref CC0) "__class__" = some (some (.builtin "object.__class__")))
    (hc6 : PySem.W.specialIn K (.builtin "object.__class__") "__get__" = some (some (.builtin "getset_descriptor.__get__")))
    (hc7 : PySem.W.takesIn K (.builtin "object.__class__") = some true)
    (hc8 : PySem.W.mroIn K CC0 (.type "object") = some true)
    (z0 : PySem.W.nsIn K mainGlobals "int" = some none)
    (z1 : PySem.W.nsIn K mainGlobals "any" = some none)
    (z2 : PySem.W.nsIn K mainGlobals "len" = some none)
    (z3 : PySem.W.nsIn K mainGlobals "range" = some none)
    (z4 : PySem.W.nsIn K mainGlobals "str" = some none)
    (z5 : PySem.W.nsIn K mainGlobals "isinstance" = some none)
    (z6 : PySem.W.nsIn K mainGlobals "tuple" = some none)
    (z7 : PySem.W.nsIn K mainGlobals "list" = some none)
    (z8 : PySem.W.nsIn K mainGlobals "bool" = some none)
    : LamX.LawAtS l w K CX0 24 63 "_law_script" mg fa h := by
  cases hfa.symm.trans (PySem.W.mg_of X G a18)
  have F1 := fun_mk (st := sNumberIn) l1 q1 k1
  have D1 : Df K mg "number_in" sNumberIn ["text", "most"] f1 _ := ⟨F1, F1.binds (ps := ["text", "most"]) (fun _ _ _ _ _ _ us hl => match us, hl with | [_, _], _ => rfl), PySem.W.mg_of X G a1⟩
  have F2 := fun_mk (st := sPartsIn) l2 q2 k2
  have D2 : Df K mg "parts_in" sPartsIn ["text"] f2 _ := ⟨F2, F2.binds (ps := ["text"]) (fun _ _ _ _ _ _ us hl => match us, hl with | [_], _ => rfl), PySem.W.mg_of X G a2⟩
  have F3 := fun_mk (st := sReadNumber) l3 q3 k3
  have D3 : Df K mg "read_number" sReadNumber ["text"] f3 _ := ⟨F3, F3.binds (ps := ["text"]) (fun _ _ _ _ _ _ us hl => match us, hl with | [_], _ => rfl), PySem.W.mg_of X G a3⟩
  have F4 := fun_mk (st := sReadInmost) l4 q4 k4
  have D4 : Df K mg "read_inmost" sReadInmost ["text"] f4 _ := ⟨F4, F4.binds (ps := ["text"]) (fun _ _ _ _ _ _ us hl => match us, hl with | [_], _ => rfl), PySem.W.mg_of X G a4⟩
  have F5 := fun_mk (st := sReadPaper) l5 q5 k5
  have D5 : Df K mg "read_paper" sReadPaper ["text"] f5 _ := ⟨F5, F5.binds (ps := ["text"]) (fun _ _ _ _ _ _ us hl => match us, hl with | [_], _ => rfl), PySem.W.mg_of X G a5⟩
  have F6 := fun_mk (st := sDraws) l6 q6 k6
  have D6 : Df K mg "_law_draws" sDraws ["_law_script", "_law_turn", "_law_many"] f6 _ := ⟨F6, F6.binds (ps := ["_law_script", "_law_turn", "_law_many"]) (fun _ _ _ _ _ _ us hl => match us, hl with | [_, _, _], _ => rfl), PySem.W.mg_of X G a6⟩
  have F7 := fun_mk (st := sPop) l7 q7 k7
  have D7 : Df K mg "_law_pop" sPop ["_law_draws_here"] f7 _ := ⟨F7, F7.binds (ps := ["_law_draws_here"]) (fun _ _ _ _ _ _ us hl => match us, hl with | [_], _ => rfl), PySem.W.mg_of X G a7⟩
  have F8 := fun_mk (st := sLNumber) l8 q8 k8
  have D8 : Df K mg "_law_number" sLNumber ["_law_draws_here"] f8 _ := ⟨F8, F8.binds (ps := ["_law_draws_here"]) (fun _ _ _ _ _ _ us hl => match us, hl with | [_], _ => rfl), PySem.W.mg_of X G a8⟩
  have F9 := fun_mk (st := sLPaper) l9 q9 k9
  have D9 : Df K mg "_law_paper" sLPaper ["_law_draws_here"] f9 _ := ⟨F9, F9.binds (ps := ["_law_draws_here"]) (fun _ _ _ _ _ _ us hl => match us, hl with | [_], _ => rfl), PySem.W.mg_of X G a9⟩
  have F10 := fun_mk (st := sLPapText) l10 q10 k10
  have D10 : Df K mg "_law_paper_text" sLPapText ["_law_paper_here"] f10 _ := ⟨F10, F10.binds (ps := ["_law_paper_here"]) (fun _ _ _ _ _ _ us hl => match us, hl with | [_], _ => rfl), PySem.W.mg_of X G a10⟩
  have F11 := fun_mk (st := sLSame) l11 q11 k11
  have D11 : Df K mg "_law_same" sLSame ["_law_found", "_law_paper_here"] f11 _ := ⟨F11, F11.binds (ps := ["_law_found", "_law_paper_here"]) (fun _ _ _ _ _ _ us hl => match us, hl with | [_, _], _ => rfl), PySem.W.mg_of X G a11⟩
  have F12 := fun_mk (st := sLNumIn) l12 q12 k12
  have D12 : Df K mg "_law_number_in" sLNumIn ["_law_text"] f12 _ := ⟨F12, F12.binds (ps := ["_law_text"]) (fun _ _ _ _ _ _ us hl => match us, hl with | [_], _ => rfl), PySem.W.mg_of X G a12⟩
  have F13 := fun_mk (st := sLPlainIn) l13 q13 k13
  have D13 : Df K mg "_law_plain_in" sLPlainIn ["_law_text"] f13 _ := ⟨F13, F13.binds (ps := ["_law_text"]) (fun _ _ _ _ _ _ us hl => match us, hl with | [_], _ => rfl), PySem.W.mg_of X G a13⟩
  have F14 := fun_mk (st := sLPaperIn) l14 q14 k14
  have D14 : Df K mg "_law_paper_in" sLPaperIn ["_law_text"] f14 _ := ⟨F14, F14.binds (ps := ["_law_text"]) (fun _ _ _ _ _ _ us hl => match us, hl with | [_], _ => rfl), PySem.W.mg_of X G a14⟩
  have F15 := fun_mk (st := sLOnly) l15 q15 k15
  have D15 : Df K mg "_law_only" sLOnly ["_law_error"] f15 _ := ⟨F15, F15.binds (ps := ["_law_error"]) (fun _ _ _ _ _ _ us hl => match us, hl with | [_], _ => rfl), PySem.W.mg_of X G a15⟩
  have F16 := fun_mk (st := sLBent42) l16 q16 k16
  have D16 : Df K mg "_law_bent" sLBent42 ["_law_text", "_law_draws_here", "_law_signs"] f16 _ := ⟨F16, F16.binds (ps := ["_law_text", "_law_draws_here", "_law_signs"]) (fun _ _ _ _ _ _ us hl => match us, hl with | [_, _, _], _ => rfl), PySem.W.mg_of X G a16⟩
  have F17 := fun_mk (st := sLOdd) l17 q17 k17
  have D17 : Df K mg "_law_odd" sLOdd ["_law_number_here"] f17 _ := ⟨F17, F17.binds (ps := ["_law_number_here"]) (fun _ _ _ _ _ _ us hl => match us, hl with | [_], _ => rfl), PySem.W.mg_of X G a17⟩
  have F18 := fun_mk (st := sLaw) l18 q18 k18
  have t1 := tab_at T r1 X (PySem.W.mg_of X G a1) l1 rfl m1 v1
  have t5 := tab_at T r5 X (PySem.W.mg_of X G a5) l5 rfl m5 v5
  have hT : ∀ p ∈ ([(c1, P1), (c5, P5)] : List (Addr × Addr)), h.get? p.2 = some { cls := .none, data := .fields #[] } ∧ K.lookup p.2 = none ∧ PySem.W.CodeHd h p.1 p.2 := by
    intro p hp
    simp only [List.mem_cons, List.not_mem_nil, or_false] at hp
    rcases hp with rfl | rfl
    · exact ⟨t1.1, n1, t1.2⟩
    · exact ⟨t5.1, n5, t5.2⟩
  refine ⟨PySem.W.fnOf "law" "law" (defArgs sLaw) (defBody sLaw) (defScope sLaw) .none kV18 dc18 pm18 an18 cd18 ct18, [(c1, P1), (c5, P5)], spLaw K [P1, P5], fun p hp => (hT p hp).1, fun p hp => (hT p hp).2.1, fun p hp => (hT p hp).2.2, fun s v => .of_eq rfl, fun H a ns _ _ hH hS => ⟨a, ns, rfl, hS, ?_, fun _ => rfl⟩, fun base _ _ TB => ?_⟩
  · intro p hp
    simp only [List.mem_cons, List.not_mem_nil, or_false] at hp
    rcases hp with z | z
    · rw [z]
      exact ⟨#[], hH (c1, P1) (by simp), tri_nil⟩
    · rw [z]
      exact ⟨#[], hH (c5, P5) (by simp), tri_nil⟩
  · have B1 : GxR.TabB base mg c1 P1 := ⟨(TB (c1, P1) (by simp)).code, (TB (c1, P1) (by simp)).bm, (TB (c1, P1) (by simp)).gP⟩
    have B5 : GxR.TabB base mg c5 P5 := ⟨(TB (c5, P5) (by simp)).code, (TB (c5, P5) (by simp)).bm, (TB (c5, P5) (by simp)).gP⟩
    exact ok_law F18 D1 rfl B1 D2 D3 D4 D5 rfl B5 D6 D7 D8 D9 D10 D11 D12 D13 D14 D15 D16 D17 ⟨gb0, PySem.W.mg_of X G ga0, gc0, gd0, ge0⟩ ⟨PySem.W.mg_of X G ga0, PySem.W.mg_of X G hoL, PySem.W.mg_of X G hoS, PySem.W.mg_of X G hoW, PySem.W.mg_of X G hoN, PySem.W.mg_of X G hoA, PySem.W.mg_none_of X G hoV, PySem.W.kit_self _, PySem.W.kit_not uo0 hj0 ht0 hs0, PySem.W.kit_not uo1 hj1 ht1 hs1, PySem.W.kit_not uo2 hj2 ht2 hs2, PySem.W.kit_not uo3 hj3 ht3 hs3, PySem.W.kit_val hv, PySem.W.exm_ref hx1 hx2 hx3 hx4, ⟨hc1, hc2, gd0, hc4, hc5, hc6, hc7, hc8⟩⟩ (PySem.W.mg_of X G y0) u0 (PySem.W.mg_of X G y1) (PySem.W.mg_of X G y2) (PySem.W.mg_of X G y3) (PySem.W.mg_of X G y4) u4 (PySem.W.mg_none_of X G z0) (PySem.W.mg_none_of X G z1) (PySem.W.mg_none_of X G z2) (PySem.W.mg_none_of X G z3) (PySem.W.mg_none_of X G z4) (PySem.W.mg_none_of X G z5) (PySem.W.mg_none_of X G z6) (PySem.W.mg_none_of X G z7) (PySem.W.mg_none_of X G z8)
end Wa
open PySem PySem.W PyProof.Rows
set_option maxHeartbeats 0 in
theorem PySem.Challenge.cw_wordsapart_k43_texts_of_papers_looked_at_holds : PySem.Challenge.rw_wordsapart_k43_texts_of_papers_looked_at.Holds := by
  w_on; o_law; k_head; (case hw => w_witness2)
  k_fill
  refine Wa.walk_tabs (l := PySem.Challenge.rw_wordsapart_k43_texts_of_papers_looked_at) (n := 63) (k := 24) (x := "_law_script") (CX := fun _ => L2.CX0) rfl (by decide) rfl ⟨rfl, by decide, by decide⟩ (fun w h Y => PySem.W.kIn_of Y) ?F (fun _ _ _ _ _ h => h)
  case F =>
    intro w mg fa h KX G hmg TT
    refine' Wa.all_mk KX G hmg TT ?a1 ?l1 ?q1 ?k1 ?m1 ?v1 ?n1 ?r1 ?a2 ?l2 ?q2 ?k2 ?a3 ?l3 ?q3 ?k3 ?a4 ?l4 ?q4 ?k4 ?a5 ?l5 ?q5 ?k5 ?m5 ?v5 ?n5 ?r5 ?a6 ?l6 ?q6 ?k6 ?a7 ?l7 ?q7 ?k7 ?a8 ?l8 ?q8 ?k8 ?a9 ?l9 ?q9 ?k9 ?a10 ?l10 ?q10 ?k10 ?a11 ?l11 ?q11 ?k11 ?a12 ?l12 ?q12 ?k12 ?a13 ?l13 ?q13 ?k13 ?a14 ?l14 ?q14 ?k14 ?a15 ?l15 ?q15 ?k15 ?a16 ?l16 ?q16 ?k16 ?a17 ?l17 ?q17 ?k17 ?a18 ?l18 ?q18 ?k18 ?y0 ?u0 ?y1 ?y2 ?y3 ?y4 ?u4 ?ga0 ?gb0 ?gc0 ?gd0 ?ge0 ?hoL ?hoS ?hoW ?hoN ?hoA ?hoV ?uo0 ?hj0 ?ht0 ?hs0 ?uo1 ?hj1 ?ht1 ?hs1 ?uo2 ?hj2 ?ht2 ?hs2 ?uo3 ?hj3 ?ht3 ?hs3 ?hv ?hx1 ?hx2 ?hx3 ?hx4 ?hc1 ?hc2 ?hc4 ?hc5 ?hc6 ?hc7 ?hc8 ?z0 ?z1 ?z2 ?z3 ?z4 ?z5 ?z6 ?z7 ?z8
    (case a1 => k_is)
    (case l1 => k_is)
    (case q1 => k_is)
    (case k1 => k_is)
    (case m1 => k_is)
    (case v1 => rfl)
    (case n1 => first | rfl | exact rfl | decide +kernel | (trace_state; fail))
    (case r1 => decide +kernel)
    (case a2 => k_is)
    (case l2 => k_is)
    (case q2 => k_is)
    (case k2 => k_is)
    (case a3 => k_is)
    (case l3 => k_is)
    (case q3 => k_is)
    (case k3 => k_is)
    (case a4 => k_is)
    (case l4 => k_is)
    (case q4 => k_is)
    (case k4 => k_is)
    (case a5 => k_is)
    (case l5 => k_is)
    (case q5 => k_is)
    (case k5 => k_is)
    (case m5 => k_is)
    (case v5 => rfl)
    (case n5 => first | rfl | exact rfl | decide +kernel | (trace_state; fail))
    (case r5 => decide +kernel)
    (case a6 => k_is)
    (case l6 => k_is)
    (case q6 => k_is)
    (case k6 => k_is)
    (case a7 => k_is)
    (case l7 => k_is)
    (case q7 => k_is)
    (case k7 => k_is)
    (case a8 => k_is)
    (case l8 => k_is)
    (case q8 => k_is)
    (case k8 => k_is)
    (case a9 => k_is)
    (case l9 => k_is)
    (case q9 => k_is)
    (case k9 => k_is)
    (case a10 => k_is)
    (case l10 => k_is)
    (case q10 => k_is)
    (case k10 => k_is)
    (case a11 => k_is)
    (case l11 => k_is)
    (case q11 => k_is)
    (case k11 => k_is)
    (case a12 => k_is)
    (case l12 => k_is)
    (case q12 => k_is)
    (case k12 => k_is)
    (case a13 => k_is)
    (case l13 => k_is)
    (case q13 => k_is)
    (case k13 => k_is)
    (case a14 => k_is)
    (case l14 => k_is)
    (case q14 => k_is)
    (case k14 => k_is)
    (case a15 => k_is)
    (case l15 => k_is)
    (case q15 => k_is)
    (case k15 => k_is)
    (case a16 => k_is)
    (case l16 => k_is)
    (case q16 => k_is)
    (case k16 => k_is)
    (case a17 => k_is)
    (case l17 => k_is)
    (case q17 => k_is)
    (case k17 => k_is)
    (case a18 => k_is)
    (case l18 => k_is)
    (case q18 => k_is)
    (case k18 => k_is)
    (case y0 => k_is)
    (case u0 => first | rfl | kernel_rfl)
    (case y1 => k_is)
    (case y2 => k_is)
    (case y3 => k_is)
    (case y4 => k_is)
    (case u4 => first | rfl | kernel_rfl)
    (case ga0 => k_is)
    (case gb0 => k_exc)
    (case gc0 => k_is)
    (case gd0 => k_is)
    (case ge0 => k_is)
    (case hoL => k_is)
    (case hoS => k_is)
    (case hoW => k_is)
    (case hoN => k_is)
    (case hoA => k_is)
    (case hoV => k_is)
    (case uo0 => first | rfl | kernel_rfl)
    (case hj0 => k_is)
    (case ht0 => k_is)
    (case hs0 => k_is)
    (case uo1 => first | rfl | kernel_rfl)
    (case hj1 => k_is)
    (case ht1 => k_is)
    (case hs1 => k_is)
    (case uo2 => first | rfl | kernel_rfl)
    (case hj2 => k_is)
    (case ht2 => k_is)
    (case hs2 => k_is)
    (case uo3 => first | rfl | kernel_rfl)
    (case hj3 => k_is)
    (case ht3 => k_is)
    (case hs3 => k_is)
    (case hv => k_is)
    (case hx1 => k_is)
    (case hx2 => k_is)
    (case hx3 => k_is)
    (case hx4 => k_is)
    (case hc1 => k_is)
    (case hc2 => k_is)
    (case hc4 => k_is)
    (case hc5 => k_is)
    (case hc6 => k_is)
    (case hc7 => k_is)
    (case hc8 => k_is)
    (case z0 => k_is)
    (case z1 => k_is)
    (case z2 => k_is)
    (case z3 => k_is)
    (case z4 => k_is)
    (case z5 => k_is)
    (case z6 => k_is)
    (case z7 => k_is)
    (case z8 => k_is)
