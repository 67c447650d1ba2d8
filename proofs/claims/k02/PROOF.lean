import PyProof.Rows.All
import Wide.All
import OpenK.AllK
import Wide.FinOn
import HandS.ForMost
import HandS.Evl
import HandS.IsInst
import HandS.StrMore
import HandS.ListItems
import KE.SortData
import KE.Datum
import HandS.DictTup
import HandS.Keys
import KE.KDictPairs
import KE.KItemsList
import KE.DatumOrd
import KE.DataEq
import KE.DatumMore
import HandS.Exc
import HandS.ExcIs
import HandS.ExcField
import HandS.Lambda
import KE.KExcIs
import HandS.EndTab
import KE.KNestM
import HandS.ExcInit
import KE.KExcSuper
import KE.KSuper
import HandS.ExcValue
import HandS.TupAny
import KE.DataFind
import HandS.Walk
import HandS.SetFor
import KE.OsSortAny
import KE.GoesMore
import KE.GoesEnum
import HandS.Style
import HandS.Wide
import HandS.Deep
import HandS.Zip
import HandS.NoneIn
import HandS.DictComp
import PyProof.Rows.StrIntSpec
import PyProof.ReprLen
import PySem.Challenge.RW_cornerplans_k02_plans_and_limits_judged
import KE.RegKSuper
set_option Elab.async false
set_option linter.all false
set_option maxRecDepth 100000
set_option maxHeartbeats 4000000
/-! Pure defs over data: the frozen part F of a heap H, what a reading evaluates to as data. -/
namespace Cn
open PySem PySem.Spec PyProof.Rows L2
abbrev D := PyData
abbrev Ex := Evl.Ex
variable {K : PySem.W.Frag}

/-- a tuple that is written nowhere, with no dict of its own -/
def TupZ (K : PySem.W.Frag) (H : Hp) (a : Addr) (xs : List V) : Prop := (∃ o, H a = some (.frz o (.tup xs)) ∧ o.dict = none) ∨
  ∃ (o : Obj) (its : Array Value) (n : Nat), K.lookup a = some o ∧ o.cls = .type "tuple" ∧ o.dict = none ∧ o.data = .seq its n ∧ its.size ≤ sizeLine ∧ Vals xs its.toList
theorem TupZ.sq {H : Hp} {a : Addr} {xs : List V} (h : TupZ K H a xs) : SqT K H a xs := by
  rcases h with ⟨o, h, _⟩ | ⟨o, its, n, h1, h2, _, h3⟩
  · exact .inl (.inr ⟨o, h⟩)
  · exact .inr ⟨o, its, n, h1, h2, h3⟩
theorem TupZ.ex {H G : Hp} {a : Addr} {xs : List V} (e : Ex H G) (h : TupZ K H a xs) : TupZ K G a xs := by
  rcases h with ⟨o, h, d⟩ | h
  · exact .inl ⟨o, e a _ h, d⟩
  · exact .inr h
theorem TupZ.of {H : Hp} {a : Addr} {xs : List V} {o : Obj} (h : H a = some (.frz o (.tup xs))) (d : o.dict = none) : TupZ K H a xs := .inl ⟨o, h, d⟩
/-! a value that reads as data -/
mutual
inductive Dz (K : PySem.W.Frag) (H : Hp) : V → D → Prop
  | non : Dz K H .non .none
  | bl (b : Bool) : Dz K H (.bl b) (.bool b)
  | int (i : Int) : Dz K H (.int i) (.int i)
  | str (x : Str) : Dz K H (.str x) (.str x)
  | lst {a : Addr} {xs : List V} {ds : List D} : SqL K H a xs → DzAll K H xs ds → Dz K H (.ref a) (.list ds)
  | tup {a : Addr} {xs : List V} {ds : List D} : TupZ K H a xs → DzAll K H xs ds → Dz K H (.ref a) (.tuple ds)
  /-- a dict, of which nothing is told but that it is one -/
  | dct {a : Addr} {kvs : List (Key × V)} : H a = some (.dK kvs) → Dz K H (.ref a) (.dict [])
inductive DzAll (K : PySem.W.Frag) (H : Hp) : List V → List D → Prop
  | nil : DzAll K H [] []
  | cons {v : V} {vs : List V} {d : D} {ds : List D} : Dz K H v d → DzAll K H vs ds → DzAll K H (v :: vs) (d :: ds)
end
mutual
theorem Dz.dp {H : Hp} : ∀ {v : V} {d : D}, Dz K H v d → d.hasDict = false → Dp K H v d
  | _, _, .non, _ => .non
  | _, _, .bl b, _ => .bl b
  | _, _, .int i, _ => .int i
  | _, _, .str x, _ => .str x
  | _, _, .lst h t, n => .lst h (DzAll.dp t (by simpa [PyData.hasDict] using n))
  | _, _, .tup h t, n => .tup h.sq (DzAll.dp t (by simpa [PyData.hasDict] using n))
  | _, _, .dct _, n => by simp [PyData.hasDict] at n
theorem DzAll.dp {H : Hp} : ∀ {vs : List V} {ds : List D}, DzAll K H vs ds → PyData.hasDictAll ds = false → DpAll K H vs ds
  | _, _, .nil, _ => .nil
  | _, _, .cons h t, n => by
    rw [PyData.hasDictAll, Bool.or_eq_false_iff] at n
    exact .cons (Dz.dp h n.1) (DzAll.dp t n.2)
end
mutual
theorem dp_ex {F G : Hp} (e : Ex F G) : ∀ {v : V} {d : D}, Dz K F v d → Dz K G v d
  | _, _, .non => .non
  | _, _, .bl b => .bl b
  | _, _, .int i => .int i
  | _, _, .str x => .str x
  | _, _, .lst h t => .lst (Evl.ex_l e h) (dpa_ex e t)
  | _, _, .tup h t => .tup (h.ex e) (dpa_ex e t)
  | _, _, .dct h => .dct (e _ _ h)
theorem dpa_ex {F G : Hp} (e : Ex F G) : ∀ {vs : List V} {ds : List D}, DzAll K F vs ds → DzAll K G vs ds
  | _, _, .nil => .nil
  | _, _, .cons h t => .cons (dp_ex e h) (dpa_ex e t)
end

/-- F2 above F, H2 above H; what H knew and F did not, F2 does not know either -/
structure Grow (F H F2 H2 : Hp) : Prop where
  ff : Ex F F2
  fh : Ex F2 H2
  hh : Ex H H2
  nw : ∀ b o, H b = some o → F b = none → F2 b = none
  nt : (∀ b ps, F b ≠ some (.tbl ps)) → ∀ b ps, F2 b ≠ some (.tbl ps)
theorem Grow.refl {F H : Hp} (h : Ex F H) : Grow F H F H := ⟨Evl.Ex.refl _, h, Evl.Ex.refl _, fun _ _ _ q => q, fun h => h⟩
theorem Grow.trans {F H F1 H1 F2 H2 : Hp} (a : Grow F H F1 H1) (b : Grow F1 H1 F2 H2) : Grow F H F2 H2 :=
  ⟨a.ff.trans b.ff, b.fh, a.hh.trans b.hh, fun c o h q => b.nw c o (a.hh c o h) (a.nw c o h q), fun h => b.nt (a.nt h)⟩
theorem Grow.new {F H : Hp} {p : Addr} {o : HO} (e : Ex F H) (h : H p = none) (ht : ∀ ps, o ≠ .tbl ps := by intro ps e; cases e) : Grow F H (upd F p o) (upd H p o) := by
  have hf : F p = none := Evl.fresh_back e h
  refine ⟨Evl.Ex.new hf, fun a u q => ?_, Evl.Ex.new h, fun b u q z => ?_, fun hn b ps z => ?_⟩
  · by_cases c : a = p
    · subst c
      rw [upd_same] at q ⊢
      exact q
    · rw [upd_ne c] at q ⊢
      exact e a u q
  · rw [upd_ne (ne_of_none q h)]
    exact z
  · by_cases c : b = p
    · subst c
      rw [upd_same] at z
      exact ht ps (Option.some.inj z)
    · rw [upd_ne c] at z
      exact hn b ps z
/-- an object is made and stays one's own -/
theorem Grow.tmp {F H : Hp} {p : Addr} {o : HO} (e : Ex F H) (h : H p = none) : Grow F H F (upd H p o) :=
  ⟨Evl.Ex.refl _, e.trans (Evl.Ex.new h), Evl.Ex.new h, fun _ _ _ q => q, fun h => h⟩

/-! ### what a reading evaluates to -/
def EvD (K : PySem.W.Frag) (F : Hp) (te : TE) (σ : L2.St) (d : D) : Prop := ∀ F1 H1, Ex F F1 → Ex F1 H1 → ∀ Q : VK, (∀ v F2 H2, Grow F1 H1 F2 H2 → Dz K F2 v d → Q v H2) → te σ H1 Q
def EvB (F : Hp) (tt : TT) (σ : L2.St) (b : Bool) : Prop := ∀ F1 H1, Ex F F1 → Ex F1 H1 → ∀ Q : Bool → Hp → Prop, (∀ F2 H2, Grow F1 H1 F2 H2 → Q b H2) → tt σ H1 Q
def EvAs (K : PySem.W.Frag) (F : Hp) (ta : TA) (σ : L2.St) (ds : List D) : Prop := ∀ F1 H1, Ex F F1 → Ex F1 H1 → ∀ Q : List V → Hp → Prop, (∀ vs F2 H2, Grow F1 H1 F2 H2 → DzAll K F2 vs ds → Q vs H2) → ta σ H1 Q
/-- a block that hands back data -/
def EvS (K : PySem.W.Frag) (F : Hp) (ts : TS) (σ : L2.St) (d : D) : Prop := ∀ F1 H1, Ex F F1 → Ex F1 H1 → ∀ E : Ends, (∀ v F2 H2, Grow F1 H1 F2 H2 → Dz K F2 v d → E.rt v H2) → ts E σ H1
/-- a slot that holds data -/
def Sl (K : PySem.W.Frag) (F : Hp) (σ : L2.St) (i : Nat) (d : D) : Prop := ∃ v, σ[i]? = some (some v) ∧ Dz K F v d

section
variable {F G : Hp} {σ : L2.St} {te ta tb : TE} {tt tu : TT} {tas : TA} {d e : D} {ds : List D} {b c : Bool} {i : Nat}
theorem EvD.mono (x : Ex F G) (h : EvD K F te σ d) : EvD K G te σ d := fun F1 H1 a => h F1 H1 (x.trans a)
theorem EvB.mono (x : Ex F G) (h : EvB F tt σ b) : EvB G tt σ b := fun F1 H1 a => h F1 H1 (x.trans a)
theorem EvAs.mono (x : Ex F G) (h : EvAs K F tas σ ds) : EvAs K G tas σ ds := fun F1 H1 a => h F1 H1 (x.trans a)
theorem EvD.eq (h : EvD K F te σ d) (q : d = e) : EvD K F te σ e := q ▸ h
theorem EvB.eq (h : EvB F tt σ b) (q : b = c) : EvB F tt σ c := q ▸ h
theorem Sl.mono (x : Ex F G) (h : Sl K F σ i d) : Sl K G σ i d := let ⟨v, a, b⟩ := h; ⟨v, a, dp_ex x b⟩
theorem sl {v : V} (h : σ[i]? = some (some v)) (q : Dz K F v d) : Sl K F σ i d := ⟨v, h, q⟩

theorem ed_var (h : Sl K F σ i d) : EvD K F (tVar i) σ d := fun F1 H1 a z Q q => by
  obtain ⟨v, h1, h2⟩ := h
  exact ⟨v, h1, q v F1 H1 (Grow.refl z) (dp_ex a h2)⟩
theorem ed_c {v : V} (h : Dz K F v d) : EvD K F (tC v) σ d := fun F1 H1 a z Q q => q v F1 H1 (Grow.refl z) (dp_ex a h)
theorem ed_non : EvD K F (tC .non) σ .none := ed_c .non
theorem ed_int {n : Int} : EvD K F (tC (.int n)) σ (.int n) := ed_c (.int n)
theorem ed_bl : EvD K F (tC (.bl b)) σ (.bool b) := ed_c (.bl b)
theorem ed_str {x : Str} : EvD K F (tC (.str x)) σ (.str x) := ed_c (.str x)

theorem eas_nil : EvAs K F tNil σ [] := fun F1 H1 _ z _ q => q [] F1 H1 (Grow.refl z) .nil
theorem eas_cons (h : EvD K F te σ d) (t : EvAs K F tas σ ds) : EvAs K F (tCons te tas) σ (d :: ds) := fun F1 H1 a z Q q =>
  h F1 H1 a z _ fun v F2 H2 g r => t F2 H2 (a.trans g.ff) g.fh _ fun vs F3 H3 g2 r2 => q (v :: vs) F3 H3 (g.trans g2) (.cons (dp_ex g2.ff r) r2)
theorem eas_one (h : EvD K F te σ d) : EvAs K F (tCons te tNil) σ [d] := eas_cons h eas_nil
theorem eas_two (h : EvD K F ta σ d) (k : EvD K F tb σ e) : EvAs K F (tCons ta (tCons tb tNil)) σ [d, e] := eas_cons h (eas_one k)

/-! tests -/
theorem eb_val (h : EvD K F te σ (.bool b)) : EvB F (tB te) σ b := fun F1 H1 a z Q q => h F1 H1 a z _ fun v F2 H2 g r => by
  cases r
  exact ⟨b, rfl, q F2 H2 g⟩
theorem eb_test (h : EvD K F te σ (.bool b)) : EvB F (tTest te) σ b := fun F1 H1 a z Q q => h F1 H1 a z _ fun v F2 H2 g r => by
  cases r
  exact ⟨b, rfl, q F2 H2 g⟩
theorem eb_not (h : EvB F tt σ b) : EvB F (tNot tt) σ (!b) := fun F1 H1 a z _ q => h F1 H1 a z _ fun F2 H2 g => q F2 H2 g
theorem eb_and (h : EvB F tt σ b) (k : b = true → EvB F tu σ c) : EvB F (tAnd tt tu) σ (b && c) := fun F1 H1 a z Q q => h F1 H1 a z _ fun F2 H2 g => by
  cases b with
  | true => exact iteT (k rfl F2 H2 (a.trans g.ff) g.fh Q fun F3 H3 g2 => q F3 H3 (g.trans g2))
  | false => exact iteF (q F2 H2 g)
theorem eb_or (h : EvB F tt σ b) (k : b = false → EvB F tu σ c) : EvB F (tOr tt tu) σ (b || c) := fun F1 H1 a z Q q => h F1 H1 a z _ fun F2 H2 g => by
  cases b with
  | true => exact iteT (q F2 H2 g)
  | false => exact iteF (k rfl F2 H2 (a.trans g.ff) g.fh Q fun F3 H3 g2 => q F3 H3 (g.trans g2))
/-! truth values -/
theorem ed_and (h : EvD K F ta σ (.bool b)) (k : b = true → EvD K F tb σ (.bool c)) : EvD K F (tAndV ta tb) σ (.bool (b && c)) := fun F1 H1 a z Q q => h F1 H1 a z _ fun v F2 H2 g r => by
  cases r
  refine ⟨b, rfl, ?_⟩
  cases b with
  | true => exact iteT (k rfl F2 H2 (a.trans g.ff) g.fh Q fun v F3 H3 g2 => q v F3 H3 (g.trans g2))
  | false => exact iteF (q _ F2 H2 g (.bl false))
theorem ed_or (h : EvD K F ta σ (.bool b)) (k : b = false → EvD K F tb σ (.bool c)) : EvD K F (tOrV ta tb) σ (.bool (b || c)) := fun F1 H1 a z Q q => h F1 H1 a z _ fun v F2 H2 g r => by
  cases r
  refine ⟨b, rfl, ?_⟩
  cases b with
  | true => exact iteT (q _ F2 H2 g (.bl true))
  | false => exact iteF (k rfl F2 H2 (a.trans g.ff) g.fh Q fun v F3 H3 g2 => q v F3 H3 (g.trans g2))
theorem ed_not (h : EvD K F ta σ (.bool b)) : EvD K F (tNotV ta) σ (.bool (!b)) := fun F1 H1 a z Q q => h F1 H1 a z _ fun v F2 H2 g r => by
  cases r
  exact ⟨b, rfl, q _ F2 H2 g (.bl _)⟩
theorem ed_if (h : EvB F tt σ b) (k1 : b = true → EvD K F ta σ d) (k2 : b = false → EvD K F tb σ d) : EvD K F (tIf tt ta tb) σ d := fun F1 H1 a z Q q => h F1 H1 a z _ fun F2 H2 g => by
  cases b with
  | true => exact iteT (k1 rfl F2 H2 (a.trans g.ff) g.fh Q fun v F3 H3 g2 => q v F3 H3 (g.trans g2))
  | false => exact iteF (k2 rfl F2 H2 (a.trans g.ff) g.fh Q fun v F3 H3 g2 => q v F3 H3 (g.trans g2))

/-! operators and calls by values -/
/-- an operator on data that makes nothing new -/
theorem ed_op {r : R2} (h : EvD K F ta σ d) (k : EvD K F tb σ e) {f : D} (hr : ∀ x y F1 H1, Ex F1 H1 → Dz K F1 x d → Dz K F1 y e → ∀ Q : VK, (∀ v, Dz K F1 v f → Q v H1) → r x y H1 Q) : EvD K F (tOp r ta tb) σ f := fun F1 H1 a z Q q =>
  h F1 H1 a z _ fun v F2 H2 g r1 => k F2 H2 (a.trans g.ff) g.fh _ fun w F3 H3 g2 r2 => hr v w F3 H3 g2.fh (dp_ex g2.ff r1) r2 Q fun x r3 => q x F3 H3 (g.trans g2) r3
theorem ed_cb {r : List V → Hp → VK → Prop} (h : EvAs K F tas σ ds) {f : D} (hr : ∀ vs F1 H1, Ex F1 H1 → DzAll K F1 vs ds → ∀ Q : VK, (∀ v F2 H2, Grow F1 H1 F2 H2 → Dz K F2 v f → Q v H2) → r vs H1 Q) : EvD K F (tCB r tas) σ f := fun F1 H1 a z Q q =>
  h F1 H1 a z _ fun vs F2 H2 g r1 => hr vs F2 H2 g.fh r1 Q fun v F3 H3 g2 r2 => q v F3 H3 (g.trans g2) r2
def tTupZ (t : TA) : TE := fun σ H Q => t σ H fun xs H1 => xs.length ≤ sizeLine ∧ ∀ (p : Addr) (o : Obj), H1 p = none → o.dict = none → Q (.ref p) (upd H1 p (.frz o (.tup xs)))
theorem ed_tup (h : EvAs K F tas σ ds) (hl : ds.length ≤ 100000) : EvD K F (tTupZ tas) σ (.tuple ds) := fun F1 H1 a z Q q => h F1 H1 a z _ fun vs F2 H2 g r => by
  have l : ∀ {vs : List V} {ds : List D}, DzAll K F2 vs ds → vs.length = ds.length := fun {vs ds} r => by
    induction ds generalizing vs with
    | nil => cases r; rfl
    | cons d ds ih => cases r with
      | cons _ t => rw [List.length_cons, List.length_cons, ih t]
  refine ⟨Evl.sz_of (by rw [l r]; exact hl), fun p o hp hd => ?_⟩
  have n := Grow.new (o := .frz o (.tup vs)) g.fh hp
  exact q _ _ _ (g.trans n) (.tup (TupZ.of upd_same hd) (dpa_ex n.ff r))
end
theorem dpa_len {F : Hp} : ∀ {vs : List V} {ds : List D}, DzAll K F vs ds → vs.length = ds.length
  | _, _, .nil => rfl
  | _, _, .cons _ t => by rw [List.length_cons, List.length_cons, dpa_len t]
theorem dpa_get {F : Hp} : ∀ {vs : List V} {ds : List D} {i : Nat} {v : V}, DzAll K F vs ds → vs[i]? = some v → ∃ d, ds[i]? = some d ∧ Dz K F v d
  | _, _, _, _, .nil, e => by simp at e
  | _, _, 0, _, .cons h _, e => by simp at e; subst e; exact ⟨_, rfl, h⟩
  | _, _, i + 1, v, .cons _ t, e => by
    obtain ⟨d, h1, h2⟩ := dpa_get (i := i) (v := v) t (by simpa using e)
    exact ⟨d, by simpa using h1, h2⟩
theorem dpa_get' {F : Hp} : ∀ {vs : List V} {ds : List D} {i : Nat} {d : D}, DzAll K F vs ds → ds[i]? = some d → ∃ v, vs[i]? = some v ∧ Dz K F v d
  | _, _, _, _, .nil, e => by simp at e
  | _, _, 0, _, .cons h _, e => by simp at e; subst e; exact ⟨_, rfl, h⟩
  | _, _, i + 1, d, .cons _ t, e => by
    obtain ⟨v, h1, h2⟩ := dpa_get' (i := i) (d := d) t (by simpa using e)
    exact ⟨v, by simpa using h1, h2⟩
theorem dpa_app {F : Hp} : ∀ {vs ws : List V} {ds es : List D}, DzAll K F vs ds → DzAll K F ws es → DzAll K F (vs ++ ws) (ds ++ es)
  | _, _, _, _, .nil, h => h
  | _, _, _, _, .cons h t, k => .cons h (dpa_app t k)
theorem dpa_bools {F : Hp} : ∀ {vs : List V} {bs : List Bool}, DzAll K F vs (bs.map .bool) → vs = bs.map V.bl
  | _, [], .nil => rfl
  | _, _ :: bs, .cons h t => by
    cases h
    rw [dpa_bools t]
    rfl
theorem dpa_ints {F : Hp} : ∀ {vs : List V} {bs : List Int}, DzAll K F vs (bs.map .int) → vs = bs.map V.int
  | _, [], .nil => rfl
  | _, _ :: bs, .cons h t => by
    cases h
    rw [dpa_ints t]
    rfl
theorem dpa_strs {F : Hp} : ∀ {vs : List V} {bs : List Str}, DzAll K F vs (bs.map .str) → vs = bs.map V.str
  | _, [], .nil => rfl
  | _, _ :: bs, .cons h t => by
    cases h
    rw [dpa_strs t]
    rfl
theorem dpa_of_strs {F : Hp} : ∀ (bs : List Str), DzAll K F (bs.map V.str) (bs.map .str)
  | [] => .nil
  | _ :: bs => .cons (.str _) (dpa_of_strs bs)
/-! blocks -/
section
variable {F G : Hp} {σ : L2.St} {te ta tb : TE} {tt tu : TT} {ts tr : TS} {tas : TA} {d e : D} {ds : List D} {b c : Bool} {i : Nat}
theorem es_ret (h : EvD K F te σ d) : EvS K F (tRet te) σ d := fun F1 H1 a z E q => h F1 H1 a z _ q
theorem EvS.eq (h : EvS K F ts σ d) (q : d = e) : EvS K F ts σ e := q ▸ h
theorem es_set (h : EvD K F te σ e) (k : ∀ v G, Ex F G → Dz K G v e → EvS K G tr (σ.set i (some v)) d) : EvS K F (tSeq (tAsg te (gName i)) tr) σ d := fun F1 H1 a z E q =>
  h F1 H1 a z _ fun v F2 H2 g r => k v F2 (a.trans g.ff) r F2 H2 (Evl.Ex.refl _) g.fh E fun w F3 H3 g2 r2 => q w F3 H3 (g.trans g2) r2
theorem es_if (h : EvB F tt σ b) (k1 : b = true → EvS K F ts σ d) (k2 : b = false → EvS K F tr σ d) : EvS K F (tSeq (tIfS tt ts tNext) tr) σ d := fun F1 H1 a z E q => h F1 H1 a z _ fun F2 H2 g => by
  cases b with
  | true => exact iteT (k1 rfl F2 H2 (a.trans g.ff) g.fh _ fun w F3 H3 g2 r2 => q w F3 H3 (g.trans g2) r2)
  | false => exact iteF (k2 rfl F2 H2 (a.trans g.ff) g.fh E fun w F3 H3 g2 r2 => q w F3 H3 (g.trans g2) r2)
end

/-! ### promises of defs over data -/
def spD (K : PySem.W.Frag) (n : Nat) (R : List D → D → Prop) : Sp := fun vs H Q _ => ∃ ds d F, Ex F H ∧ DzAll K F vs ds ∧ ds.length = n ∧ R ds d ∧ ∀ v F2 H2, Grow F H F2 H2 → Dz K F2 v d → Q v H2
theorem spD_len {n : Nat} {R : List D → D → Prop} (vs : List V) (H : Hp) (Q : VK) (E : XK) (h : spD K n R vs H Q E) : vs.length = n := by
  obtain ⟨ds, d, F, _, h1, h2, _⟩ := h
  rw [dpa_len h1, h2]
theorem ed_call {F : Hp} {σ : L2.St} {tas : TA} {n : Nat} {R : List D → D → Prop} {ds : List D} {d : D} {E : XK} (h : EvAs K F tas σ ds) (hn : ds.length = n) (r : R ds d) : EvD K F (tCall (spD K n R) [] E tas) σ d := fun F1 H1 a z Q q =>
  h F1 H1 a z _ fun vs F2 H2 g r1 => ⟨ds, d, F2, g.fh, by rw [List.append_nil]; exact r1, hn, r, fun v F3 H3 g2 r2 => q v F3 H3 (g.trans g2) r2⟩
/-- a def of the module that keeps a promise -/
def Kp (P : Program) (w : World) (K : PySem.W.Frag) (mg : Str → Option Value) (base : Heap) (k : Nat) (x : Str) (ps : List Str) (sp : Sp) : Prop :=
  ∃ (f : Addr) (fd : FuncData), mg x = some (.ref f) ∧ PySem.W.keepIn K (.ref f) = true ∧ Binds K fd ps [] ∧ FnOk P w K mg base CX0 k f fd ps sp
theorem Kp.mono {P : Program} {w : World} {mg : Str → Option Value} {base : Heap} {j k : Nat} {x : Str} {ps : List Str} {sp : Sp} (h : Kp P w K mg base j x ps sp) (l : j ≤ k) : Kp P w K mg base k x ps sp :=
  let ⟨f, fd, a, b, c, d⟩ := h; ⟨f, fd, a, b, c, d.mono l⟩
theorem pe_kp {X : Cx} {k : Nat} {x : Str} {ps : List Str} {sp : Sp} {p pos : Pos} {e : Expr} {es : List Expr} {t : TA} (h : Kp X.prog X.w X.K X.mg X.base k x ps sp) (hr : Room k X.A) (hg : Gl X x) (ha : PA X (e :: es) t) (hdb : (x == ("__debug__" : Str)) = false := by decide)
    (he : starEach (e :: es) X.env = (false, eval e X.env) :: starEach es X.env := by rfl) (hpl : (backTo pos (starEach es X.env)).any (·.1) = false := by rfl) : PE X (.Call (.Name x p) (e :: es) [] pos) (tCall sp [] E0 t) := by
  obtain ⟨f, fd, h1, h2, h3, h4⟩ := h
  exact pe_call h4 hr hg h1 h2 h3 .nil pass0 ha hdb he hpl
/-- (a, b, ..), as an object that is never written -/
theorem pe_tupZ {X : Cx} {es : List Expr} {t : TA} {pos : Pos} {x1} (h : PA X es t) : PE X (.Tuple es x1 pos) (tTupZ t) := by
  refine ⟨fun pins s σ H Q I hq => ?_⟩
  refine wpAny_Tuple_spliced (thn (h.run pos pins s σ H _ I hq) fun us s1 ⟨xs, H1, I1, r, z, q⟩ => ⟨by rw [← r.length]; exact z, ?_⟩)
  have hf : H1 s1.heap.objs.size = none := I1.hok.fresh (Nat.le_refl _)
  have hg : (s1.heap.push { cls := Value.type "tuple", data := Data.seq us.toArray }).get? s1.heap.objs.size = some { cls := Value.type "tuple", data := Data.seq us.toArray } := Heap.get?_push_size _ rfl
  exact ⟨.ref s1.heap.objs.size, upd H1 s1.heap.objs.size (.frz { cls := Value.type "tuple", data := Data.seq us.toArray } (.tup xs)), I1.laid (t' := s1.toks) (fun b u e => Heap.get?_push_of_some _ e) (Nat.le_refl _) ⟨hg, z, us, r, ⟨_, hg, rfl, _, rfl⟩⟩, rfl, q _ _ hf rfl⟩
end Cn
set_option Elab.async false
set_option linter.all false
set_option maxRecDepth 100000
set_option maxHeartbeats 4000000
namespace Cn
open PySem PySem.Spec PyProof.Rows L2
variable {K : PySem.W.Frag}

/-! ### targets -/
theorem g_pair {F1 H1 : Hp} {σ : L2.St} {i j : Nat} {v : V} {d e : D} {R : L2.St → Hp → Prop} (r : Dz K F1 v (.tuple [d, e])) (z : Ex F1 H1)
    (k : ∀ v1 v2, Dz K F1 v1 d → Dz K F1 v2 e → R ((σ.set i (some v1)).set j (some v2)) H1) : gTup K 2 (gCons (gName i) (gCons (gName j) gNil)) v σ H1 R := by
  cases r with
  | tup hs ha =>
    cases ha with
    | cons h1 t =>
      cases t with
      | cons h2 t =>
        cases t
        exact ⟨_, _, rfl, (hs.ex z).sq, rfl, _, _, rfl, _, _, rfl, rfl, k _ _ h1 h2⟩

/-! ### [f(d) for d in ds if p(d)] -/
/-- what one turn must do: from an item v that reads as d to the places σ2 where test and element are read -/
def Turn (K : PySem.W.Frag) (F : Hp) (g : TG) (tt : TT) (te : TE) (σ : L2.St) (vs : List Nat) (p : D → Bool) (f : D → D) (d : D) : Prop :=
  ∀ v F1 H1, Ex F F1 → Ex F1 H1 → Dz K F1 v d → ∀ R : L2.St → Hp → Prop, (∀ σ2, wipe σ2 vs = wipe σ vs → EvB F1 tt σ2 (p d) → (p d = true → EvD K F1 te σ2 (f d)) → R σ2 H1) → g v (wipe σ vs) H1 R

/-- the invariant: behind the first items the new list at L -/
structure LcAt (K : PySem.W.Frag) (F H0 : Hp) (L : Addr) (ds : List D) (H : Hp) (Fi : Hp) (acc : List V) : Prop where
  g : Grow F H0 Fi H
  fl : Fi L = none
  at_ : H L = some (.lst acc)
  n0 : H0 L = none
  da : DzAll K Fi acc ds
theorem lc_turn {F H0 : Hp} {L : Addr} {g : TG} {tt : TT} {te : TE} {σ : L2.St} {vs : List Nat} {p : D → Bool} {f : D → D} {d : D} {ds : List D} {H : Hp} {Fi : Hp} {acc : List V} {v : V} (T : Turn K F g tt te σ vs p f d) (I : LcAt K F H0 L ds H Fi acc) (hd : Dz K F v d) (hn : ds.length < 100000)
    {Pn : Hp → Prop} (k : ∀ H' Fj acc', LcAt K F H0 L (if p d = true then ds ++ [f d] else ds) H' Fj acc' → Pn H') :
    g v (wipe σ vs) H fun σ2 H2 => wipe σ2 vs = wipe σ vs ∧ tt σ2 H2 fun b H3 => if b = true then te σ2 H3 fun y H4 => ∃ acc, H4 L = some (.lst acc) ∧ acc.length < sizeLine ∧ Pn (upd H4 L (.lst (acc ++ [y]))) else Pn H3 := by
  refine T v Fi H I.g.ff I.g.fh (dp_ex I.g.ff hd) _ fun σ2 w tb tv => ⟨w, tb Fi H (Evl.Ex.refl _) I.g.fh _ fun F3 H3 g3 => ?_⟩
  have f3 : F3 L = none := g3.nw L _ I.at_ I.fl
  by_cases hp : p d = true
  · rw [hp]
    refine iteT (tv hp F3 H3 g3.ff g3.fh _ fun y F4 H4 g4 r => ?_)
    have at4 : H4 L = some (.lst acc) := g4.hh L _ (g3.hh L _ I.at_)
    have f4 : F4 L = none := g4.nw L _ (g3.hh L _ I.at_) f3
    refine ⟨acc, at4, Evl.sz_lt (by rw [dpa_len I.da]; exact hn), k _ F4 (acc ++ [y]) ?_⟩
    have G := I.g.trans (g3.trans g4)
    rw [if_pos hp]
    exact ⟨⟨G.ff, Evl.Ex.mut G.fh f4, Evl.Ex.mut G.hh I.n0, G.nw, G.nt⟩, f4, upd_same, I.n0, dpa_app (dpa_ex (g3.trans g4).ff I.da) (.cons r .nil)⟩
  · rw [Bool.eq_false_iff.mpr hp]
    refine iteF (k _ F3 acc ?_)
    rw [if_neg (by rw [Bool.eq_false_iff.mpr hp]; exact Bool.false_ne_true)]
    exact ⟨I.g.trans g3, f3, g3.hh L _ I.at_, I.n0, dpa_ex g3.ff I.da⟩
/-- a new list of data -/
def EvN (K : PySem.W.Frag) (F : Hp) (te : TE) (σ : L2.St) (ds : List D) : Prop := ∀ F1 H1, Ex F F1 → Ex F1 H1 → ∀ Q : VK, (∀ p xs F2 H2, Grow F1 H1 F2 H2 → H1 p = none → F2 p = some (.lst xs) → DzAll K F2 xs ds → Q (.ref p) H2) → te σ H1 Q
theorem EvN.d {F : Hp} {te : TE} {σ : L2.St} {ds : List D} (h : EvN K F te σ ds) : EvD K F te σ (.list ds) := fun F1 H1 a z Q q => h F1 H1 a z Q fun p xs F2 H2 g _ h2 r => q _ F2 H2 g (.lst (SqL.of h2) r)
theorem LcAt.done {F H0 : Hp} {L : Addr} {ds : List D} {H : Hp} {Fi : Hp} {acc : List V} (I : LcAt K F H0 L ds H Fi acc) : Grow F H0 (upd Fi L (.lst acc)) H ∧ DzAll K (upd Fi L (.lst acc)) acc ds := by
  have x : Ex Fi (upd Fi L (.lst acc)) := Evl.Ex.new I.fl
  refine ⟨⟨I.g.ff.trans x, fun a o e => ?_, I.g.hh, fun b o e q => ?_, fun hn b ps z => ?_⟩, dpa_ex x I.da⟩
  · by_cases c : a = L
    · subst c
      rw [upd_same] at e
      rw [← e]
      exact I.at_
    · rw [upd_ne c] at e
      exact I.g.fh a o e
  · rw [upd_ne (ne_of_none e I.n0)]
    exact I.g.nw b o e q
  · by_cases c : b = L
    · subst c
      rw [upd_same] at z
      cases z
    · rw [upd_ne c] at z
      exact I.g.nt hn b ps z
theorem take_at {α : Type} {l : List α} {i : Nat} {x : α} (h : l[i]? = some x) : l.take (i + 1) = l.take i ++ [x] := by
  rw [List.take_succ, h]
  rfl
theorem fm_snoc (p : D → Bool) (f : D → D) (l : List D) (d : D) : ((l ++ [d]).filter p).map f = if p d = true then (l.filter p).map f ++ [f d] else (l.filter p).map f := by
  rw [List.filter_append, List.map_append]
  by_cases h : p d = true
  · rw [if_pos h, List.filter_cons_of_pos h]
    rfl
  · rw [if_neg h, List.filter_cons_of_neg h, List.filter_nil, List.map_nil, List.append_nil]
theorem fm_len (p : D → Bool) (f : D → D) (l : List D) (i : Nat) : (((l.take i).filter p).map f).length ≤ l.length := by
  rw [List.length_map]
  exact Nat.le_trans (List.length_filter_le _ _) (by rw [List.length_take]; omega)
theorem Turn.mono {F G : Hp} {g : TG} {tt : TT} {te : TE} {σ : L2.St} {vs : List Nat} {p : D → Bool} {f : D → D} {d : D} (e : Ex F G) (T : Turn K F g tt te σ vs p f d) : Turn K G g tt te σ vs p f d := fun v F1 H1 a => T v F1 H1 (e.trans a)
section
variable {F : Hp} {tl : TE} {g : TG} {tt : TT} {te : TE} {σ : L2.St} {vs : List Nat} {ds : List D}
theorem en_lcT (p : D → Bool) (f : D → D) (h : EvD K F tl σ (.tuple ds)) (hl : ds.length < 100000) (hs : ∀ d ∈ ds, Turn K F g tt te σ vs p f d) : EvN K F (tLc (iTup K tl) g tt te vs) σ ((ds.filter p).map f) := fun F1 H1 a z Q q =>
  h F1 H1 a z _ fun v F2 H2 g2 r => by
    cases r with
    | @tup b xs _ hsq ha =>
      refine ⟨b, rfl, ⟨xs, (hsq.ex g2.fh).sq⟩, fun L hL => ?_⟩
      refine lc_tup (xs := xs) (fun i H => ∃ Fi acc, LcAt K F2 H2 L (((ds.take i).filter p).map f) H Fi acc) ⟨F2, [], ⟨Grow.tmp g2.fh hL, Evl.fresh_back g2.fh hL, upd_same, hL, .nil⟩⟩
        (fun i H _ ⟨Fi, acc, I⟩ => (hsq.ex (I.g.ff.trans I.g.fh)).sq) (fun i x H hx ⟨Fi, acc, I⟩ => ?_) (fun H ⟨Fi, acc, I⟩ => ?_)
      · obtain ⟨d, hd, rd⟩ := dpa_get ha hx
        refine lc_turn ((hs d (List.mem_of_getElem? hd)).mono (a.trans g2.ff)) I rd (Nat.lt_of_le_of_lt (fm_len p f ds i) hl) fun H' Fj acc' J => ⟨Fj, acc', ?_⟩
        rw [take_at hd, fm_snoc]
        exact J
      · have e : ds.take xs.length = ds := by rw [dpa_len ha, List.take_length]
        rw [e] at I
        obtain ⟨g3, r3⟩ := I.done
        exact q _ _ _ _ (g2.trans g3) (Evl.fresh_back g2.hh hL) upd_same r3
theorem en_lcL (p : D → Bool) (f : D → D) (h : EvD K F tl σ (.list ds)) (hl : ds.length < 100000) (hs : ∀ d ∈ ds, Turn K F g tt te σ vs p f d) : EvN K F (tLc (iList K tl) g tt te vs) σ ((ds.filter p).map f) := fun F1 H1 a z Q q =>
  h F1 H1 a z _ fun v F2 H2 g2 r => by
    cases r with
    | @lst b xs _ hsq ha =>
      refine ⟨b, rfl, ⟨xs, Evl.ex_l g2.fh hsq⟩, fun L hL => ?_⟩
      refine lc_list (xs := xs) (fun i H => ∃ Fi acc, LcAt K F2 H2 L (((ds.take i).filter p).map f) H Fi acc) ⟨F2, [], ⟨Grow.tmp g2.fh hL, Evl.fresh_back g2.fh hL, upd_same, hL, .nil⟩⟩
        (fun i H _ ⟨Fi, acc, I⟩ => Evl.ex_l (I.g.ff.trans I.g.fh) hsq) (fun i x H hx ⟨Fi, acc, I⟩ => ?_) (fun H ⟨Fi, acc, I⟩ => ?_)
      · obtain ⟨d, hd, rd⟩ := dpa_get ha hx
        refine lc_turn ((hs d (List.mem_of_getElem? hd)).mono (a.trans g2.ff)) I rd (Nat.lt_of_le_of_lt (fm_len p f ds i) hl) fun H' Fj acc' J => ⟨Fj, acc', ?_⟩
        rw [take_at hd, fm_snoc]
        exact J
      · have e : ds.take xs.length = ds := by rw [dpa_len ha, List.take_length]
        rw [e] at I
        obtain ⟨g3, r3⟩ := I.done
        exact q _ _ _ _ (g2.trans g3) (Evl.fresh_back g2.hh hL) upd_same r3
/-- over range(n): items 0 .. n - 1 -/
def nats (n : Nat) : List D := (List.range n).map fun (i : Nat) => PyData.int (i : Int)
theorem nats_get {n i : Nat} (h : i < n) : (nats n)[i]? = some (.int (i : Int)) := by
  unfold nats
  rw [List.getElem?_map, List.getElem?_range h]
  rfl
theorem nats_len (n : Nat) : (nats n).length = n := by
  unfold nats
  rw [List.length_map, List.length_range]
theorem en_lcR (p : D → Bool) (f : D → D) {n : Int} (h : EvD K F tl σ (.int n)) (hl : n < 100000) (h0 : -100000 < n) (hs : ∀ d ∈ nats n.toNat, Turn K F g tt te σ vs p f d) : EvN K F (tLc (iRng1 (tCons tl tNil)) g tt te vs) σ (((nats n.toNat).filter p).map f) := fun F1 H1 a z Q q =>
  h F1 H1 a z _ fun v F2 H2 g2 r => by
    cases r
    refine ⟨n, rfl, by omega, by omega, fun L hL => ?_⟩
    refine lc_range (lo := 0) (n := n.toNat) (fun i H => ∃ Fi acc, LcAt K F2 H2 L ((((nats n.toNat).take i).filter p).map f) H Fi acc) ⟨F2, [], ⟨Grow.tmp g2.fh hL, Evl.fresh_back g2.fh hL, upd_same, hL, .nil⟩⟩
      (fun i H hi ⟨Fi, acc, I⟩ => ?_) (fun H ⟨Fi, acc, I⟩ => ?_)
    · have hd := nats_get hi
      have ez : (0 : Int) + (i : Int) = (i : Int) := Int.zero_add _
      rw [ez]
      refine lc_turn ((hs _ (List.mem_of_getElem? hd)).mono (a.trans g2.ff)) I (.int _) (Nat.lt_of_le_of_lt (fm_len p f _ i) (by rw [nats_len]; omega)) fun H' Fj acc' J => ⟨Fj, acc', ?_⟩
      rw [take_at hd, fm_snoc]
      exact J
    · have e : (nats n.toNat).take n.toNat = nats n.toNat := List.take_of_length_le (by rw [nats_len]; exact Nat.le_refl _)
      rw [e] at I
      obtain ⟨g3, r3⟩ := I.done
      exact q _ _ _ _ (g2.trans g3) (Evl.fresh_back g2.hh hL) upd_same r3
theorem ed_lcT (p : D → Bool) (f : D → D) (h : EvD K F tl σ (.tuple ds)) (hl : ds.length < 100000) (hs : ∀ d ∈ ds, Turn K F g tt te σ vs p f d) : EvD K F (tLc (iTup K tl) g tt te vs) σ (.list ((ds.filter p).map f)) := (en_lcT p f h hl hs).d
theorem ed_lcL (p : D → Bool) (f : D → D) (h : EvD K F tl σ (.list ds)) (hl : ds.length < 100000) (hs : ∀ d ∈ ds, Turn K F g tt te σ vs p f d) : EvD K F (tLc (iList K tl) g tt te vs) σ (.list ((ds.filter p).map f)) := (en_lcL p f h hl hs).d
theorem ed_lcR (p : D → Bool) (f : D → D) {n : Int} (h : EvD K F tl σ (.int n)) (hl : n < 100000) (h0 : -100000 < n) (hs : ∀ d ∈ nats n.toNat, Turn K F g tt te σ vs p f d) : EvD K F (tLc (iRng1 (tCons tl tNil)) g tt te vs) σ (.list (((nats n.toNat).filter p).map f)) := (en_lcR p f h hl h0 hs).d
theorem EvN.eq {es : List D} (h : EvN K F tl σ ds) (e : ds = es) : EvN K F tl σ es := e ▸ h
end
/-- no test -/
theorem eb_yes {F : Hp} {σ : L2.St} : EvB F tYes σ true := fun F1 H1 a z Q q => q F1 H1 (Grow.refl z)
theorem filter_yes {l : List D} : l.filter (fun _ => true) = l := List.filter_eq_self.mpr fun _ _ => rfl
/-- a turn whose target is one name -/
theorem turn_name {F : Hp} {tt : TT} {te : TE} {σ : L2.St} {vs : List Nat} {p : D → Bool} {f : D → D} {d : D} {i : Nat} (hw : ∀ v, wipe ((wipe σ vs).set i (some v)) vs = wipe σ vs)
    (ht : ∀ v G, Ex F G → Dz K G v d → EvB G tt ((wipe σ vs).set i (some v)) (p d)) (he : p d = true → ∀ v G, Ex F G → Dz K G v d → EvD K G te ((wipe σ vs).set i (some v)) (f d)) : Turn K F (gName i) tt te σ vs p f d :=
  fun v F1 H1 a z r R k => k _ (hw v) (ht v F1 a r) (fun h => he h v F1 a r)
theorem turn_pair {F : Hp} {tt : TT} {te : TE} {σ : L2.St} {vs : List Nat} {p : D → Bool} {f : D → D} {d e : D} {i j : Nat} (hw : ∀ v w, wipe (((wipe σ vs).set i (some v)).set j (some w)) vs = wipe σ vs)
    (ht : ∀ v w G, Ex F G → Dz K G v d → Dz K G w e → EvB G tt (((wipe σ vs).set i (some v)).set j (some w)) (p (.tuple [d, e])))
    (he : p (.tuple [d, e]) = true → ∀ v w G, Ex F G → Dz K G v d → Dz K G w e → EvD K G te (((wipe σ vs).set i (some v)).set j (some w)) (f (.tuple [d, e]))) :
    Turn K F (gTup K 2 (gCons (gName i) (gCons (gName j) gNil))) tt te σ vs p f (.tuple [d, e]) :=
  fun v F1 H1 a z r R k => g_pair r z fun v1 v2 r1 r2 => k _ (hw v1 v2) (ht v1 v2 F1 a r1 r2) (fun h => he h v1 v2 F1 a r1 r2)

/-! ### built-ins over data -/
section
variable {F : Hp} {σ : L2.St} {te ta tb : TE} {d e : D} {ds : List D}
theorem ed_all {bs : List Bool} (h : EvD K F te σ (.list (bs.map .bool))) : EvD K F (tCB (rAll K) (tCons te tNil)) σ (.bool (bs.all id)) := ed_cb (eas_one h) fun vs F1 H1 z r Q q => by
  cases r with
  | cons r t =>
    cases t
    cases r with
    | lst hs ha =>
      rw [dpa_bools ha] at hs
      exact ⟨_, bs, rfl, Evl.ex_l z hs, q _ F1 H1 (Grow.refl z) (.bl _)⟩
def tyD : D → String
  | .none => "NoneType"
  | .bool _ => "bool"
  | .int _ => "int"
  | .str _ => "str"
  | .list _ => "list"
  | .tuple _ => "tuple"
  | .dict _ => "dict"
theorem dp_tyx {H : Hp} {v : V} (r : Dz K H v d) : TyX K H v (.type (tyD d)) := by
  cases r with
  | non => exact .base .non
  | bl b => exact .base (.bl b)
  | int i => exact .base (.int i)
  | str x => exact .base (.str x)
  | lst hs _ =>
    rcases hs with (h | ⟨o, h⟩) | ⟨o, its, n, h, c, _⟩
    · exact .base (.lst h)
    · exact .base (.frz h)
    · exact .kList h c
  | tup hs _ =>
    rcases hs with ⟨o, h, _⟩ | ⟨o, its, n, h, c, _⟩
    · exact .fTuple h
    · exact .kTuple h c
  | dct h => exact .base (.dK h)
theorem ed_isi {T : String} {b : Bool} (h : EvD K F te σ d) (hk : kitB (tyD d) T = some b) : EvD K F (tCB (rIsi K) (tCons te (tCons (tC (.ty T)) tNil))) σ (.bool b) := fun F1 H1 a z Q q => h F1 H1 a z _ fun v F2 H2 g r =>
  ⟨v, .ty T, .type (tyD d), .type T, b, rfl, .ty T, dp_tyx (dp_ex g.fh r), kit_ty hk, q _ F2 H2 g (.bl b)⟩
/-- of two classes -/
theorem ed_isi2 {T S : String} {b c : Bool} (h : EvD K F te σ d) (hk : kitB (tyD d) T = some b) (hk2 : kitB (tyD d) S = some c) :
    EvD K F (tCB (rIsiT K) (tCons te (tCons (tTup (tCons (tC (.ty T)) (tCons (tC (.ty S)) tNil))) tNil))) σ (.bool (b || c)) := fun F1 H1 a z Q q => h F1 H1 a z _ fun v F2 H2 g r => by
  refine ⟨Evl.sz_of (show 2 ≤ 100000 by decide), fun p hp => ?_⟩
  have g3 := Grow.tmp (o := .tup [.ty T, .ty S]) g.fh hp
  refine ⟨v, p, [.ty T, .ty S], .type (tyD d), [.type T, .type S], b || c, rfl, upd_same, .cons (.ty T) (.cons (.ty S) .nil), dp_tyx (dp_ex g3.fh r), ?_, q _ F2 _ (g.trans g3) (.bl _)⟩
  refine kitAny_cons (kit_ty hk) (fun hb => ?_) (fun hb => by rw [hb]; rfl)
  subst hb
  cases c with
  | true => exact kitAny_cons (kit_ty hk2) (fun z => nomatch z) (fun _ => rfl)
  | false => exact kitAny_cons (kit_ty hk2) (fun _ => kitAny_nil) (fun z => nomatch z)
def lenD : D → Option Nat
  | .str x => if x.length ≤ 100000 then some x.length else none
  | .list xs => some xs.length
  | .tuple xs => some xs.length
  | _ => none
theorem ed_len {n : Nat} (h : EvD K F te σ d) (hn : lenD d = some n) : EvD K F (tCB (fun xs H Q => ∃ x n, xs = [x] ∧ LenV K x H n ∧ Q (.int n) H) (tCons te tNil)) σ (.int n) := ed_cb (eas_one h) fun vs F1 H1 z r Q q => by
  cases r with
  | cons r t =>
    cases t
    refine ⟨_, n, rfl, ?_, q _ F1 H1 (Grow.refl z) (.int _)⟩
    cases r with
    | non => cases hn
    | dct h => cases hn
    | bl b => cases hn
    | int i => cases hn
    | str x =>
      unfold lenD at hn
      dsimp only at hn
      split at hn
      · rename_i hx
        cases hn
        exact ⟨Evl.sz_of hx, rfl⟩
      · cases hn
    | lst hs ha =>
      cases hn
      exact .inl ⟨_, Evl.ex_l z hs, (dpa_len ha).symm⟩
    | tup hs ha =>
      cases hn
      exact .inr ⟨_, (hs.ex z).sq, (dpa_len ha).symm⟩
theorem ed_isN (h : EvD K F te σ d) {b : Bool} (hb : b = match d with | .none => true | _ => false) : EvD K F (tOp (fun x y H Q => y = .non ∧ Q (.bl (decide (x = .non))) H) te (tC .non)) σ (.bool b) :=
  ed_op h ed_non fun x y F1 H1 z r1 r2 Q q => by
    cases r2
    refine ⟨rfl, ?_⟩
    subst hb
    cases r1 <;> exact q _ (.bl _)
theorem ed_notN (h : EvD K F te σ d) {b : Bool} (hb : b = match d with | .none => false | _ => true) : EvD K F (tOp (fun x y H Q => y = .non ∧ Q (.bl (!decide (x = .non))) H) te (tC .non)) σ (.bool b) :=
  ed_op h ed_non fun x y F1 H1 z r1 r2 Q q => by
    cases r2
    refine ⟨rfl, ?_⟩
    subst hb
    cases r1 <;> exact q _ (.bl _)
/-- an operator on two ints -/
theorem ed_I0 {g : Int → Int → V} {gd : D} {i j : Int} (h : EvD K F ta σ (.int i)) (k : EvD K F tb σ (.int j)) (hg : ∀ G, Dz K G (g i j) gd) : EvD K F (tOp (rI0 g) ta tb) σ gd := ed_op h k fun x y F1 H1 z r1 r2 Q q => by
  cases r1
  cases r2
  exact ⟨i, j, rfl, rfl, q _ (hg _)⟩
theorem ed_ixL {i : Int} (h : EvD K F ta σ (.list ds)) (k : EvD K F tb σ (.int i)) (hd : atI ds i = some d) : EvD K F (tOp (rIxL K) ta tb) σ d := ed_op h k fun x y F1 H1 z r1 r2 Q q => by
  cases r2
  cases r1 with
  | lst hs ha =>
    unfold atI at hd
    rw [← dpa_len ha] at hd
    obtain ⟨j, h1, h2⟩ := Option.bind_eq_some_iff.mp hd
    obtain ⟨v, h3, h4⟩ := dpa_get' ha h2
    exact ⟨_, _, i, v, rfl, rfl, Evl.ex_l z hs, by unfold atI; rw [h1]; exact h3, q v h4⟩
theorem ed_ixT {i : Int} (h : EvD K F ta σ (.tuple ds)) (k : EvD K F tb σ (.int i)) (hd : atI ds i = some d) : EvD K F (tOp (rIxT K) ta tb) σ d := ed_op h k fun x y F1 H1 z r1 r2 Q q => by
  cases r2
  cases r1 with
  | tup hs ha =>
    unfold atI at hd
    rw [← dpa_len ha] at hd
    obtain ⟨j, h1, h2⟩ := Option.bind_eq_some_iff.mp hd
    obtain ⟨v, h3, h4⟩ := dpa_get' ha h2
    exact ⟨_, _, i, v, rfl, rfl, (hs.ex z).sq, by unfold atI; rw [h1]; exact h3, q v h4⟩
def rTupleZ (K : PySem.W.Frag) : List V → Hp → VK → Prop := fun xs H Q => ∃ p ys, xs = [.ref p] ∧ ((SqL K H p ys ∧ ∀ (l : Addr) (o : Obj), H l = none → o.dict = none → Q (.ref l) (upd H l (.frz o (.tup ys)))) ∨ (SqT K H p ys ∧ Q (.ref p) H))
theorem ed_tupleL (h : EvD K F te σ (.list ds)) : EvD K F (tCB (rTupleZ K) (tCons te tNil)) σ (.tuple ds) :=
  ed_cb (eas_one h) fun vs F1 H1 z r Q q => by
    cases r with
    | cons r t =>
      cases t
      cases r with
      | @lst b xs _ hs ha =>
        refine ⟨_, _, rfl, .inl ⟨Evl.ex_l z hs, fun l o hl hd => ?_⟩⟩
        have n := Grow.new (o := .frz o (.tup xs)) z hl
        exact q _ _ _ n (.tup (TupZ.of upd_same hd) (dpa_ex n.ff ha))
theorem ed_tupleT (h : EvD K F te σ (.tuple ds)) : EvD K F (tCB (rTupleZ K) (tCons te tNil)) σ (.tuple ds) :=
  ed_cb (eas_one h) fun vs F1 H1 z r Q q => by
    cases r with
    | cons r t =>
      cases t
      cases r with
      | @tup b xs _ hs ha => exact ⟨_, _, rfl, .inr ⟨(hs.ex z).sq, q _ F1 H1 (Grow.refl z) (.tup hs ha)⟩⟩
theorem ed_ltStr {x y : Str} (h : EvD K F ta σ (.str x)) (k : EvD K F tb σ (.str y)) : EvD K F (tOp (fun x y H Q => ∃ i j, x = .str i ∧ y = .str j ∧ Q (.bl (decide (i.cps.toList < j.cps.toList))) H) ta tb) σ (.bool (decide (x.cps.toList < y.cps.toList))) :=
  ed_op h k fun u v F1 H1 z r1 r2 Q q => by
    cases r1
    cases r2
    exact ⟨x, y, rfl, rfl, q _ (.bl _)⟩
/-- a text's method without arguments that hands back a truth value -/
theorem ed_m0 {x : Str} {g : Str → Bool} (h : EvD K F te σ (.str x)) : EvD K F (tM0 (fun x xs H Q => ∃ a, x = .str a ∧ xs = [] ∧ True ∧ Q (.bl (g a)) H) te) σ (.bool (g x)) := fun F1 H1 a z Q q => h F1 H1 a z _ fun v F2 H2 g2 r => by
  cases r
  exact ⟨⟨x, rfl⟩, x, rfl, rfl, True.intro, q _ F2 H2 g2 (.bl _)⟩
theorem ed_eqD {H : Hp} (h : EvD K F ta σ d) (k : EvD K F tb σ e) (s1 : SeqAt.shaped d = true) (s2 : SeqAt.shaped e = true) (n1 : d.hasDict = false) (n2 : e.hasDict = false) : EvD K F (tOp (rEqD K) ta tb) σ (.bool (PyData.eqv d e)) := ed_op h k fun u v F1 H1 z r1 r2 Q q =>
  ⟨d, e, (dp_ex z r1).dp n1, (dp_ex z r2).dp n2, s1, s2, q _ (.bl _)⟩
theorem ed_neD (h : EvD K F ta σ d) (k : EvD K F tb σ e) (s1 : SeqAt.shaped d = true) (s2 : SeqAt.shaped e = true) (n1 : d.hasDict = false) (n2 : e.hasDict = false) : EvD K F (tOp (rNeD K) ta tb) σ (.bool (!PyData.eqv d e)) := ed_op h k fun u v F1 H1 z r1 r2 Q q =>
  ⟨d, e, (dp_ex z r1).dp n1, (dp_ex z r2).dp n2, s1, s2, q _ (.bl _)⟩
end
/-- tuple(xs) -/
theorem call_tupleZ {X : Cx} {K : PySem.W.Frag} (hK : X.K = K) : CallR X (.type "tuple") (rTupleZ K) := by
  subst hK
  intro pins s σ H xs us Q I r h
  obtain ⟨p, ys, rfl, h⟩ := h
  obtain ⟨u, rfl, rx⟩ := vals1 r
  cases rx
  rcases h with ⟨hq, q⟩ | ⟨hq, q⟩
  · obtain ⟨its, r', pl, hz⟩ := I.list hq
    have hlen := r'.length
    refine call_tuple_list pl.isList (fun h' kp => ?_) (by simp only [List.size_toArray] <;> omega)
    have I1 : Inv X pins σ H { s with heap := h' } := I.kept (t' := s.toks) kp
    have hg : (h'.push { cls := Value.type "tuple", data := Data.seq its.toArray }).get? h'.objs.size = some { cls := Value.type "tuple", data := Data.seq its.toArray } := Heap.get?_push_size _ rfl
    exact ⟨.ref h'.objs.size, upd H h'.objs.size (.frz { cls := Value.type "tuple", data := Data.seq its.toArray } (.tup ys)), I1.laid (t' := s.toks) (fun b o e => Heap.get?_push_of_some _ e) (Nat.le_refl _) ⟨hg, hz, its, r', ⟨_, hg, rfl, _, rfl⟩⟩, rfl, q _ _ (I1.hok.fresh (Nat.le_refl _)) rfl⟩
  · obtain ⟨its, r', pl, hz⟩ := I.tuple hq
    exact call_tuple_same pl ⟨.ref p, H, I, rfl, q⟩
end Cn
set_option Elab.async false
set_option linter.all false
set_option maxRecDepth 100000
set_option maxHeartbeats 4000000
/-! Names: texts of one to six letters. -/
namespace Cn
open PySem PySem.Spec PyProof.Rows L2
def nameOk (x : Str) : Bool := decide (x.length ≤ 6) && (Txt.isascii x && (Txt.isalpha x && Txt.islower x))
def lowOk (c : Nat) : Bool := decide (c < 128) && (Unicode.isAlpha c && (Unicode.isLower c && !(Unicode.isUpper c || Unicode.isTitle c)))
abbrev lettersS : Str := "abcdefghijklmnopqrstuvwxyz"
theorem letters_low : lettersS.cps.toList.all lowOk = true := by decide +kernel
theorem letters_nd : lettersS.cps.toList.Nodup := by decide +kernel
theorem letters_len : lettersS.cps.toList.length = 26 := by decide +kernel
def Low (x : Str) : Prop := 1 ≤ x.cps.toList.length ∧ x.cps.toList.length ≤ 6 ∧ x.cps.toList.all lowOk = true
theorem nameOk_of {x : Str} (h : Low x) : nameOk x = true := by
  obtain ⟨h1, h2, h3⟩ := h
  have hl : x.length = x.cps.toList.length := rfl
  have hall : ∀ c ∈ x.cps.toList, lowOk c = true := fun c hc => List.all_eq_true.mp h3 c hc
  have f : ∀ c ∈ x.cps.toList, c < 128 ∧ Unicode.isAlpha c = true ∧ Unicode.isLower c = true ∧ (Unicode.isUpper c || Unicode.isTitle c) = false := fun c hc => by
    have h := hall c hc
    unfold lowOk at h
    simp only [Bool.and_eq_true, decide_eq_true_eq, Bool.not_eq_true'] at h
    exact h
  have e1 : Txt.isascii x = true := by
    show x.cps.all (· < 128) = true
    rw [← Array.all_toList]
    exact List.all_eq_true.mpr fun c hc => decide_eq_true (f c hc).1
  have e2 : Txt.isalpha x = true := by
    show (decide (x.length > 0) && x.cps.all Unicode.isAlpha) = true
    rw [← Array.all_toList, decide_eq_true (by omega), Bool.true_and]
    exact List.all_eq_true.mpr fun c hc => (f c hc).2.1
  have e3 : Txt.islower x = true := by
    show (x.cps.any Unicode.isLower && !x.cps.any fun c => Unicode.isUpper c || Unicode.isTitle c) = true
    rw [← Array.any_toList, ← Array.any_toList]
    have a1 : x.cps.toList.any Unicode.isLower = true := by
      cases hx : x.cps.toList with
      | nil => rw [hx] at h1; simp at h1
      | cons c r => exact List.any_eq_true.mpr ⟨c, List.mem_cons_self, (f c (by rw [hx]; exact List.mem_cons_self)).2.2.1⟩
    have a2 : (x.cps.toList.any fun c => Unicode.isUpper c || Unicode.isTitle c) = false := List.any_eq_false.mpr fun c hc => by rw [(f c hc).2.2.2]; exact Bool.false_ne_true
    rw [a1, a2]
    rfl
  unfold nameOk
  rw [decide_eq_true (by omega), e1, e2, e3]
  rfl
instance (x : Str) : Decidable (Low x) := by unfold Low; infer_instance
theorem low_a : Low "a" := by decide +kernel
theorem low_b : Low "b" := by decide +kernel
theorem low_c : Low "c" := by decide +kernel
theorem low_aa : Low "aa" := by decide +kernel
theorem low_none : Low "none" := by decide +kernel
theorem low_things : Low "things" := by decide +kernel
theorem low_z : Low "zzzzzz" := by decide +kernel
/-- a text of drawn signs -/
theorem join_signs (cs : List Nat) : (Txt.join "" (cs.map fun c => (⟨#[c]⟩ : Str))).cps.toList = cs := by
  have e : ∀ cs : List Nat, TL.joinL [] (cs.map fun c => [c]) = cs := fun cs => by
    induction cs with
    | nil => rfl
    | cons c cs ih =>
      cases cs with
      | nil => rfl
      | cons d r =>
        show [c] ++ ([] ++ TL.joinL [] ((d :: r).map fun c => [c])) = _
        rw [ih]
        rfl
  rw [TL.join_eq]
  refine (TL.tl_join "" _).trans ?_
  rw [List.map_map]
  exact e cs
/-- texts with another sign at their end -/
def cutL (x : Str) (c : Nat) : Str := cutS x none (some 5) ++ (⟨#[c]⟩ : Str)
def nexts (x : Str) : List Str := lettersS.cps.toList.map (cutL x)
theorem cut5 (x : Str) : (cutS x none (some 5)).cps.toList = x.cps.toList.take 5 := by
  show (((x.cps.toList.drop 0).take (min 5 x.length - 0)).toArray).toList = _
  rw [List.drop_zero]
  have e : x.length = x.cps.toList.length := rfl
  rw [e]
  show x.cps.toList.take (min 5 x.cps.toList.length - 0) = _
  rw [Nat.sub_zero]
  by_cases h : 5 ≤ x.cps.toList.length
  · rw [Nat.min_eq_left h]
  · rw [Nat.min_eq_right (by omega), List.take_length, List.take_of_length_le (by omega)]
theorem cutL_cps (x : Str) (c : Nat) : (cutL x c).cps.toList = x.cps.toList.take 5 ++ [c] := by
  refine (TL.tl_append _ _).trans ?_
  show (cutS x none (some 5)).cps.toList ++ [c] = _
  rw [cut5]
theorem cutL_low {x : Str} {c : Nat} (h : Low x) (hc : c ∈ lettersS.cps.toList) : Low (cutL x c) := by
  obtain ⟨h1, h2, h3⟩ := h
  unfold Low
  rw [cutL_cps, List.length_append, List.length_take]
  refine ⟨by simp, by simp; omega, ?_⟩
  rw [List.all_append, Bool.and_eq_true]
  refine ⟨List.all_eq_true.mpr fun d hd => List.all_eq_true.mp h3 d (List.mem_of_mem_take hd), ?_⟩
  rw [List.all_cons, List.all_nil, Bool.and_true]
  exact List.all_eq_true.mp letters_low c hc
theorem nexts_nd (x : Str) : (nexts x).Nodup := by
  unfold nexts
  refine List.Pairwise.map _ (fun a b h e => h ?_) letters_nd
  have e2 := congrArg (fun z : Str => z.cps.toList) e
  simp only [cutL_cps] at e2
  have e3 := List.append_cancel_left e2
  simpa using e3
theorem nodup_le {α : Type} [DecidableEq α] : ∀ (l m : List α), l.Nodup → (∀ x ∈ l, x ∈ m) → l.length ≤ m.length
  | [], _, _, _ => Nat.zero_le _
  | x :: l, m, h, s => by
    have hx := s x List.mem_cons_self
    have ih := nodup_le l (m.erase x) (List.nodup_cons.mp h).2 fun y hy => by
      have hne : y ≠ x := fun e => (List.nodup_cons.mp h).1 (e ▸ hy)
      exact (List.mem_erase_of_ne hne).mpr (s y (List.mem_cons_of_mem _ hy))
    rw [List.length_erase_of_mem hx] at ih
    have hm : 0 < m.length := List.length_pos_of_mem hx
    rw [List.length_cons]
    omega
/-- the words that may come next -/
def spare (x : Str) : List Str := x :: nexts x
theorem spare_free (x : Str) (fs : List Str) (h : fs.length < 26) : (spare x).filter (fun s => decide (s ∉ fs)) ≠ [] := by
  intro e
  have h2 : ∀ y ∈ nexts x, y ∈ fs := fun y hy => by
    by_cases hy2 : y ∈ fs
    · exact hy2
    · have h3 : y ∈ (spare x).filter (fun s => decide (s ∉ fs)) := List.mem_filter.mpr ⟨List.mem_cons_of_mem _ hy, decide_eq_true hy2⟩
      rw [e] at h3
      cases h3
  have h3 := nodup_le _ _ (nexts_nd x) h2
  unfold nexts at h3
  rw [List.length_map, letters_len] at h3
  omega
theorem spare_low {x y : Str} (h : Low x) (hy : y ∈ spare x) : Low y := by
  rcases List.mem_cons.mp hy with rfl | hy
  · exact h
  · obtain ⟨c, hc, rfl⟩ := List.mem_map.mp hy
    exact cutL_low h hc
theorem drawn_low {cs : List Nat} (h : ∀ c ∈ cs, c ∈ lettersS.cps.toList) (h1 : 1 ≤ cs.length) (h2 : cs.length ≤ 6) : Low (Txt.join "" (cs.map fun c => (⟨#[c]⟩ : Str))) := by
  unfold Low
  rw [join_signs]
  exact ⟨h1, h2, List.all_eq_true.mpr fun c hc => List.all_eq_true.mp letters_low c (h c hc)⟩
end Cn
set_option Elab.async false
set_option linter.all false
set_option maxRecDepth 100000
set_option maxHeartbeats 4000000
/-! dict(a tuple of pairs); sorted(d.items()) of a dict from texts to whole numbers. -/
namespace Cn
open PySem PySem.Spec PyProof.Rows L2
/-- what is added above F: the objects at the places of S, all new -/
theorem Grow.add {F H H' : Hp} (S : Addr → Prop) [DecidablePred S] (hS : ∀ b, S b → H b = none) (e : Ex F H) (e2 : Ex H H') (hT : ∀ b, S b → ∀ ps, H' b ≠ some (.tbl ps)) : Grow F H (fun b => if S b then H' b else F b) H' := by
  have nf : ∀ b, S b → F b = none := fun b hb => Evl.fresh_back e (hS b hb)
  refine ⟨fun a o h => ?_, fun a o h => ?_, e2, fun b o h q => ?_, fun hn b ps z => ?_⟩
  · have n : ¬ S a := fun z => by rw [nf a z] at h; cases h
    show (if S a then H' a else F a) = some o
    rw [if_neg n]
    exact h
  · have h : (if S a then H' a else F a) = some o := h
    by_cases n : S a
    · rw [if_pos n] at h
      exact h
    · rw [if_neg n] at h
      exact e2 a o (e a o h)
  · have n : ¬ S b := fun z => by rw [hS b z] at h; cases h
    show (if S b then H' b else F b) = none
    rw [if_neg n]
    exact q
  · have z : (if S b then H' b else F b) = some (.tbl ps) := z
    split at z
    · rename_i h
      exact hT b h ps z
    · exact hn b ps z

section
variable {X : Cx}
theorem TupZ.plain {pins : List (Addr × Obj)} {σ : L2.St} {H : Hp} {s : Shared} {a : Addr} {xs : List V} (I : Inv X pins σ H s) (h : TupZ X.K H a xs) : ∃ its : List Value, Vals xs its ∧ PlainSeq "tuple" s.heap a its.toArray ∧ xs.length ≤ sizeLine := by
  rcases h with ⟨o, h, hd⟩ | ⟨o, its, n, hk, hc, hd, hs, hz, r⟩
  · obtain ⟨hg, z, its, r, o', hg', hc, n, hs⟩ := (show ObjOk X.prog X.w H s.heap a (.frz o (.tup xs)) from I.hok a _ h)
    have e : o = o' := Option.some.inj (hg.symm.trans hg')
    subst e
    exact ⟨its, r, ⟨o, n, hg, hc, hd, hs⟩, z⟩
  · have e := r.length
    refine ⟨its.toList, r, ⟨o, n, I.kIn a o hk, hc, hd, by simpa using hs⟩, ?_⟩
    simp only [Array.length_toList] at e
    omega
theorem pairs_ofZ {pins : List (Addr × Obj)} {σ : L2.St} {H : Hp} {s : Shared} (I : Inv X pins σ H s) : ∀ {ps : List Addr} {kvs : List (Key × V)}, Paired (fun p kv => SqT X.K H p [kV kv.1, kv.2]) ps kvs →
    ∃ (prs : List (Key × Value)) (two : List (Value × Value)), KV kvs prs ∧ prs.length = ps.length ∧ two.length = ps.length ∧ ∀ (j : Nat) (u y : Value), two[j]? = some (u, y) → ∃ (b : Addr) (k : Key), ps[j]? = some b ∧ IsTup s.heap b #[u, y] ∧ prs[j]? = some (k, y) ∧ keyIs k u = true
  | _, _, .nil => ⟨[], [], .nil, rfl, rfl, fun j u y e => by simp at e⟩
  | _, _, .cons (a := p) (b := kv) h t => by
    obtain ⟨prs, two, r, hl, hl2, hp⟩ := pairs_ofZ I t
    obtain ⟨its, rv, ht, _⟩ := I.tuple h
    obtain ⟨u, y, ei, ru, ry⟩ := vals2 rv
    subst ei
    refine ⟨(kv.1, y) :: prs, (u, y) :: two, .cons ⟨rfl, ry⟩ r, by rw [List.length_cons, List.length_cons, hl], by rw [List.length_cons, List.length_cons, hl2], fun j u' y' e => ?_⟩
    cases j with
    | zero =>
      have e' : (u, y) = (u', y') := Option.some.inj e
      injection e' with e1 e2
      subst e1 e2
      exact ⟨p, kv.1, rfl, ht, rfl, kV_is (P := X.prog) (w := X.w) ru⟩
    | succ j =>
      obtain ⟨b, k, e1, e2, e3, e4⟩ := hp j u' y' (by simpa using e)
      exact ⟨b, k, by simpa using e1, e2, by simpa using e3, e4⟩
def rDictT (K : PySem.W.Frag) : List V → Hp → VK → Prop := fun xs H Q => ∃ (a : Addr) (ps : List Addr) (kvs : List (Key × V)), xs = [.ref a] ∧ TupZ K H a (ps.map V.ref) ∧ Paired (fun p kv => SqT K H p [kV kv.1, kv.2]) ps kvs ∧ ∀ p, H p = none → Q (.ref p) (upd H p (.dK (mergeK [] kvs)))
theorem call_dictT {K : PySem.W.Frag} (hK : X.K = K) (hcalm : X.calm = true) : CallR X (.type "dict") (rDictT K) := by
  subst hK
  intro pins s σ H xs us Q I r q
  obtain ⟨a, ps, kvs, ex, hq, hp, q⟩ := q
  subst ex
  obtain ⟨u, eu, rx⟩ := vals1 r
  subst eu
  cases rx
  obtain ⟨its, rv, pl, hz⟩ := hq.plain I
  have ei := refs_at rv
  subst ei
  rw [List.length_map] at hz
  obtain ⟨prs, two, rel, hl, hl2, hpr⟩ := pairs_ofZ I hp
  have it : PairItems s.heap (ps.map Value.ref).toArray (fun j => ps.getD j 0) two := ⟨by simp [hl2], fun j k v e => by
    obtain ⟨b, key, e1, ⟨o, ho, hc, n, hd⟩, _⟩ := hpr j k v e
    exact ⟨by simp [e1, List.getD_eq_getElem?_getD], .inl (by show s.heap.IsTuple (ps.getD j 0) #[k, v]; rw [List.getD_eq_getElem?_getD, e1]; exact ⟨o, ho, hc, n, hd⟩)⟩⟩
  refine PySem.call_dict_pairs (knd := mixKind X.prog X.w) (kvs := prs) (PairArg.tuple a _ _ two) (I.ok.hd hcalm) ⟨pl, it⟩ ⟨by rw [hl, hl2], fun i key v e => ?_⟩ (by rw [hl2]; exact hz) fun h' tk hd' k => ?_
  · obtain ⟨b, k, e1, e2, e3, e4⟩ := hpr i key v e
    exact ⟨k, e3, e4⟩
  · have k' : ∀ b o, s.heap.get? b = some o → h'.get? b = some o := fun b o e => k b o (by simp) e
    have hm : (s.heap.objs.size == sysModules) = false := beq_eq_false_iff_ne.mpr (Nat.ne_of_gt I.big)
    have hlen : (mergeK [] kvs).length ≤ sizeLine := by
      refine Nat.le_trans (length_mergeK kvs []) ?_
      rw [List.length_nil, Nat.zero_add, rel.length, hl]
      exact hz
    exact ⟨.ref s.heap.objs.size, upd H s.heap.objs.size (.dK (mergeK [] kvs)), I.laid (t' := tk) k' (Nat.le_refl _) (show ObjOk X.prog X.w _ _ _ (.dK (mergeK [] kvs)) from ⟨hlen, hm, merged [] prs, KV.merge rel .nil, hd'⟩), rfl, q _ (I.hok.fresh (Nat.le_refl _))⟩

/-! ### d.items() -/
def rItemsK : V → List V → Hp → VK → Prop := fun x xs H Q => ∃ (a : Addr) (kvs : List (Key × V)), x = .ref a ∧ xs = [] ∧ H a = some (.dK kvs) ∧ ∀ p, H p = none → Q (.ref p) (upd H p (DX.itemsO p a))
theorem mt_itemsK : MtR X "dict.items" rItemsK := by
  intro pins s σ H x xs v us Q I rx rxs h
  obtain ⟨a, kvs, rfl, rfl, ha, q⟩ := h
  cases rx
  cases rxs
  obtain ⟨z, hd, vs, rel, o, es, ep, ho, hx, hdat, _⟩ := dk_of I.hok ha
  refine DT.callItems (es := es) (ep := ep) hd ⟨o, ho, hx, hdat⟩ ?_
  have hf : H s.heap.objs.size = none := I.hok.fresh (Nat.le_refl _)
  exact ⟨.ref s.heap.objs.size, upd H s.heap.objs.size (DX.itemsO s.heap.objs.size a), I.laid (t' := s.toks) (fun b u e => Heap.get?_push_of_some _ e) (Nat.le_refl _) (DX.itemsO_ok (Heap.get?_push_size _ rfl)), rfl, q _ hf⟩
/-! ### sorted(d.items()), texts to whole numbers -/
abbrev kvI (q : Str × Int) : Key × V := (Sum.inr q.1, V.int q.2)
def prD (q : Str × Int) : D := .tuple [.str q.1, .int q.2]
def rSortItK : List V → Hp → VK → Prop := fun vs H Q => ∃ (p a : Addr) (ks : List (Str × Int)), vs = [.ref p] ∧ H p = some (DX.itemsO p a) ∧ H a = some (.dK (ks.map kvI)) ∧ ks.length ≤ 1000 ∧
  ∀ (H' : Hp) (l : Addr) (ts : List Addr), (∀ b o, H b = some o → H' b = some o) → H l = none → (∀ t ∈ ts, H t = none) → H' l = some (.lst (ts.map V.ref)) →
    Paired (fun (t : Addr) (q : Str × Int) => ∃ o : Obj, o.dict = none ∧ H' t = some (.frz o (.tup [.str q.1, .int q.2]))) ts (ks.mergeSort (PySem.W.dataLe false prD)) → Q (.ref l) H'
theorem takeZ {pins : List (Addr × Obj)} {σ : L2.St} {H0 : Hp} {s : Shared} {h' : Heap} {tk : Nat} {P : Addr → Obj → List V → Prop} (I0 : Inv X pins σ H0 s) : ∀ (L : List Addr) (H1 : Hp), Inv X pins σ H1 { s with heap := h', toks := tk } → L.Nodup →
    (∀ a ∈ L, s.heap.objs.size ≤ a ∧ H1 a = none ∧ ∃ o vs, P a o vs ∧ ∀ H2, ObjOk X.prog X.w H2 h' a (.frz o (.tup vs))) →
    ∃ H2, Inv X pins σ H2 { s with heap := h', toks := tk } ∧ (∀ b o, H1 b = some o → H2 b = some o) ∧ ∀ a ∈ L, ∃ o vs, P a o vs ∧ H2 a = some (.frz o (.tup vs))
  | [], H1, I1, _, _ => ⟨H1, I1, fun _ _ e => e, fun _ h => nomatch h⟩
  | a :: L, H1, I1, hn, h => by
    obtain ⟨hb, hnone, o, vs, hP, ok⟩ := h a (List.mem_cons_self ..)
    have I2 : Inv X pins σ (upd H1 a (.frz o (.tup vs))) { s with heap := h', toks := tk } := I1.take (h' := h') (t' := tk) (fun b ob _ e => e) (I0.fpOk hb hnone) (ok _)
    rw [List.nodup_cons] at hn
    obtain ⟨H2, I3, g, q⟩ := takeZ I0 L (upd H1 a (.frz o (.tup vs))) I2 hn.2 fun c hc => by
      obtain ⟨c1, c2, c3⟩ := h c (List.mem_cons_of_mem _ hc)
      exact ⟨c1, by rw [upd_ne (fun z => hn.1 (by rw [← z]; exact hc))]; exact c2, c3⟩
    refine ⟨H2, I3, fun b o e => g b o (by rw [upd_ne (ne_of_none e hnone)]; exact e), fun c hc => ?_⟩
    rcases List.mem_cons.mp hc with rfl | hc
    · exact ⟨o, vs, hP, g _ _ upd_same⟩
    · exact q c hc
theorem eachIs_of {α β : Type} {R : α → β → Prop} : ∀ {l : List α} {m : List β}, l.length = m.length → (∀ (j : Nat) (a : α) (b : β), l[j]? = some a → m[j]? = some b → R a b) → PySem.W.EachIs R l m
  | [], [], _, _ => .nil
  | a :: l, b :: m, h, f => .cons (f 0 a b rfl rfl) (eachIs_of (by simpa using h) fun j x y e1 e2 => f (j + 1) x y (by simpa using e1) (by simpa using e2))
theorem eachIs_len {α β : Type} {R : α → β → Prop} {l : List α} {m : List β} (h : PySem.W.EachIs R l m) : l.length = m.length := h.length
/-- the object of a pair (text, whole number) -/
def PrAt (h : Heap) (a : Addr) (q : Str × Int) (o : Obj) : Prop := ∃ t u, o = { cls := Value.type "tuple", data := Data.seq #[Value.str q.1 t, Value.int q.2 u] } ∧ h.get? a = some o
theorem PrAt.reads {h : Heap} {a : Addr} {q : Str × Int} {o : Obj} (x : PrAt h a q o) : Reads h (.ref a) (prD q) [] := by
  obtain ⟨t, u, rfl, e⟩ := x
  exact Reads.tuple e rfl rfl (.cons (.str _ _) (.cons (.int _ _) .nil))
theorem prD_alike (p q : Str × Int) : PySem.W.alike (prD p) (prD q) = true := by
  unfold prD
  simp [PySem.W.alike, PySem.W.alikeAll]
theorem prD_depth (p : Str × Int) : (prD p).depth ≤ 8 := by
  unfold prD
  simp [PyData.depth, PyData.depthAll]
theorem pairs_get {P : Program} {w : World} : ∀ {es : List DictEntry} {vs : List (Key × Value)}, Pairs (mixKind P w) es vs → ∀ {j : Nat} {e : DictEntry}, es[j]? = some e → ∃ k x, vs[j]? = some (k, x) ∧ keyIs k e.key = true ∧ e.val = x
  | _, _, .nil, j, e, h => by simp at h
  | _, _, .cons (kv := kv) h1 h2 t, 0, e, h => by
    have h := Option.some.inj h
    subst h
    exact ⟨kv.1, kv.2, rfl, h1, h2⟩
  | _, _, .cons _ _ t, j + 1, e, h => pairs_get t (by simpa using h)
theorem cr_sortItK (hc : X.calm = true) (hu : X.A.units + 64 < cLine) : CallR X (.builtin "sorted") rSortItK := by
  intro pins s σ H xs us Q I r h
  obtain ⟨p, a, ks, rfl, hp, ha, hlen, q⟩ := h
  obtain rfl := Vals.ref1 r
  have view : s.heap.IsItemsView p a := (show ObjOk X.prog X.w H s.heap p (DX.itemsO p a) from I.hok p _ hp).1
  obtain ⟨z, hd, vs, rel, o, es, ep, ho, hx, hdat, _, hes, _⟩ := dk_of I.hok ha
  have l1 : (ks.map kvI).length = vs.length := Paired.length rel
  rw [List.length_map] at l1
  have l2 : es.size = vs.length := by
    have e := hes.length
    rw [Array.length_toList] at e
    exact e
  have hh : X.A.handled = none := I.ok.hd hc
  have hsz : sizeLine = 16777216 := sizeLine_eq
  refine DT.sortedI (es := es) (ep := ep) hh view ⟨o, ho, hx, hdat⟩ (by omega) fun h' tk as hk hlt hl hG => ?_
  have nd : as.Nodup := List.Pairwise.imp (fun {a b} (h : a < b) => Nat.ne_of_lt h) hG.rise
  -- the pairs
  have pr : ∀ (j : Nat) (b : Addr), as[j]? = some b → ∃ (q : Str × Int) (o : Obj), ks[j]? = some q ∧ PrAt h' b q o := by
    intro j b hj
    obtain ⟨en, e1, e3⟩ := hG.pairs j b hj
    obtain ⟨k, x, e4, e2, e5⟩ := pairs_get hes (j := j) (e := en) (by simpa using e1)
    have hj' : j < ks.length := by
      have := (List.getElem?_eq_some_iff.mp e4).1
      omega
    obtain ⟨y, g1, g2, g3⟩ := LiI.paired_get rel (i := j) (x := kvI ks[j]) (by rw [List.getElem?_map, List.getElem?_eq_getElem hj']; rfl)
    rw [e4] at g1
    cases g1
    have g2' : (Sum.inr (ks[j]).1 : Key) = k := g2
    subst g2'
    have e2' : keyIs (Sum.inr (ks[j]).1) en.key = true := e2
    obtain ⟨t, ek⟩ := Value.isStrOf_shape (x := (ks[j]).1) (v := en.key) e2'
    obtain ⟨u, ex⟩ := (show ∃ u, x = Value.int (ks[j]).2 u from g3)
    refine ⟨ks[j], _, List.getElem?_eq_getElem hj', t, u, rfl, ?_⟩
    rw [← ek, ← ex, ← e5]
    exact e3
  have kb : ∀ b o, h'.get? b = some o → (h'.push { cls := .type "list", data := .seq (as.map Value.ref).toArray }).get? b = some o := fun b o e => Heap.get?_push_of_some _ e
  have hob : (h'.push { cls := .type "list", data := .seq (as.map Value.ref).toArray }).get? h'.objs.size = some (seqObj "list" (as.map Value.ref).toArray 0) := Heap.get?_push_size _ rfl
  have ne0 : ∀ b o, h'.get? b = some o → b ≠ h'.objs.size := fun b o e => Nat.ne_of_lt (Heap.lt_size e)
  generalize hh2 : h'.push { cls := .type "list", data := .seq (as.map Value.ref).toArray } = h2 at hob kb ⊢
  have lak : as.length = ks.length := by omega
  have R0 := eachIs_of (R := fun (v : Value) (q : Str × Int) => ∃ (b : Addr) (o : Obj), v = .ref b ∧ b ∈ as ∧ PrAt h' b q o) (l := as.map Value.ref) (m := ks) (by rw [List.length_map]; exact lak) fun j v q hv hq => by
    rw [List.getElem?_map] at hv
    obtain ⟨b, hb, rfl⟩ := Option.map_eq_some_iff.mp hv
    obtain ⟨q', o, g1, g2⟩ := pr j b hb
    rw [hq] at g1
    cases g1
    exact ⟨b, o, rfl, List.mem_of_getElem? hb, g2⟩
  refine PySem.W.list_sort_data (s := { s with heap := h2, toks := tk }) (enc := prD) hob R0 (R0.mono fun v q ⟨b, o, e1, e2, e3⟩ => ⟨[], e1 ▸ (show Reads h2 (.ref b) (prD q) [] from let ⟨t, u, eo, g⟩ := e3; PrAt.reads ⟨t, u, eo, kb _ _ g⟩), by simp⟩)
    (fun d hd d' hd' => by
      obtain ⟨x, _, rfl⟩ := List.mem_map.mp hd
      obtain ⟨y, _, rfl⟩ := List.mem_map.mp hd'
      exact prD_alike x y) (.inl fun d hd => by
      obtain ⟨x, _, rfl⟩ := List.mem_map.mp hd
      exact ⟨_, _, rfl⟩) (by omega) (fun b _ => by
      have h8 := prD_depth b
      show X.A.units + 1 + 1 + (prD b).depth < cLine
      omega) fun out hol hout => ?_
  show EP X pins σ Q (.ref h'.objs.size) { s with heap := sortedHeap h2 h'.objs.size (as.map Value.ref) out.toArray, toks := tk }
  have kF : ∀ b o, b ≠ h'.objs.size → h2.get? b = some o → (sortedHeap h2 h'.objs.size (as.map Value.ref) out.toArray).get? b = some o := fun b o hb e => (sortedHeap_old hb (Heap.lt_size e)).trans e
  have kG : ∀ b o, h'.get? b = some o → (sortedHeap h2 h'.objs.size (as.map Value.ref) out.toArray).get? b = some o := fun b o e => kF b o (ne0 _ _ e) (kb _ _ e)
  have kS : ∀ b o, s.heap.get? b = some o → (sortedHeap h2 h'.objs.size (as.map Value.ref) out.toArray).get? b = some o := fun b o e => kG _ _ (hk b o e)
  obtain ⟨eF, heF⟩ := sortedHeap_at (vs := as.map Value.ref) (out := out.toArray) hob
  have I1 : Inv X pins σ H { s with heap := sortedHeap h2 h'.objs.size (as.map Value.ref) out.toArray, toks := tk } := I.kept (t' := tk) kS
  have hn0 : H h'.objs.size = none := I.hok.fresh (Nat.le_of_lt hlt)
  -- the sorted list's addresses
  have zs_of : ∀ {out : List Value} {qs : List (Str × Int)}, PySem.W.EachIs (fun (v : Value) (q : Str × Int) => ∃ (b : Addr) (o : Obj), v = .ref b ∧ b ∈ as ∧ PrAt h' b q o) out qs →
      ∃ zs : List Addr, out = zs.map Value.ref ∧ Paired (fun (b : Addr) (q : Str × Int) => b ∈ as ∧ ∃ o, PrAt h' b q o) zs qs := fun {out qs} r => by
    induction r with
    | nil => exact ⟨[], rfl, .nil⟩
    | cons h _ ih =>
      obtain ⟨b, o, rfl, h1, h2⟩ := h
      obtain ⟨zs, rfl, h3⟩ := ih
      exact ⟨b :: zs, rfl, .cons ⟨h1, o, h2⟩ h3⟩
  obtain ⟨zs, ez, pz⟩ := zs_of hout
  have lz : zs.length = ks.length := by
    have e := hol
    rw [ez, List.length_map] at e
    exact e
  have rv : Vals (zs.map V.ref) out := by
    rw [ez]
    exact LiI.vals_refs zs
  have I2 : Inv X pins σ (upd H h'.objs.size (.lst (zs.map V.ref))) { s with heap := sortedHeap h2 h'.objs.size (as.map Value.ref) out.toArray, toks := tk } :=
    I1.take (h' := sortedHeap h2 h'.objs.size (as.map Value.ref) out.toArray) (t' := tk) (fun b ob _ e => e) (I.fpOk (Nat.le_of_lt hlt) hn0) ⟨by rw [List.length_map, lz]; omega, out, eF, rv, heF⟩
  have asn : ∀ b ∈ as, H b = none := fun b hb => I.hok.fresh (Nat.le_of_lt (hG.above b hb))
  obtain ⟨H2, I3, g, qt⟩ := takeZ (P := fun b o vs => ∃ q : Str × Int, PrAt h' b q o ∧ vs = [.str q.1, .int q.2]) I as _ I2 nd fun b hb => by
    obtain ⟨j, hj⟩ := List.mem_iff_getElem?.mp hb
    obtain ⟨q, o, hq, t, u, eo, hg⟩ := pr j b hj
    have hbl : s.heap.objs.size ≤ b := Nat.le_of_lt (hG.above b hb)
    refine ⟨hbl, ?_, o, [.str q.1, .int q.2], ⟨q, ⟨t, u, eo, hg⟩, rfl⟩, fun H3 => ⟨kG _ _ hg, by show 2 ≤ sizeLine; omega, [.str q.1 t, .int q.2 u], .cons ⟨t, rfl⟩ (.cons ⟨u, rfl⟩ .nil), ⟨o, kG _ _ hg, ?_⟩⟩⟩
    · rw [upd_ne (ne0 _ _ hg)]
      exact asn b hb
    · subst eo
      exact ⟨rfl, _, rfl⟩
  have gr : ∀ b o, H b = some o → H2 b = some o := fun b o e => g b o (by rw [upd_ne (ne_of_none e hn0)]; exact e)
  have fin : Paired (fun (t : Addr) (q : Str × Int) => ∃ o : Obj, o.dict = none ∧ H2 t = some (.frz o (.tup [.str q.1, .int q.2]))) zs (ks.mergeSort (PySem.W.dataLe false prD)) := L2.Paired.mapP pz fun b q ⟨hb, o, t, u, eo, hg⟩ => by
    obtain ⟨o', vs', ⟨q', ⟨t', u', eo', hg'⟩, rfl⟩, hH⟩ := qt b hb
    have e := Option.some.inj (hg.symm.trans hg')
    rw [eo, eo'] at e
    injection e with _ _ e2 _
    injection e2 with e3 _
    have e4 := congrArg Array.toList e3
    simp only [List.cons.injEq] at e4
    obtain ⟨e5, e6, _⟩ := e4
    injection e5 with e7 _
    injection e6 with e8 _
    refine ⟨o', by rw [eo'], ?_⟩
    rw [hH, e7, e8]
  have zn : ∀ t ∈ zs, H t = none := fun t ht => by
    obtain ⟨j, q, _, _, h1, _⟩ := LiI.paired_ix pz ht
    exact asn t h1
  exact ⟨.ref h'.objs.size, H2, I3, rfl, q H2 h'.objs.size zs gr hn0 zn (g _ _ upd_same) fin⟩
end
end Cn
set_option Elab.async false
set_option linter.all false
set_option maxRecDepth 100000
set_option maxHeartbeats 4000000
/-! The mathematics of plans and limits as lists of pairs. -/
namespace Cn
open PySem PySem.Spec PyProof.Rows L2
abbrev Plan := List (Str × Int)
abbrev Lim := List (Str × Option Int)
def optD : Option Int → D
  | none => .none
  | some n => .int n
def optV : Option Int → V
  | none => .non
  | some n => .int n
def lrD (q : Str × Option Int) : D := .tuple [.str q.1, optD q.2]
def planD (ps : Plan) : D := .tuple (ps.map prD)
def limD (ls : Lim) : D := .tuple (ls.map lrD)
def lim (ps : Plan) : Lim := ps.map fun q => (q.1, some q.2)
theorem planD_lim (ps : Plan) : limD (lim ps) = planD ps := by
  unfold limD planD lim
  rw [List.map_map]
  rfl
def laterM (ps : Plan) (n : Int) : Plan := ps.map fun q => (q.1, q.2 + n)
def lk {α : Type} (l : List (Str × α)) (x : Str) : Option α := (l.find? fun q => decide (q.1 = x)).map (·.2)
def roomM : Option Int → Option Int → Bool
  | _, none => true
  | none, some _ => false
  | some a, some b => decide (a ≤ b)
def withinM (one other : Lim) : Bool := one.all fun q => match lk other q.1 with
  | none => false
  | some l => roomM q.2 l
def putQ (acc : Plan) (x : Str) (v : Int) : Plan := if (acc.any fun p => decide (p.1 = x)) = true then acc.map (fun p => if p.1 = x then (p.1, v) else p) else acc ++ [(x, v)]
def mx (i j : Int) : Int := if j > i then j else i
def step (acc : Plan) (q : Str × Int) : Plan := putQ acc q.1 (mx q.2 ((lk acc q.1).getD q.2))
def steps (acc : Plan) (ps : Plan) : Plan := ps.foldl step acc
def joinAll (pss : List Plan) : Plan := pss.foldl steps []
def joinM (pss : List Plan) : Plan := (joinAll pss).mergeSort (PySem.W.dataLe false prD)

end Cn
set_option Elab.async false
set_option linter.all false
set_option maxRecDepth 100000
set_option maxHeartbeats 4000000
namespace Cn
open PySem PySem.Spec PyProof.Rows L2
mutual
theorem noDict_plain : ∀ d : D, d.plain = true → d.hasDict = false
  | .none, _ => by simp [PyData.hasDict]
  | .bool _, _ => by simp [PyData.hasDict]
  | .int _, _ => by simp [PyData.hasDict]
  | .str _, _ => by simp [PyData.hasDict]
  | .list xs, h => by
    simp only [PyData.hasDict]
    exact noDict_plains xs (by simpa [PyData.plain] using h)
  | .tuple xs, h => by
    simp only [PyData.hasDict]
    exact noDict_plains xs (by simpa [PyData.plain] using h)
  | .dict _, h => by simp [PyData.plain] at h
theorem noDict_plains : ∀ xs : List D, PyData.plainAll xs = true → PyData.hasDictAll xs = false
  | [], _ => by simp [PyData.hasDictAll]
  | x :: xs, h => by
    simp only [PyData.plainAll, Bool.and_eq_true] at h
    simp only [PyData.hasDictAll, noDict_plain x h.1, noDict_plains xs h.2, Bool.or_self]
end
/-! ### == and != of any data -/
def rEqP (K : PySem.W.Frag) : R2 := fun x y H Q => ∃ d e, Dz K H x d ∧ Dz K H y e ∧ d.plain = true ∧ e.plain = true ∧ d.depth ≤ 60 ∧ Q (.bl (PyData.eqv d e)) H
def rNeP (K : PySem.W.Frag) : R2 := fun x y H Q => ∃ d e, Dz K H x d ∧ Dz K H y e ∧ d.plain = true ∧ e.plain = true ∧ d.depth ≤ 60 ∧ Q (.bl (!PyData.eqv d e)) H
theorem op_eqP {X : Cx} {K : PySem.W.Frag} (hK : X.K = K) (hu : X.A.units + 64 < cLine) : OpR X (compareOp .Eq) (rEqP K) := by
  subst hK
  intro pins s σ H x y v u Q I rx ry h
  obtain ⟨d, e, hd, he, pd, pe, hdep, q⟩ := h
  obtain ⟨as, r1⟩ := Dp.reads I d x v (hd.dp (noDict_plain _ pd)) rx
  obtain ⟨bs, r2⟩ := Dp.reads I e y u (he.dp (noDict_plain _ pe)) ry
  exact SeqAt.eq_plain r1 r2 pd pe (Nat.lt_of_le_of_lt (Nat.add_le_add_left (Nat.le_trans (Nat.min_le_left _ _) (Nat.le_trans hdep (by decide))) _) hu) ⟨.bl _, H, I, rfl, q⟩
theorem op_neP {X : Cx} {K : PySem.W.Frag} (hK : X.K = K) (hu : X.A.units + 64 < cLine) : OpR X (compareOp .NotEq) (rNeP K) := by
  subst hK
  intro pins s σ H x y v u Q I rx ry h
  obtain ⟨d, e, hd, he, pd, pe, hdep, q⟩ := h
  obtain ⟨as, r1⟩ := Dp.reads I d x v (hd.dp (noDict_plain _ pd)) rx
  obtain ⟨bs, r2⟩ := Dp.reads I e y u (he.dp (noDict_plain _ pe)) ry
  exact SeqAt.ne_plain r1 r2 pd pe (Nat.lt_of_le_of_lt (Nat.add_le_add_left (Nat.le_trans (Nat.min_le_left _ _) (Nat.le_trans hdep (by decide))) _) hu) ⟨.bl _, H, I, rfl, q⟩
end Cn
set_option Elab.async false
set_option linter.all false
set_option maxRecDepth 100000
set_option maxHeartbeats 4000000
/-! A caught error that lives on: what an except clause bound stays known behind the clause. -/
namespace Cn
open PySem PySem.Spec PyProof.Rows L2

/-- at a: an error of the class cls whose own dict is d -/
def ErP (cls : Value) (d : Option Addr) (a : Addr) (h : Heap) : Prop := ∃ (ob : Obj) (vs : Array Value), h.get? a = some ob ∧ ob.cls = cls ∧ ob.dict = d ∧ ob.data = .fields vs
def ErO (cls : Value) (d : Option Addr) (a : Addr) : HO := .ext (ErP cls d a)
theorem erO_ok {P : Program} {w : World} {H : Hp} {h : Heap} {a : Addr} {cls : Value} {d : Option Addr} (e : ErP cls d a h) : ObjOk P w H h a (ErO cls d a) := by
  obtain ⟨ob, vs, e1, e2, e3, e4⟩ := e
  exact ⟨⟨ob, vs, e1, e2, e3, e4⟩, ⟨ob, e1⟩, fun h1 h2 ⟨ob, vs, k1, k2, k3, k4⟩ st => ⟨ob, vs, st _ k1, k2, k3, k4⟩⟩
section
variable {X : Cx} {pins : List (Addr × Obj)} {σ : L2.St} {H : Hp} {s : Shared} {a : Addr} {ob : Obj} {vs : Array Value} {cls : Value} {d : Option Addr}
/-- an object that the entry did not know is tracked from now on -/
theorem track (I : Inv X pins σ H s) (e : s.heap.get? a = some ob) (hd : ob.data = .fields vs) (z : Zc cls d ob) (n : H a = none) (new : X.s_0.heap.get? a = none) (nL : a ≠ X.env.locals) (np : ∀ p ∈ X.pn ++ pins, p.1 ≠ a) :
    Inv X pins σ (upd H a (ErO cls d a)) s := by
  have ne : ∀ {b : Addr} {o : HO}, H b = some o → b ≠ a := fun {b o} q w => by rw [w, n] at q; cases q
  refine ⟨I.ok, I.os, I.bare, ?_, I.loc, I.cell, ?_, ?_, ?_, ?_, I.len⟩
  · refine ⟨I.base.keep, I.base.slot, ?_, I.base.there, ?_, ?_, ?_⟩
    · intro b o q m x
      have w : b ≠ a := fun w => by rw [w, new] at q; cases q
      rw [upd_ne w]
      exact I.base.free b o q m x
    · intro b xs q
      have q2 := I.base.tups b xs q
      rw [upd_ne (ne q2)]
      exact q2
    · intro b o u q
      have q2 := I.base.frzs b o u q
      rw [upd_ne (ne q2)]
      exact q2
    · intro b ps q
      obtain ⟨more, q2⟩ := I.base.tbls b ps q
      refine ⟨more, ?_⟩
      rw [upd_ne (ne q2)]
      exact q2
  · rw [upd_ne (Ne.symm nL)]
    exact I.free
  · intro y c q
    have w : c ≠ a := fun w => by
      obtain ⟨v, o, k1, k2⟩ := I.cell y c q
      rw [w, e] at k1
      cases k1
      rw [hd] at k2
      cases k2
    rw [upd_ne w]
    exact I.freeC y c q
  · intro p hp
    obtain ⟨k1, k2, k3, k4, k5⟩ := I.pin p hp
    refine ⟨k1, ?_, k3, k4, k5⟩
    rw [upd_ne (np p hp)]
    exact k2
  · intro b u q
    by_cases w : b = a
    · subst w
      rw [upd_same] at q
      cases q
      exact erO_ok ⟨ob, vs, e, z.1, z.2, hd⟩
    · rw [upd_ne w] at q
      refine (I.hok b u q).stay (fun _ _ _ k => k) (fun c k => ?_) fun c xs k => ?_
      · rw [upd_ne (ne k)]
        exact k
      · rw [upd_ne (ne k)]
        exact k
end
/-- what an error of the body must meet: its class is caught, and behind the suite it is tracked -/
def wKeep (K : PySem.W.Frag) (c : Value) (i : Nat) (ts : Addr → Value → Option Addr → TS) (D : Ends) : WX := fun cls d σ H => PySem.W.exmOne K cls c = some true ∧
  ∀ a, H a = none → ts a cls d { nx := fun σ' H' => H' a = none ∧ D.nx (σ'.set i none) (upd H' a (ErO cls d a)), rt := fun _ _ => False } (σ.set i (some (.ref a))) H
section
variable {X : Cx} {x n : Str} {c : Value} {i : Nat} {body more : List Stmt} {st : Stmt} {np q1 q2 : Pos} {tb : WX → TS} {ts : Addr → Value → Option Addr → TS}
/-- try: body / except x as n: suite, where the error is known behind the suite -/
theorem ps_try_keep (kx : X.ex = []) (k1 : X.stack = X.env :: X.outer) (k2 : X.env.frame = some X.env.locals) (nd : X.N.Nodup) (at_ : X.N[i]? = some n) (kd : X.env.kindOf n = some .local) (hn : Names X x c)
    (hb : ∀ (W : WX) (pn : List (Addr × Obj)) (xe : Value → Shared → Prop), Takes (X.tr pn xe) W → PassesOwn (model X.prog X.w) X.A X.env xe → PSs (X.tr pn xe) body (tb W))
    (hq : ∀ (a : Addr) (ob : Obj) (cls : Value) (d : Option Addr) (pn : List (Addr × Obj)), Zc cls d ob → (∃ vs, ob.data = .fields vs) → PSs (X.suite a ((a, ob) :: pn)) (st :: more) (ts a cls d)) :
    PS X (.Try body [.ExceptHandler (some (.Name x np)) (some n) (st :: more) q1] [] [] q2) (fun D σ H => tb (wKeep X.K c i ts D) D σ H) := by
  refine ⟨fun pins s σ H D I h => wpAny_Try_except ?_⟩
  have good := I.ok
  have fr1 : X.A.frames = some (X.env :: X.outer) := by
    rw [good.frames, k1]
  let air : Value → Shared → Prop := fun e t1 => wpAny (model X.prog X.w) X.A (noteFrame e X.env)
    (fun _ t2 => wpAny (model X.prog X.w) X.A (setFlight e none)
      (fun _ t3 => wpAny (model X.prog X.w) X.A (handleBy e X.env [.ExceptHandler (some (.Name x np)) (some n) (st :: more) q1]) (SP X pins D) X.xe t3)
      X.xe t2)
    X.xe t1
  have body_ := hb (wKeep X.K c i ts D) (X.pn ++ pins) air
    (fun u t1 ⟨a, B, sI, pins', σ', H', cls, d, eu, J', nb, up, sky, na, os, ag, ec, hts⟩ => by
      subst eu
      have J : Inv X pins σ' H' sI := J'.ofTry good
      have new0 : ∀ {b : Addr} {o : Obj}, B.get? a = none → sI.heap.get? b = some o → b ∉ frs X.stack → b ≠ a := fun {b o} gone e1 e2 e3 => by
        have e4 := nb b o e1 e2
        rw [e3, gone] at e4
        cases e4
      have sky1 : Sky B (X.env :: X.outer) a (Zc cls d) X.env.locals t1.heap := by
        rw [← k1]
        exact sky
      refine Sky.land Zc.steady fr1 k2 sky1 fun g3 fly3 up3 => ?_
      have J3 : Inv X pins σ' H' { t1 with heap := g3 } := J.landed nb fly3.1 (up.trans up3) os ag
      obtain ⟨ob3, vs3, e3, z3, d3⟩ := fly3.there
      have notIn : a ∉ frs (X.env :: X.outer) := fun hm => by
        obtain ⟨_, o', k', nf⟩ := fly3.2.2.1.mem hm
        rw [e3] at k'
        cases k'
        exact nf _ d3
      have nL : a ≠ X.env.locals := fun w => notIn (List.mem_filterMap.mpr ⟨X.env, List.mem_cons_self, by rw [k2, w]⟩)
      have nF : a ∉ X.fs := fun hm => by
        obtain ⟨y, hy, qy⟩ := List.mem_filterMap.mp hm
        exact notIn (List.mem_filterMap.mpr ⟨y, List.mem_cons_of_mem _ hy, qy⟩)
      have nS : a ∉ frs X.stack := by
        rw [k1]
        exact notIn
      have gone : B.get? a = none := fly3.2.1
      have new : X.s_0.heap.get? a = none := by
        cases w : X.s_0.heap.get? a with
        | none => rfl
        | some o =>
          obtain ⟨o', w2⟩ := J.base.there a o w (by rw [kx]; exact List.not_mem_nil)
          exact (new0 gone w2 nS rfl).elim
      have np' : ∀ p ∈ X.pn ++ pins, p.1 ≠ a := fun p hp w => by
        obtain ⟨w1, _⟩ := J.pin p hp
        rw [w] at w1
        exact new0 gone w1 nS rfl
      have S3 := J3.suite e3 d3 na nL nF
      have ty : PySem.W.Looks (model X.prog X.w) g3 (typeOf (.ref a)) cls := fun A Q E s k q => wpAny_typeOf_ref (k _ _ e3) (by rw [z3.1]; exact q)
      have LM := PySem.W.exm_one (M := model X.prog X.w) J3.kIn ty ec
      refine wpAny_handleBy_cons (codeAny_handlers_test ?_) (by intro w; cases w)
      have cl : ∀ {Q E : Value → Shared → Prop}, Q c { t1 with heap := g3 } → wpAny (model X.prog X.w) (X.A.mark (some (.ref a))) (eval (.Name x np) X.env) Q E { t1 with heap := g3 } := fun {Q E} q => by
        obtain ⟨m1, m2, m3 | ⟨m3, m4, m5⟩⟩ := hn
        · exact ld_glob (X := X.suite a ((a, ob3) :: (X.pn ++ pins))) S3 m1 m3 q m2
        · exact ld_blt (X := X.suite a ((a, ob3) :: (X.pn ++ pins))) S3 m1 m3 m4 q m5 m2
      refine cl (LM.here (codeAny_handlers_suite_as ?_))
      refine HandSPX.lands_againZ fly3 fun g4 fly4 up4 => ?_
      have J4 : Inv X pins σ' H' { t1 with heap := g4 } := J.landed nb fly4.1 ((up.trans up3).trans up4) os ag
      obtain ⟨ob4, vs4, e4, z4, d4⟩ := fly4.there
      refine store_ok (X := X.suite a ((a, ob4) :: (X.pn ++ pins))) (v := .ref a) (J4.suite e4 d4 na nL nF) nd at_ (.inl kd) rfl (fun t5 S5 => ?_) (.inr kd)
      refine wpAny_mono ((hq a ob4 cls d (X.pn ++ pins) z4 ⟨_, d4⟩).run [] t5 _ H' _ S5 (hts a na)) (fun f t6 hsp => ?_) (fun _ _ w => False.elim w)
      cases f with
      | next =>
        obtain ⟨σ6, H6, S6, n6, q6⟩ := hsp
        obtain ⟨w1, w2, _⟩ := S6.pin (a, ob4) (List.mem_append_left _ List.mem_cons_self)
        have T6 := track (S6.unsuite good) w1 d4 z4 w2 new nL np'
        exact gone_ok T6 nd at_ kd fun t7 J7 => ⟨_, _, J7, q6⟩
      | brk =>
        obtain ⟨_, _, _, w⟩ := hsp
        exact False.elim w
      | cont =>
        obtain ⟨_, _, _, w⟩ := hsp
        exact False.elim w
      | ret u =>
        obtain ⟨_, _, _, _, _, w⟩ := hsp
        exact False.elim w)
    PassesOwn.looking
  refine wpAny_mono (body_.run [] s σ H D (I.toTry _) h) (fun f t1 hsp => ?_) (fun e t1 w => w)
  cases f with
  | next =>
    obtain ⟨σ', H', J', q⟩ := hsp
    exact wpAny_execs_nil ⟨σ', H', J'.ofTry good, q⟩
  | brk =>
    obtain ⟨σ', H', J', q⟩ := hsp
    exact ⟨σ', H', J'.ofTry good, q⟩
  | cont =>
    obtain ⟨σ', H', J', q⟩ := hsp
    exact ⟨σ', H', J'.ofTry good, q⟩
  | ret u =>
    obtain ⟨v, σ', H', J', r, q⟩ := hsp
    exact ⟨v, σ', H', J'.ofTry good, r, q⟩
end

/-! ### what is asked of a tracked error -/
/-- the error at a, as the heap tells it: with its own dict where it has one -/
def ErD (H : Hp) (d : Option Addr) : Prop := d = none ∨ ∃ dd fs, d = some dd ∧ H dd = some (.xd fs)
theorem inst_of {P : Program} {w : World} {H : Hp} {h : Heap} {a D : Addr} {d : Option Addr} (I : HOk P w H h) (e : H a = some (ErO (.ref D) d a)) (k : ErD H d) : ∃ (ob : Obj) (od : Option Obj), PySem.W.InstAt h a ob D od ∧ ∀ dd fs, d = some dd → H dd = some (.xd fs) →
    ∃ o mA, od = some o ∧ h.Ns1 dd mA ∧ h.get? dd = some o ∧ ∀ f, RelO (fs.lookup f) (mA f) := by
  obtain ⟨⟨ob, vs, e1, e2, e3, e4⟩, _, _⟩ := I a _ e
  obtain ⟨oc, odd, oda, osl⟩ := ob
  dsimp only at e2 e3 e4
  subst e2 e3 e4
  rcases k with k | ⟨dd, fs, k, q⟩
  · subst k
    exact ⟨_, none, ⟨e1, rfl, rfl, trivial⟩, fun dd fs z => nomatch z⟩
  · subst k
    obtain ⟨mA, hns, hr⟩ := I dd _ q
    obtain ⟨o, ho, _⟩ := lookIn_ns hns
    refine ⟨_, some o, ⟨e1, rfl, rfl, ho⟩, fun dd' fs' z w => ?_⟩
    cases z
    rw [q] at w
    cases w
    exact ⟨o, mA, rfl, hns, ho, hr⟩
/-- isinstance(e, c), e a tracked error -/
def rIsT (K : PySem.W.Frag) : List V → Hp → VK → Prop := fun xs H Q => ∃ (a D : Addr) (d : Option Addr) (c : V) (cv : Value) (b : Bool), xs = [.ref a, c] ∧ H a = some (ErO (.ref D) d a) ∧ ExcC K D ∧ ErD H d ∧
  (∀ u, RelV c u → u = cv) ∧ PySem.W.kitOne K (.ref D) cv = some b ∧ Q (.bl b) H
theorem call_isT {X : Cx} {K : PySem.W.Frag} (hK : X.K = K) : CallR X (.builtin "isinstance") (rIsT K) := by
  intro pins s σ H xs us Q I r h
  subst hK
  obtain ⟨a, D, d, c, cv, b, rfl, ha, C, k, hcv, e, q⟩ := h
  cases r with
  | cons rx rr =>
    cases rr with
    | cons rt rr =>
      cases rr
      cases rx
      have ec := hcv _ rt
      subst ec
      obtain ⟨ob, od, J, _⟩ := inst_of I.hok ha k
      obtain ⟨cd, hc, _⟩ := PySem.W.any_some C.hd
      exact PySem.W.kia_one (PySem.W.kitx_exc (by rw [hc]; rfl) C.hg C.hk C.hs C.ha C.hn C.ht C.hm) I.kIn J e (fun z => nomatch z) fun tk => ⟨.bl b, H, I.kept (t' := tk) fun _ _ z => z, rfl, q⟩
/-- e.f, e a tracked error -/
def tXt (K : PySem.W.Frag) (f : Str) (te : TE) : TE := fun σ H Q => te σ H fun x H1 => ∃ (a D dd : Addr) (fs : List (Str × V)) (v : V), x = .ref a ∧ H1 a = some (ErO (.ref D) (some dd) a) ∧ H1 dd = some (.xd fs) ∧ XfC K D ∧
  PySem.W.findIn K (.ref D) f = some none ∧ fs.lookup f = some v ∧ Q v H1
theorem pe_xt {X : Cx} {K : PySem.W.Frag} {e : Expr} {te : TE} {pos : Pos} {f : Str} (hK : X.K = K) (he : PE X e te) (hb : attributeBase e f X.env (eval e X.env) = eval e X.env := by rfl) : PE X (.Attribute e f pos) (tXt K f te) := by
  subst hK
  refine ⟨fun pins s σ H Q I h => attr_of hb (thn (he.run pins s σ H _ I h) fun u s1 hh => ?_)⟩
  obtain ⟨x, H1, I1, rx, a, D, dd, fs, v, ex, ea, ed, T, hno, l, q⟩ := hh
  subst ex
  cases rx
  obtain ⟨ob, od, J, k⟩ := inst_of I1.hok ea (.inr ⟨dd, fs, rfl, ed⟩)
  obtain ⟨o, mA, ho, hns, hg, hr⟩ := k dd fs rfl ed
  subst ho
  obtain ⟨o2, ho2, hl⟩ := lookIn_ns hns
  rw [hg] at ho2
  cases ho2
  obtain ⟨u, hu, ru⟩ := RelO.some_of (v := v) (o := mA f) (by rw [← l]; exact hr f)
  exact HandSPX.exc_get I1.kIn J T.ga T.gg T.exC (PySem.W.findObj_own T.hdC hno rfl (by rw [hl, hu])) (handed_of ru) ⟨v, H1, I1.tok _, ru, q⟩
end Cn
set_option Elab.async false
set_option linter.all false
set_option maxRecDepth 100000
set_option maxHeartbeats 4000000
namespace Cn
open PySem PySem.Spec PyProof.Rows L2 LamX
theorem takes_len {X : Cx} {W : WX} (tk : Takes X W) : Takes X (fun cls d σ H => σ.length = X.N.length → W cls d σ H) := fun u s' ⟨a, B, sI, pins, σ, H, cls, d, e, I, nb, up, sky, na, os, ag, w⟩ =>
  tk u s' ⟨a, B, sI, pins, σ, H, cls, d, e, I, nb, up, sky, na, os, ag, w I.len⟩
/-- c = None / try: a() / except E as e: c = e / return c -/
def TErr (K : PySem.W.Frag) (CE : Value) : (XK → Hp → VK → Prop) → Hp → VK → Prop := fun tl H Q =>
  tl (fun cls d H' => PySem.W.exmOne K cls CE = some true ∧ ∀ a, H' a = none → Q (.ref a) (upd H' a (ErO cls d a))) H (fun _ H' => ∃ v, (some (some V.non) : Option (Option V)) = some (some v) ∧ Q v H')
theorem err_gives {X : Cx} {x a c e E q : Str} {sg : Scope} {g : Addr} {cdg CE : Value} {j : Nat} {p1 p2 p3 p4 p5 p6 p7 p8 p9 p10 p11 p12 p13 p14 : Pos} (na : sg.names.lookup a = some .local) (nc : sg.names.lookup c = some .local) (ne : sg.names.lookup e = some .local) (nd : [a, c, e].Nodup)
    (hE : sg.names.lookup E = some .globalImplicit) (mE : X.mg E = some CE) (dE : (E == ("__debug__" : Str)) = false) (dc : (c == ("__debug__" : Str)) = false) (dd : (c == ("__classdict__" : Str)) = false) (de : (e == ("__debug__" : Str)) = false) (df : (e == ("__classdict__" : Str)) = false) :
    GivesTo X [a, c, e] x sg g cdg [.Assign [.Name c p1] (.Constant .none j p2) p3, .Try [.Expr (.Call (.Name a p4) [] [] p5) p6] [.ExceptHandler (some (.Name E p7)) (some e) [.Assign [.Name c p8] (.Name e p9) p10] p11] [] [] p12, .Return (some (.Name c p13)) p14] a q (TErr X.K CE) := by
  intro f c' s H Q tl act hc h
  let Z := (cxOf C8.CX0 X.prog X.w X.K X.mg X.base [a, c, e] x sg g cdg X.A X.stack s H C8.E0).nox
  refine ⟨_, pss_cons (ps_set (X := Z) (i := 1) nd rfl (Or.inl nc) pe_non) (pss_cons (ps_try_keep (X := Z) (i := 2) (c := CE) rfl rfl rfl nd rfl ne ⟨hE, dE, .inl mE⟩
    (tb := fun W D σ H => ∃ Ech : XK, (∀ cls d σ' H', Ech cls d H' → σ'.length = 3 → W cls d σ' H') ∧ σ[0]? = some (some (.ref f)) ∧ H c' = some (CodeO c' q) ∧ tl Ech H fun _ H' => D.nx σ H')
    (fun W pn xe tk _ => ?_) (fun b ob cls d pn _ _ => pss_one (ps_set (i := 1) nd rfl (Or.inl nc) (pe_var (i := 2) rfl (.inl ne) de df)))) (pss_one (ps_ret (pe_var (X := Z) (i := 1) rfl (.inl nc) dc dd)))), ?_⟩
  · refine ⟨fun pins s' σ H' D I h' => ?_⟩
    obtain ⟨Ech, hW, h1, h2, h3⟩ := h'
    have hq := pss_one (ps_expr (pos := p6) (act _ pn xe Ech p4 p5 (takes_len tk) (fun cls d σ' H' w l => hW cls d σ' H' w l)))
    exact hq.run pins s' σ H' D I ⟨h1, h2, h3⟩
  · refine ⟨fun cls d H' => PySem.W.exmOne X.K cls CE = some true ∧ ∀ b, H' b = none → Q (.ref b) (upd H' b (ErO cls d b)), fun cls d σ' H' w l => ⟨w.1, fun b hb => ?_⟩, rfl, hc, h⟩
    match σ', l with
    | [y0, y1, y2], _ => exact ⟨_, rfl, hb, _, rfl, w.2 b hb⟩
end Cn
set_option Elab.async false
set_option linter.all false
set_option maxRecDepth 100000
set_option maxHeartbeats 4000000
/-! The end of a law whose own body asks repr: the call is judged where the claim's own caller stands (nothing is being shown there). -/
namespace Cn
open PySem PySem.Spec PyProof.Rows L2 LamX
section
variable {P : Program} {w : World} {K : PySem.W.Frag} {mg mb : Str → Option Value} {fa a : Addr} {cs : List (Addr × Addr)} {s₁ : Shared} {vs : List Value} {ns : List Int}
abbrev TabO : Obj := { cls := .none, data := .fields #[] }
abbrev LstO (vs : List Value) : Obj := { cls := .type "list", data := .seq vs.toArray }
/-- what is tracked when the law begins: its script (where it is not the module's own), the tables -/
def startH (K : PySem.W.Frag) (a : Addr) (vs : List Value) (ns : List Int) (ts : List Addr) : Hp := fun b =>
  if b ∈ ts then some (.tbl #[]) else if b = a ∧ K.lookup a = none then some (.frz (LstO vs) (.lst (ns.map V.int))) else none
theorem startH_t {ts : List Addr} {b : Addr} (h : b ∈ ts) : startH K a vs ns ts b = some (.tbl #[]) := if_pos h
theorem startH_a {ts : List Addr} (h : a ∉ ts) (k : K.lookup a = none) : startH K a vs ns ts a = some (.frz (LstO vs) (.lst (ns.map V.int))) := (if_neg h).trans (if_pos ⟨rfl, k⟩)
theorem startH_n {ts : List Addr} {b : Addr} (h : b ∉ ts) (k : ¬ (b = a ∧ K.lookup a = none)) : startH K a vs ns ts b = none := (if_neg h).trans (if_neg k)
theorem startH_or (ts : List Addr) (b : Addr) : (b ∈ ts ∧ startH K a vs ns ts b = some (.tbl #[])) ∨ (b ∉ ts ∧ b = a ∧ K.lookup a = none ∧ startH K a vs ns ts b = some (.frz (LstO vs) (.lst (ns.map V.int)))) ∨ (b ∉ ts ∧ startH K a vs ns ts b = none) := by
  by_cases h : b ∈ ts
  · exact .inl ⟨h, startH_t h⟩
  · by_cases k : b = a ∧ K.lookup a = none
    · obtain ⟨rfl, k⟩ := k
      exact .inr (.inl ⟨h, rfl, k, startH_a h k⟩)
    · exact .inr (.inr ⟨h, startH_n h k⟩)

theorem law_runG (KX : K.In s₁.heap) (gl : s₁.heap.Ns mainGlobals mg) (bl : s₁.heap.Ns builtinsNs mb) (bb : ∀ x : Str, x ≠ "__name__" → mb x = bootBuiltins x) (lim : s₁.heap.NoLimit) (gens : s₁.gens = #[])
    (tabs : ∀ p ∈ cs, s₁.heap.get? p.2 = some TabO) (noT : ∀ p ∈ cs, K.lookup p.2 = none) (codes : ∀ p ∈ cs, PySem.W.CodeHd s₁.heap p.1 p.2)
    (main : ∃ (bm : Addr) (ob : Obj), mg "__builtins__" = some (.ref bm) ∧ bm ≠ builtinsNs ∧ s₁.heap.get? bm = some ob ∧ ob.cls = .type "module" ∧ ob.dict = some builtinsNs ∧ ob.data = .plain)
    (scr : s₁.heap.get? a = some (LstO vs)) (hi : IntsAre vs ns) (sz : ns.length ≤ sizeLine)
    (F : ∀ (base : Heap) (H : Hp), K.In base → base.Ns mainGlobals mg → (∀ p ∈ cs, TabB base mg p.1 p.2) → (∀ p ∈ cs, H p.2 = some (.tbl #[])) → SqL K H a (ns.map V.int) → Env0 P w K mg base callerA [] s₁ H →
      codeAny (model P w) callerA (.call (.ref fa) ⟨[.ref a], []⟩) (CR C8.CX0 [] P w H s₁ (fun v _ => v = .bl true) (fun _ _ _ => False)) s₁) :
    codeAny (model P w) callerA (.call (.ref fa) ⟨[.ref a], []⟩) (fun r s' => r = .ok (.ret (.bool true)) ∧ OldK s₁.heap s'.heap ∧ s'.os = s₁.os ∧ AllBare s'.gens) s₁ := by
  obtain ⟨ts, hts⟩ : ∃ ts : List Addr, ts = cs.map (·.2) := ⟨_, rfl⟩
  have inT : ∀ p ∈ cs, p.2 ∈ ts := fun p hp => by
    rw [hts]
    exact List.mem_map_of_mem hp
  have ofT : ∀ b ∈ ts, ∃ p ∈ cs, p.2 = b := fun b hb => by
    rw [hts] at hb
    exact List.mem_map.mp hb
  have tab : ∀ b ∈ ts, s₁.heap.get? b = some TabO := fun b hb => by
    obtain ⟨p, hp, rfl⟩ := ofT b hb
    exact tabs p hp
  have lenV := hi.length
  have rv := vals_ints hi
  have aT : a ∉ ts := fun z => by
    have q := (tab a z).symm.trans scr
    cases q
  obtain ⟨H, hH⟩ : ∃ H : Hp, H = startH K a vs ns ts := ⟨_, rfl⟩
  have or_ := startH_or (K := K) (a := a) (vs := vs) (ns := ns) ts
  rw [← hH] at or_
  -- what is of another kind is not tracked
  have free : ∀ {b : Addr} {o : Obj}, s₁.heap.get? b = some o → (∀ us n, o.data ≠ .seq us n) → o.data ≠ .fields #[] → H b = none := fun {b o} e n1 n2 => by
    rcases or_ b with ⟨m, q⟩ | ⟨_, m, _, q⟩ | ⟨_, q⟩
    · rw [tab b m] at e
      cases e
      exact (n2 rfl).elim
    · rw [m, scr] at e
      cases e
      exact (n1 _ _ rfl).elim
    · exact q
  have isNs : ∀ {b : Addr} {m : Str → Option Value}, s₁.heap.Ns b m → (hidT s₁.heap H).Ns b m := fun {b m} ⟨o, es, ep, e, d, r⟩ => by
    refine ⟨o, es, ep, hidT_get e (free e ?_ ?_), d, r⟩
    · intro us n z
      rw [d] at z
      cases z
    · intro z
      rw [d] at z
      cases z
  have kIn : K.In (hidT s₁.heap H) := fun b o e => by
    refine hidT_get (KX b o e) ?_
    rcases or_ b with ⟨m, _⟩ | ⟨_, m, k, _⟩ | ⟨_, q⟩
    · obtain ⟨p, hp, rfl⟩ := ofT b m
      rw [noT p hp] at e
      cases e
    · rw [m, k] at e
      cases e
    · exact q
  have TB : ∀ p ∈ cs, TabB (hidT s₁.heap H) mg p.1 p.2 := fun p hp => by
    obtain ⟨o, es, ep, g1, g2, _⟩ := gl
    refine ⟨?_, ?_, fun z => ?_⟩
    · obtain ⟨o, us, file, tf, flags, tg, inF, text, tt, e1, r1, r2, r3, r4⟩ := codes p hp
      refine ⟨o, us, file, tf, flags, tg, inF, text, tt, hidT_get e1 (free e1 ?_ ?_), r1, r2, r3, r4⟩
      · intro us' n z
        rw [r2] at z
        cases z
      · intro z
        rw [r2] at z
        cases z
        simp at r3
    · obtain ⟨bm, ob, b1, b2, b3, b4, b5, b6⟩ := main
      refine ⟨bm, ob, b1, b2, fun q => ?_, fun q => ?_, hidT_get b3 (free b3 ?_ ?_), b4, b5, b6⟩
      · rw [q, g1] at b3
        cases b3
        rw [g2] at b6
        cases b6
      · rw [q, tabs p hp] at b3
        cases b3
        cases b6
      · intro us' n z
        rw [b6] at z
        cases z
      · intro z
        rw [b6] at z
        cases z
    · rw [z, tabs p hp] at g1
      cases g1
      cases g2
  have hok : HOk P w H s₁.heap := fun b u q => by
    rcases or_ b with ⟨m, z⟩ | ⟨_, m, _, z⟩ | ⟨_, z⟩
    · rw [q] at z
      cases z
      exact tab b m
    · rw [q] at z
      cases z
      subst m
      exact ⟨scr, by rw [List.length_map]; exact sz, vs, _, rv, scr⟩
    · rw [q] at z
      cases z
  have sq : SqL K H a (ns.map V.int) := by
    cases hk : K.lookup a with
    | none =>
      refine .inl (.inr ⟨LstO vs, ?_⟩)
      rw [hH]
      exact startH_a aT hk
    | some o =>
      have e := KX a o hk
      rw [scr] at e
      cases e
      exact .inr ⟨_, vs.toArray, _, hk, rfl, rfl, rfl, by rw [List.size_toArray, lenV]; exact sz, by simpa using rv⟩
  have md : L2.Mod K mg (hidT s₁.heap H) := ⟨kIn, isNs gl, ⟨mb, isNs bl, bb⟩, by
    obtain ⟨mc, l1, l2⟩ := lim
    exact ⟨mc, isNs l1, l2⟩⟩
  have e0 : Env0 P w K mg (hidT s₁.heap H) callerA [] s₁ H := ⟨rfl, md, fun b o e => of_hidT e, Nat.le_of_eq (hidT_size _ _), trivial, fun b hb => absurd (show b ∈ ([] : List Addr) from hb) List.not_mem_nil, hok, .of_eq gens⟩
  have tH : ∀ p ∈ cs, H p.2 = some (.tbl #[]) := fun p hp => by
    rw [hH]
    exact startH_t (inT p hp)
  refine codeAny_mono (F _ H kIn (isNs gl) TB tH sq e0) fun r s' h => ?_
  cases r with
  | error e => exact False.elim h
  | ok fl =>
    cases fl with
    | next => exact False.elim h
    | brk => exact False.elim h
    | cont => exact False.elim h
    | ret u =>
      obtain ⟨v, H', os, bare, un, hok', rl, rfl⟩ := h
      cases rl
      have old : ∀ b o, b ∉ ts → s₁.heap.get? b = some o → s'.heap.get? b = some o := fun b o m e => by
        rcases or_ b with ⟨z, _⟩ | ⟨_, z1, _, z⟩ | ⟨_, z⟩
        · exact absurd z m
        · obtain ⟨w1, _⟩ := hok' b _ (un.frzs b _ _ z)
          rw [z1, scr] at e
          cases e
          exact w1
        · exact un.keep b o e z (fun q => absurd (show b ∈ ([] : List Addr) from q) List.not_mem_nil) List.not_mem_nil
      have more_ : ∀ b ∈ ts, ∃ more : Array Value, s'.heap.get? b = some { cls := .none, data := .fields more } := fun b m => by
        rcases or_ b with ⟨_, z⟩ | ⟨z, _⟩ | ⟨z, _⟩
        · obtain ⟨more, q⟩ := un.tbls b #[] z
          exact ⟨_, hok' b _ q⟩
        · exact absurd m z
        · exact absurd m z
      refine ⟨rfl, ⟨fun b o e => ?_, fun b o e => ?_⟩, os, bare⟩
      · by_cases m : b ∈ ts
        · obtain ⟨more, q⟩ := more_ b m
          obtain ⟨p, hp, rfl⟩ := ofT b m
          rw [tab _ m] at e
          cases e
          refine .inr (.inl ⟨((codes p hp).tab (tabs p hp)).isCodeTable, rfl, #[], more, rfl, ?_⟩)
          rw [Array.empty_append]
          exact q
        · exact .inl (old b o m e)
      · by_cases m : b ∈ ts
        · obtain ⟨more, q⟩ := more_ b m
          exact ⟨_, q⟩
        · exact ⟨o, old b o m e⟩
end
end Cn
set_option Elab.async false
set_option linter.all false
set_option maxRecDepth 100000
set_option maxHeartbeats 4000000
namespace Cn
open PySem PySem.Spec PyProof.Rows L2 LamX
/-- repr(x), x data -/
def rRepr (K : PySem.W.Frag) : List V → Hp → VK → Prop := fun xs H Q => ∃ x d, xs = [x] ∧ Dz K H x d ∧ d.showable = true ∧ d.hasDict = false ∧ d.depth ≤ 60 ∧ d.shown.length ≤ sizeLine ∧ Q (.str d.shown) H
theorem call_reprZ {X : Cx} {K : PySem.W.Frag} (hK : X.K = K) (hg : X.A.guards = some []) (hu : X.A.units + 64 < cLine) : CallR X (.builtin "repr") (rRepr K) := by
  subst hK
  intro pins s σ H xs us Q I r h
  obtain ⟨x, d, rfl, hd, h1, h2, h3, h4, q⟩ := h
  cases r with
  | cons rx rr =>
    cases rr
    obtain ⟨as, rd⟩ := Dp.reads I d x _ (hd.dp h2) rx
    cases hd with
    | non =>
      cases rx
      exact P.repr_of_none ⟨.str _, H, I.tok _, ⟨_, rfl⟩, q⟩
    | bl b =>
      cases rx
      exact P.repr_of_bool ⟨.str _, H, I.tok _, ⟨_, rfl⟩, q⟩
    | int i =>
      obtain ⟨t, rfl⟩ := rx
      exact P.repr_of_int (of_decide_eq_true h1) ⟨.str _, H, I.tok _, ⟨_, rfl⟩, q⟩
    | str y =>
      obtain ⟨t, rfl⟩ := rx
      exact P.repr_of_str ⟨.str _, H, I.tok _, ⟨_, rfl⟩, q⟩ h4
    | lst hs ha =>
      cases rx
      exact repr_of_reads' rd h1 (PyData.noDict_hsm h2) hg (by omega) (fun _ _ e => e) (fun h' u tk hk => ⟨.str _, H, I.kept (t' := tk) hk, ⟨_, rfl⟩, q⟩) h4
    | dct h => simp [PyData.hasDict] at h2
    | tup hs ha =>
      cases rx
      exact repr_of_reads' rd h1 (PyData.noDict_hsm h2) hg (by omega) (fun _ _ e => e) (fun h' u tk hk => ⟨.str _, H, I.kept (t' := tk) hk, ⟨_, rfl⟩, q⟩) h4

/-! ### the law called where the claim stands -/
/-- what the law does, told at the claim's own caller -/
def LawG (P : Program) (w : World) (K : PySem.W.Frag) (mg : Str → Option Value) (cs : List (Addr × Addr)) (fa : Addr) (n : Nat) : Prop :=
  ∀ (base : Heap) (H : Hp) (s : Shared) (a : Addr) (ns : List Int), ns.length ≤ n → K.In base → base.Ns mainGlobals mg → (∀ p ∈ cs, TabB base mg p.1 p.2) → (∀ p ∈ cs, H p.2 = some (.tbl #[])) → SqL K H a (ns.map V.int) → Env0 P w K mg base callerA [] s H →
    codeAny (model P w) callerA (.call (.ref fa) ⟨[.ref a], []⟩) (CR C8.CX0 [] P w H s (fun v _ => v = .bl true) (fun _ _ _ => False)) s
theorem lawG_of {P : Program} {w : World} {K : PySem.W.Frag} {mg : Str → Option Value} {cs : List (Addr × Addr)} {fa : Addr} {n k : Nat} {st : Stmt} {x : Str} {N : List Str} {oc kV doc pm cdv ct : Value} {od an : Option Addr} {osl : Array (Option Value)}
    (lk : K.lookup fa = some ⟨oc, od, .func (PySem.W.fnOf "law" "law" (defArgs st) (defBody st) (defScope st) .none kV doc pm an cdv ct), osl⟩) (hcd : PySem.W.codeIn K cdv "law" = true) (S : FnScope N [x] (defScope st)) (hr : Room (k + 1) callerA)
    (hb : ∀ (s : Shared) (u : Value), BindsTo s (PySem.W.fnOf "law" "law" (defArgs st) (defBody st) (defScope st) .none kV doc pm an cdv ct) ⟨[u], []⟩ [(x, u)])
    (body : ∀ (base : Heap) (H : Hp) (s : Shared) (a : Addr) (ns : List Int), ns.length ≤ n → K.In base → base.Ns mainGlobals mg → (∀ p ∈ cs, TabB base mg p.1 p.2) → (∀ p ∈ cs, H p.2 = some (.tbl #[])) → SqL K H a (ns.map V.int) →
      Room k (callerA.deeper (envOfC "law" (defScope st) s.heap.objs.size fa cdv)) →
      ∃ t, PSs (cxOf C8.CX0 P w K mg base N "law" (defScope st) fa cdv callerA [] s H (fun _ _ _ => False)).nox (defBody st) t ∧ t { nx := fun _ H' => V.non = V.bl true, rt := fun v _ => v = .bl true } (L2.start N [.ref a]) H) : LawG P w K mg cs fa n :=
  fun base H s a ns hl hk hg hT tH hS e0 => run_ofS (CX := C8.CX0) (us := [.ref a]) (vs := [.ref a]) lk hcd S hr e0 (hb s (.ref a)) (.cons rfl .nil) rfl fun hr' => by
    obtain ⟨t, h1, h2⟩ := body base H s a ns hl hk hg hT tH hS hr'
    exact ⟨t, h1.nox, h2⟩
/-- the guards of the law's own frame -/
theorem law_guards (env : Env) : (callerA.deeper env).guards = some [] := rfl
theorem walk_G {l : PySem.W.OpenLaw} {n : Nat} {q : Program} {loose : List Str} {XP : (Str → Option Value) → Heap → Prop} {YP : World → Heap → Prop} {d : DefRec} {K : Params → PySem.W.Frag} (hn : l.most = some n) (hz : n ≤ sizeLine) (hdf : d.params.defaults = [])
    (hY : ∀ (w : World) (h : Heap), YP w h → (K w.params).In h)
    (F : ∀ (w : World) (mg : Str → Option Value) (fa : Addr) (h : Heap), YP w h → (K w.params).In h → h.Ns mainGlobals mg → mg d.name = some (.ref fa) →
      ∃ cs : List (Addr × Addr), (∀ p ∈ cs, h.get? p.2 = some TabO) ∧ (∀ p ∈ cs, (K w.params).lookup p.2 = none) ∧ (∀ p ∈ cs, PySem.W.CodeHd h p.1 p.2) ∧ LawG l.prog w (K w.params) mg cs fa n) :
    PySem.W.WalkO q loose XP YP l.row.toRowW d [] (fun f vs => PySem.call f vs) := by
  refine Att.attach_callB hn hdf fun w s₀ s₁ mg mb fa o pm cd doc a vs ns G Y ho hd hcd hmg hobj hints hlen hbits hg => ?_
  have KX := hY w _ Y
  obtain ⟨cs, c1, c2, c3, L⟩ := F w mg fa _ Y KX G.T.g hmg
  exact law_runG KX G.T.g G.T.b G.T.builtins G.T.nolimit hg c1 c2 c3 G.T.bmain hobj hints (Nat.le_trans hlen hz) fun base H b1 b2 b3 b4 b5 e0 => L base H s₁ a ns hlen b1 b2 b3 b4 b5 e0
end Cn
set_option Elab.async false
set_option linter.all false
set_option maxRecDepth 100000
set_option maxHeartbeats 4000000
/-! super().__init__('..') in the __init__ of an own error whatever stands between it and ValueError. -/
namespace Cn
open PySem PySem.Spec PySem.Calls PyProof.Rows L2
/-- what is known of an own error class whose __init__ says super().__init__('..') -/
structure ExI (P : Program) (K : PySem.W.Frag) (C f : Addr) (q : Str) (scope : Scope) (cda cc : Addr) (fd : FuncData) (me : Str) : Prop where
  T : OexC K C
  ini : PySem.W.ks_superIn K C C "__init__" = some (some (.builtin "ValueError.__init__"))
  sub : PySem.W.subIn K (.ref C) (.type "ValueError") = some true
  own : PySem.W.mroIn K C (.ref C) = some true
  par : PySem.W.nsIn K cStatics "thirdparty.any" = some none
  lk : ∃ oc od osl, K.lookup f = some ⟨oc, od, .func fd, osl⟩
  par1 : (fd.params.posonlyargs ++ fd.params.args).head?.map (·.arg) = some me
  code : ∃ ccl cdd vs ccs file tf, K.lookup cda = some ⟨ccl, cdd, .fields vs, ccs⟩ ∧ vs[2]? = some (.str file tf) ∧ ((P.main.file : Str) == file) = true
  cell : ∃ cl cld csl, K.lookup cc = some ⟨cl, cld, .cell (some (.ref C)), csl⟩
  sup : PySem.W.nsIn K mainGlobals "super" = some none
  ks : scope.names.lookup ("super" : Str) = some .globalImplicit
  kc : scope.names.lookup ("__class__" : Str) = some .free
  ka : scope.names.lookup me = some .local
  kf : scope.kind = .function
  top : (P.main.scope.names.lookup ("super" : Str)).isSome = false
abbrev iniE (f : Addr) (q : Str) (scope : Scope) (L cda cc : Addr) : Env := PySem.W.ksEnv q scope L f (.ref cda) cc
abbrev exV (C t1 : Addr) : Obj := { cls := .ref C, dict := none, data := .fields #[.ref t1, .none, .none, .none, .bool false, .none] }
theorem super_init {P : Program} {w : World} {A : Around} {E : Value → Shared → Prop} {K : PySem.W.Frag} {C f x t0 cda cc L : Addr} {j : Nat} {q me txt : Str} {scope : Scope} {fd : FuncData} {body : List Stmt} {m mg mb : Str → Option Value} {p0 p1 p2 p3 p4 : Pos} {s : Shared} {Q : Value → Shared → Prop}
    (I : ExI P K C f q scope cda cc fd me) (X : K.In s.heap) (gl : s.heap.Ns mainGlobals mg) (bl : s.heap.Ns builtinsNs mb) (bb : ∀ y : Str, y ≠ "__name__" → mb y = bootBuiltins y) (ns : s.heap.Ns L m) (hm : m me = some (.ref x)) (hx : s.heap.get? x = some (exV C t0))
    {pl : Sem Bool} (he : eval (.Call (.Attribute (.Call (.Name "super" p0) [] [] p1) "__init__" p2) [.Constant (.str txt) j p3] [] p4) (iniE f q scope L cda cc) = (do
      let ov ← attributeBase (.Call (.Name "super" p0) [] [] p1) "__init__" (iniE f q scope L cda cc) (eval (.Call (.Name "super" p0) [] [] p1) (iniE f q scope L cda cc))
      standAt p2.atName
      let (g, first) ← holding [ov] (getMethod ov "__init__" pl)
      callWith p4 g first (backTo p4 (starEach [.Constant (.str txt) j p3] (iniE f q scope L cda cc))) []))
    (h : ∀ h' t2 tk, (∀ b o, b ≠ x → s.heap.get? b = some o → h'.get? b = some o) → h'.get? x = some (exV C t2) → Q .none { s with heap := h', toks := tk }) :
    _root_.PySem.wpAt (model P w) A (.func body (iniE f q scope L cda cc)) (eval (.Call (.Attribute (.Call (.Name "super" p0) [] [] p1) "__init__" p2) [.Constant (.str txt) j p3] [] p4) (iniE f q scope L cda cc)) Q E s := by
  obtain ⟨oc, od, osl, lkf⟩ := I.lk
  obtain ⟨ar, har, hself⟩ : ∃ ar, (fd.params.posonlyargs ++ fd.params.args).head? = some ar ∧ ar.arg = me := by
    have e := I.par1
    cases z : (fd.params.posonlyargs ++ fd.params.args).head? with
    | none =>
      rw [z] at e
      cases e
    | some ar =>
      rw [z] at e
      exact ⟨ar, rfl, Option.some.inj e⟩
  obtain ⟨ccl, cdd, vs, ccs, file, tf, lkc, hvs, hfile⟩ := I.code
  obtain ⟨cl, cld, csl, lcell⟩ := I.cell
  obtain ⟨nm, qc, N, bs, bm, sn, sb, ab, col, dd, k0, k1, k2, k3, k5, hC, hbm⟩ := I.T.cls
  have hcl : PySem.W.clsIn K C = some { name := nm, bases := bs, mro := .ref C :: bm, ns := N, qualname := qc, hasDict := true, slotNames := sn, subclasses := sb, abstract := ab, collection := col, hasDel := false } := by
    unfold PySem.W.clsIn
    rw [hC] <;> rfl
  have J : PySem.W.InstAt s.heap x (exV C t0) C none := ⟨hx, rfl, rfl, trivial⟩
  obtain ⟨hp, g, d, t, os⟩ := s
  refine PySem.ks_wpAt_MethodCall (he := he) ?_
  refine PySem.ks_wpAt_super_base (env := iniE f q scope L cda cc) I.ks I.kc (by decide) rfl (X _ _ lkf) rfl har rfl (X _ _ lkc) rfl hvs hfile I.top ?_
  have missS : mg "super" = none := PySem.W.mg_none_of X gl I.sup
  refine PySem.W.ks_loadName_global I.kf I.ks (loadGlobal_builtin (env := iniE f q scope L cda cc) gl missS bl ((bb _ (by decide +kernel)).trans (show bootBuiltins "super" = some (.type "super") by decide +kernel)) ⟨rfl, ?_⟩)
  refine wpAny_loadName_free I.kf I.kc rfl ⟨_, X _ _ lcell, rfl⟩ ?_
  refine wpAny_loadName_local I.kf (by rw [hself]; exact I.ka) ns (by rw [hself]; exact hm) ?_
  refine PySem.ks_wpAny_isType_cls (X _ _ hC) rfl ⟨rfl, ?_⟩
  refine PySem.ks_wpAny_call_super (X _ _ hC) rfl hx rfl (fun c e => by cases e) (PySem.W.looks_mroIn X I.own) fun h1 hso k1 => ?_
  have X1 : K.In h1 := X.keeps k1
  have J1 : PySem.W.InstAt h1 x (exV C t0) C none := ⟨k1 _ _ hx, rfl, rfl, trivial⟩
  have al : PySem.W.alongIn K "__init__" (((Value.ref C :: bm).dropWhile (· != .ref C)).drop 1) = some (some (.builtin "ValueError.__init__")) := by
    have e := I.ini
    unfold PySem.W.ks_superIn at e
    rw [hcl] at e
    exact e
  refine PySem.W.kxs_getMethod PySem.W.kxs_ValueError hso (PySem.W.looks_opaque X1 I.par) (l₀ := .ref C :: bm) (fun A Q E s k q => wpAny_bind ((PySem.W.looks_clsIn X1 hcl) A _ E s k (wpAny_pure q))) rfl X1 al
    (J1.type.andThen (PySem.W.looks_subIn X1 I.sub)) (PySem.W.ks_ne X1 J1 hcl) (by decide) ?_
  have k2 : ∀ b o, h1.get? b = some o → (h1.push (PySem.W.kxs_mw "ValueError.__init__" x)).get? b = some o := fun b o e => Heap.get?_push_of_some _ e
  have hu : (h1.push (PySem.W.kxs_mw "ValueError.__init__" x)).get? h1.objs.size = some (PySem.W.kxs_mw "ValueError.__init__" x) := Heap.get?_push_at rfl rfl
  have hC2 := k2 _ _ (k1 _ _ (X _ _ hC))
  have hx2 := k2 _ _ (k1 _ _ hx)
  refine PySem.W.kxs_callWith (i := "ValueError.__init__") (x := x) rfl (evalArgs_plain ?_)
  show wpAny _ _ (spliced ((false, eval (.Constant (.str txt) j p3) (iniE f q scope L cda cc)) :: backTo p4 (starEach [] (iniE f q scope L cda cc)))) _ _ _
  refine Calls.spliced_cons (wpAny_Constant_str (Calls.spliced_nil ⟨hu, ?_⟩))
  refine wpAny_call (codeAny_of_tree ?_)
  show wpAny _ A.in1 (callAny (.ref h1.objs.size) ⟨_, []⟩) _ _ _
  simp only [callAny]
  refine wpAny_bind (wpAny_load hu ?_)
  simp only [PySem.W.kxs_mw, show (Value.type "method-wrapper" == Value.type "method" || Value.type "method-wrapper" == Value.type "builtin_function_or_method" || Value.type "method-wrapper" == Value.type "method-wrapper") = true by decide, if_true]
  refine PySem.W.KFB.if_so (by decide) ?_
  refine wpAny_bind (PySem.W.check_bound_init PySem.F.excBase_ValueError.toExcCallFacts hC2 hx2 rfl ?_)
  refine wpAny_bind (wpAny_pure (wpAny_pure ?_))
  refine ⟨plainId_quiet PySem.F.excBase_ValueError.init.plain _, codeAny_builtin PySem.F.excBase_ValueError.initEntry ?_⟩
  refine PySem.W.exc_init_tree (cls := .ref C) (t0 := t0) (dv := none) (c2 := .none) (c3 := .none) (b4 := .bool false) hx2 (by show 1 ≤ sizeLine; decide) fun h3 k3 e3 _ => ?_
  exact h h3 _ _ (fun b o n e => k3 b o n (k2 _ _ (k1 _ _ e))) e3
end Cn
set_option Elab.async false
set_option linter.all false
set_option maxRecDepth 100000
set_option maxHeartbeats 4000000
/-! The __init__ of an own error: super().__init__('..'), then self.f = x. -/
namespace Cn
open PySem PySem.Spec PySem.Calls PyProof.Rows L2
/-- its context -/
def iniCx (P : Program) (w : World) (K : PySem.W.Frag) (mg : Str → Option Value) (base : Heap) (A : Around) (outer : List Env) (s : Shared) (H : Hp) (N : List Str) (f : Addr) (q : Str) (scope : Scope) (cda cc : Addr) : Cx where
  prog := P
  w := w
  K := K
  mg := mg
  base := base
  A := A.deeper (iniE f q scope s.heap.objs.size cda cc)
  N := N
  s_0 := s
  H_0 := H
  env := iniE f q scope s.heap.objs.size cda cc
  outer := outer
  stack := iniE f q scope s.heap.objs.size cda cc :: outer
  ex := []
  fn := fun _ => false
  calm := true
  pn := []
  xe := fun _ _ => False
section
variable {P : Program} {w : World} {K : PySem.W.Frag} {mg : Str → Option Value} {base : Heap} {A : Around} {outer : List Env} {s : Shared} {H : Hp} {C f cda cc : Addr} {q me x : Str} {scope : Scope} {fd : FuncData}
theorem ini_start {h₁ : Heap} {tk : Nat} {a : Addr} {y : V} {uy : Value} (I : ExI P K C f q scope cda cc fd me) (e0 : Env0 P w K mg base A outer s H) (hd : A.handled = none) (kx : scope.names.lookup x = some .local) (ne : me ≠ x)
    (fr : ∀ z, scope.names.lookup z = some .cell ∨ scope.names.lookup z = some .free → z = "__class__")
    (ns : h₁.Ns s.heap.objs.size fun z => ([(me, .ref a), (x, uy)] : List (Str × Value)).reverse.lookup z) (kp : ∀ b o, s.heap.get? b = some o → h₁.get? b = some o) (ry : RelV y uy) :
    Inv (iniCx P w K mg base A outer s H [me, x] f q scope cda cc) [] [some (.ref a), some y] H { s with heap := h₁, toks := tk } := by
  obtain ⟨cl, cld, csl, lcell⟩ := I.cell
  have hc0 := e0.mod.kin _ _ lcell
  have one : ∀ {z : Str} {c : Addr}, (iniE f q scope s.heap.objs.size cda cc).cells.lookup z = some c → z = "__class__" ∧ c = cc := fun {z c} e => by
    have e : ([("__class__", cc)] : List (Str × Addr)).lookup z = some c := e
    rw [List.lookup_cons] at e
    cases hz : (z == ("__class__" : Str)) with
    | true =>
      rw [hz] at e
      exact ⟨beq_iff_eq.mp hz, (Option.some.inj e).symm⟩
    | false =>
      rw [hz] at e
      cases e
  have noA : ∀ b : Addr, b ∉ (iniCx P w K mg base A outer s H [me, x] f q scope cda cc).ex := fun b z => absurd (show b ∈ ([] : List Addr) from z) List.not_mem_nil
  refine ⟨⟨e0.mod, I.kf, rfl, rfl, Nat.le_refl _, fun y z c e1 e2 => (one e1).1.trans (one e2).1.symm, fun z hz => ?_, fun z c e _ => absurd (show false = true from e) Bool.false_ne_true, fun _ => hd, Around.frames_deeper e0.frames, .inr ⟨rfl, rfl⟩, fun b z => absurd z (noA b), e0.bs, e0.bsz, fun b _ _ => noA b, fun b z => absurd z (noA b), e0.funs, e0.frf⟩,
    rfl, e0.bare, Un.kept kp, ⟨_, ns, fun i z v e1 e2 e3 => ?_⟩, fun z c e => ?_, e0.hok.fresh (Nat.le_refl _), fun z c e => ?_, fun p hp => absurd (show p ∈ ([] : List (Addr × Obj)) from hp) List.not_mem_nil, e0.hok.kept kp, rfl⟩
  · rw [fr z hz]
    exact ⟨cc, rfl⟩
  · have hme : ([(me, .ref a), (x, uy)] : List (Str × Value)).reverse.lookup me = some (.ref a) := by
      show ([(x, uy), (me, .ref a)] : List (Str × Value)).lookup me = _
      rw [List.lookup_cons, show (me == x) = false from beq_eq_false_iff_ne.mpr ne, List.lookup_cons, show (me == me) = true from beq_iff_eq.mpr rfl]
    have hxx : ([(me, .ref a), (x, uy)] : List (Str × Value)).reverse.lookup x = some uy := by
      show ([(x, uy), (me, .ref a)] : List (Str × Value)).lookup x = _
      rw [List.lookup_cons, show (x == x) = true from beq_iff_eq.mpr rfl]
    match i, e1, e2 with
    | 0, e1, e2 =>
      cases e1
      cases e2
      exact ⟨_, rfl, .inl ⟨I.ka, hme⟩⟩
    | 1, e1, e2 =>
      cases e1
      cases e2
      exact ⟨_, ry, .inl ⟨kx, hxx⟩⟩
    | _ + 2, e1, _ => cases e1
  · rw [(one e).2]
    exact ⟨_, _, kp _ _ (e0.bs _ _ hc0).1, rfl⟩
  · rw [(one e).2]
    exact (e0.bs _ _ hc0).2
/-- what it promises: the object has its dict with the field -/
def spIni (C : Addr) (fld : Str) : Sp := fun vs H Q _ => ∃ (a : Addr) (y : V), vs = [.ref a, y] ∧ H a = some (exo a C none) ∧ ∀ dx, H dx = none → dx ≠ a → Q .non (upd (upd H dx (exd dx [(fld, y)])) a (exo a C (some dx)))
theorem ini_ok {fld txt name : Str} {j k : Nat} {params : Arguments} {dV kV doc pm ct : Value} {an : Option Addr} {p0 p1 p2 p3 p4 p5 p6 p7 p8 p9 : Pos} {pl : Sem Bool} {body : List Stmt}
    (hbody : body = [.Expr (.Call (.Attribute (.Call (.Name "super" p0) [] [] p1) "__init__" p2) [.Constant (.str txt) j p3] [] p4) p5, .Assign [.Attribute (.Name me p6) fld p7] (.Name x p8) p9])
    (hfd : fd = PySem.W.ksFn name q params body scope dV kV doc pm an (.ref cda) ct cc) (I : ExI P K C f q scope cda cc fd me) (hcd : PySem.W.codeIn K (.ref cda) q = true) (kx : scope.names.lookup x = some .local) (ne : me ≠ x)
    (fr : ∀ z, scope.names.lookup z = some .cell ∨ scope.names.lookup z = some .free → z = "__class__") (nc : ∀ y ∈ scope.names, y.2 ≠ .cell) (co : scope.isCoroutine = false) (ge : scope.isGenerator = false) (noF : PySem.W.findIn K (.ref C) fld = some none)
    (d1 : (me == ("__debug__" : Str)) = false) (d2 : (me == ("__classdict__" : Str)) = false) (d3 : (x == ("__debug__" : Str)) = false) (d4 : (x == ("__classdict__" : Str)) = false)
    (he : ∀ L : Addr, eval (.Call (.Attribute (.Call (.Name "super" p0) [] [] p1) "__init__" p2) [.Constant (.str txt) j p3] [] p4) (iniE f q scope L cda cc) = (do
      let ov ← attributeBase (.Call (.Name "super" p0) [] [] p1) "__init__" (iniE f q scope L cda cc) (eval (.Call (.Name "super" p0) [] [] p1) (iniE f q scope L cda cc))
      standAt p2.atName
      let (g, first) ← holding [ov] (getMethod ov "__init__" pl)
      callWith p4 g first (backTo p4 (starEach [.Constant (.str txt) j p3] (iniE f q scope L cda cc))) []))
    (hsw : ∀ L : Addr, swapsWith (.Call (.Attribute (.Call (.Name "super" p0) [] [] p1) "__init__" p2) [.Constant (.str txt) j p3] [] p4) none p5.line (iniE f q scope L cda cc) = pure false := by intro L; rfl) :
    FnOk P w K mg base C8.CX0 (k + 1) f fd [me, x] (spIni C fld) := by
  refine ⟨fun vs H Q E h => by obtain ⟨a, y, rfl, _⟩ := h; rfl, fun A outer s H args us vs Q E hr e0 hb r h => ?_⟩
  obtain ⟨a, y, rfl, ha, qq⟩ := h
  obtain ⟨uy, rfl, ry⟩ : ∃ uy, us = [.ref a, uy] ∧ RelV y uy := by
    cases r with
    | cons r1 r2 =>
      cases r2 with
      | cons r3 r4 =>
        cases r4
        cases r1
        exact ⟨_, rfl, r3⟩
  have KX : K.In s.heap := e0.mod.kin.keeps fun b o e => (e0.bs b o e).1
  have lim : s.heap.NoLimit := e0.mod.nolimit.keeps fun b o e => (e0.bs b o e).1
  obtain ⟨oc, od, osl, lk⟩ := I.lk
  subst hfd
  refine codeAny_call_function hr.depth (KX _ _ lk) rfl co ge rfl (PySem.W.codeRec_of KX hcd) (hb _ _ _ _ ?_)
  refine wpAny_newFunctionEnv nc (fun z hz => ?_) (fun h₁ hns hsb => ⟨lim.fresh _ hsb, ?_⟩) I.kf
  · have hz : z ∈ ([(me, .ref a), (x, uy)] : List (Str × Value)) := hz
    rcases List.mem_cons.mp hz with e | hz
    · rw [e]
      exact I.ka
    · rw [List.mem_singleton.mp hz]
      exact kx
  have kp : ∀ b o, s.heap.get? b = some o → h₁.get? b = some o := fun b o e => hsb.extBut b o (Nat.ne_of_lt (Heap.lt_size e)) (Heap.get?_push_of_some _ e)
  have J := ini_start (tk := s.toks + 2) (a := a) I e0 hr.hd kx ne fr hns kp ry
  show codeAny (model P w) A (.func body (iniE f q scope s.heap.objs.size cda cc)) _ _
  subst hbody
  obtain ⟨t0, hx⟩ := exo_at J.hok ha
  obtain ⟨mb, hbl, hbb⟩ := e0.mod.blt
  refine PySem.ks_codeAny_funcAt (PySem.ks_wpAt_execs_cons (PySem.ks_wpAt_Expr_any (super_init I J.kIn (J.mod.glob.keeps J.bk) (hbl.keeps J.bk) hbb hns ?_ hx (he _) fun h' t2 tk k3 e3 => ?_) J.quiet (hsw _)))
  · show ([(x, uy), (me, .ref a)] : List (Str × Value)).lookup me = _
    rw [List.lookup_cons, show (me == x) = false from beq_eq_false_iff_ne.mpr ne, List.lookup_cons, show (me == me) = true from beq_iff_eq.mpr rfl]
  have J2 := J.write (t' := tk) (x := a) (e := a) (o := exo a C none) (by rw [ha]; exact True.intro) (.inl rfl) k3 ⟨_, e3⟩ (exo_ok e3)
  have eu : upd H a (exo a C none) = H := by
    funext b
    by_cases hb : b = a
    · rw [hb, upd_same, ha]
    · rw [upd_ne hb]
  rw [eu] at J2
  have D2 : PSs (iniCx P w K mg base A outer s H [me, x] f q scope cda cc) [.Assign [.Attribute (.Name me p6) fld p7] (.Name x p8) p9] _ := pss_one (ps_ost (pe_var (i := 0) rfl (.inl I.ka) d1 d2) (pe_var (i := 1) rfl (.inl kx) d3 d4))
  refine PySem.wpAt_of_wpAny (wpAny_mono (D2.run [] _ _ H { nx := fun _ H' => Q .non H', rt := fun _ _ => False } J2 ?_) (fun fl s' hs => ?_) fun e s' z => z.elim)
  · exact ⟨_, rfl, _, rfl, a, C, rfl, I.T, noF, .inl ⟨ha, qq⟩⟩
  · cases fl with
    | next =>
      obtain ⟨σ', H', J', z⟩ := hs
      exact ⟨.non, H', J'.os, J'.bare, J'.base, J'.hok, rfl, z⟩
    | ret u =>
      obtain ⟨_, _, _, _, _, z⟩ := hs
      exact z.elim
    | brk =>
      obtain ⟨_, _, _, z⟩ := hs
      exact z.elim
    | cont =>
      obtain ⟨_, _, _, z⟩ := hs
      exact z.elim
end
end Cn
set_option Elab.async false
set_option linter.all false
set_option maxRecDepth 100000
set_option maxHeartbeats 4000000
/-! Pure defs that may raise: what they promise; own errors raised. -/
namespace Cn
open PySem PySem.Spec PyProof.Rows L2
/-- what comes of a call: a value; an error of the class at C; one with a field that is the i-th argument -/
inductive Out
  | val (d : D)
  | err (C : Addr)
  | errF (C : Addr) (f : Str) (i : Nat)
def spX (K : PySem.W.Frag) (n : Nat) (R : List D → Out → Prop) : Sp := fun vs H Q E => ∃ (ds : List D) (o : Out) (F : Hp), Ex F H ∧ DzAll K F vs ds ∧ ds.length = n ∧ R ds o ∧ (match o with
  | .val d => ∀ v F2 H2, Grow F H F2 H2 → Dz K F2 v d → Q v H2
  | .err C => ∀ F2 H2, Grow F H F2 H2 → E (.ref C) none H2
  | .errF C f i => ∀ F2 H2 dd y, Grow F H F2 H2 → F2 dd = none → H2 dd = some (.xd [(f, y)]) → vs[i]? = some y → E (.ref C) (some dd) H2)
theorem spX_len {K : PySem.W.Frag} {n : Nat} {R : List D → Out → Prop} : ∀ vs H Q E, spX K n R vs H Q E → vs.length = n := fun vs H Q E ⟨ds, o, F, _, h, hn, _⟩ => by rw [dpa_len h, hn]
def Kx (P : Program) (w : World) (K : PySem.W.Frag) (mg : Str → Option Value) (base : Heap) (k : Nat) (x : Str) (ps : List Str) (sp : Sp) : Prop :=
  ∃ (f : Addr) (fd : FuncData), mg x = some (.ref f) ∧ PySem.W.keepIn K (.ref f) = true ∧ Binds K fd ps [] ∧ FnOk P w K mg base (L2.CX P w) k f fd ps sp
section
variable {X : Cx} {k : Nat} {x : Str} {ps : List Str} {sp : Sp} {p pos : Pos} {e : Expr} {es : List Expr} {t : TA}
/-- f(e, ..), f one that may raise: E is what an error of it must meet -/
theorem pe_kx {W : WX} {E : XK} (h : Kx X.prog X.w X.K X.mg X.base k x ps sp) (tk : Takes X W) (hW : ∀ cls d σ H, E cls d H → W cls d σ H) (hr : Room k X.A) (hg : Gl X x) (ha : PA X (e :: es) t) (hdb : (x == ("__debug__" : Str)) = false := by decide)
    (he : starEach (e :: es) X.env = (false, eval e X.env) :: starEach es X.env := by rfl) (hpl : (backTo pos (starEach es X.env)).any (·.1) = false := by rfl) : PE X (.Call (.Name x p) (e :: es) [] pos) (tCall sp [] E t) := by
  obtain ⟨f, fd, h1, h2, h3, h4⟩ := h
  exact pe_call h4 hr hg h1 h2 h3 .nil (passes_call tk hW) ha hdb he hpl
end
/-- an own error class without an __init__ of its own -/
structure ExP (K : PySem.W.Frag) (mg : Str → Option Value) (x : Str) (C : Addr) : Prop where
  g : mg x = some (.ref C)
  k : PySem.W.keepIn K (.ref C) = true
  q : PySem.W.excIn K C [.type "ValueError", .type "Exception", .type "BaseException", .type "object"] "ValueError.__new__" = true
  s : PySem.W.subIn K (.ref C) (.type "BaseException") = some true
  t : PySem.W.typeIn K (.ref C) = some (.type "type")
theorem pmk_plain {X : Cx} {K : PySem.W.Frag} {mg : Str → Option Value} {x m : Str} {C : Addr} {j : Nat} {p p2 pos : Pos} (hK : X.K = K) (hm : X.mg = mg) (h : ExP K mg x C) (hg : Gl X x) (hd : (x == ("__debug__" : Str)) = false := by decide) :
    PMk X (.Call (.Name x p) [.Constant (.str m) j p2] [] pos) (fun _ H Q => Q (.ref C) none H) := by
  subst hK hm
  exact pmk_own PySem.F.excBase_ValueError h.q h.g h.k (raises_own h.s h.t) hg (hdb := hd)
/-- one with an __init__ that keeps its argument in the field f -/
structure ExJ (P : Program) (w : World) (K : PySem.W.Frag) (mg : Str → Option Value) (base : Heap) (x : Str) (C : Addr) (f : Str) : Prop where
  g : mg x = some (.ref C)
  T : OexC K C
  fn : ∃ (fI : Addr) (fd : FuncData) (ps : List Str), PySem.W.findIn K (.ref C) "__init__" = some (some (.ref fI)) ∧ PySem.W.typeIn K (.ref fI) = some (.type "function") ∧ FnOk P w K mg base C8.CX0 1 fI fd ps (spIni C f) ∧ Binds K fd ps []
theorem fld_new {H : Hp} {a dx C : Addr} {f : Str} {y : V} (ha : H a = none) (hx : dx ≠ a) : upd (del (upd (upd (upd H a (exo a C none)) dx (exd dx [(f, y)])) a (exo a C (some dx))) a) dx (.xd [(f, y)]) = upd H dx (.xd [(f, y)]) := by
  funext b
  by_cases h1 : b = dx
  · rw [h1, upd_same, upd_same]
  · rw [upd_ne h1, upd_ne h1]
    by_cases h2 : b = a
    · rw [h2, del_same, ha]
    · rw [del_ne h2, upd_ne h2, upd_ne h1, upd_ne h2]
/-- X(e) -/
theorem pmk_fld {X : Cx} {P : Program} {w : World} {K : PySem.W.Frag} {mg : Str → Option Value} {base : Heap} {x f : Str} {C : Addr} {e : Expr} {te : TE} {p pos : Pos} (hP : X.prog = P) (hw : X.w = w) (hK : X.K = K) (hm : X.mg = mg) (hb : X.base = base) (h : ExJ P w K mg base x C f) (hr : Room 2 X.A) (hg : Gl X x)
    (he : PE X e te) (hd : (x == ("__debug__" : Str)) = false := by decide) (hs : starEach [e] X.env = (false, eval e X.env) :: starEach [] X.env := by rfl) :
    PMk X (.Call (.Name x p) [e] [] pos) (tMkO C (spIni C f) [] (tCons te tNil)) := by
  subst hP hw hK hm hb
  obtain ⟨fI, fd, ps, h1, h2, h3, h4⟩ := h.fn
  exact pmk_oex h.T h1 h2 h3 hr h4 .nil pass0 hg h.g (pa_cons he pa_nil (hs := hs)) (hdb := hd) (he := hs) (hpl := rfl)
/-- .. its reading, of a slot -/
theorem mk_var {C : Addr} {f : Str} {i : Nat} {σ : L2.St} {H : Hp} {Q : XK} {y : V} (hy : σ[i]? = some (some y)) (q : ∀ dx, H dx = none → Q (.ref C) (some dx) (upd H dx (.xd [(f, y)]))) : tMkO C (spIni C f) [] (tCons (tVar i) tNil) σ H Q := by
  refine ⟨y, hy, by show 1 ≤ 1000; decide, fun a ha => ⟨a, y, rfl, upd_same, fun dx hx hne => ⟨rfl, dx, [(f, y)], upd_same, ?_, ?_, ?_⟩⟩⟩
  · rw [upd_ne hne, upd_same]
  · rw [upd_ne hne] at hx
    exact hx
  · rw [fld_new ha hne]
    rw [upd_ne hne] at hx
    exact q dx hx
end Cn
set_option Elab.async false
set_option linter.all false
set_option maxRecDepth 100000
set_option maxHeartbeats 4000000
/-! Own errors as values: X('..') without, X(e) with an __init__ of its own; isinstance of them; their fields. -/
namespace Cn
open PySem PySem.Spec PyProof.Rows L2
section
variable {X : Cx}
/-- X(e), X keeps its argument in the field f: the reading -/
def tExJ (C : Addr) (f : Str) (te : TE) : TE := fun σ H Q => te σ H fun y H1 => ∀ a dx, H1 a = none → H1 dx = none → dx ≠ a → Q (.ref a) (upd (upd (upd H1 a (exo a C none)) dx (exd dx [(f, y)])) a (exo a C (some dx)))
theorem pe_exJ {P : Program} {w : World} {K : PySem.W.Frag} {mg : Str → Option Value} {base : Heap} {x f : Str} {C : Addr} {e : Expr} {te : TE} {p pos : Pos} (hP : X.prog = P) (hw : X.w = w) (hK : X.K = K) (hm : X.mg = mg) (hb : X.base = base) (h : ExJ P w K mg base x C f) (hr : Room 2 X.A) (hg : Gl X x)
    (he : PE X e te) (hd : (x == ("__debug__" : Str)) = false := by decide) (hs : starEach [e] X.env = (false, eval e X.env) :: starEach [] X.env := by rfl) : PE X (.Call (.Name x p) [e] [] pos) (tExJ C f te) := by
  subst hP hw hK hm hb
  obtain ⟨fI, fd, ps, iC, tI, F1, B1⟩ := h.fn
  obtain ⟨nm, q, N, bs, bm, sn, sb, ab, col, dd, k0, k1, k2, k3, k5, hC, hbm⟩ := h.T.cls
  refine ⟨fun pins s σ H Q I hq => wpAny_Call_Name_kw (ld_glob I hg h.g ?_ hd)⟩
  refine PySem.W.callWith_K (h₀ := X.base) I.ok.mod.kin h.T.kC (thn ((pa_cons he pa_nil (hs := hs)).run pos pins s σ H (fun vs H1 => match vs with
    | [y] => ∀ a dx, H1 a = none → H1 dx = none → dx ≠ a → Q (.ref a) (upd (upd (upd H1 a (exo a C none)) dx (exd dx [(f, y)])) a (exo a C (some dx)))
    | _ => False) I hq) fun us t1 ⟨vs, H1, I1, r1, q1⟩ => ⟨I1.kIn, ?_⟩) hs rfl
  obtain ⟨y, rfl⟩ : ∃ y, vs = [y] := by
    match vs, q1 with
    | [y], _ => exact ⟨y, rfl⟩
  obtain ⟨uy, rfl, ry⟩ : ∃ uy, us = [uy] ∧ RelV y uy := by
    cases r1 with
    | cons z1 z2 =>
      cases z2
      exact ⟨_, rfl, z1⟩
  show wpAny _ _ (call (.ref C) [uy]) _ _ _
  obtain ⟨hp, g, dr, tk, os⟩ := t1
  have lt1 : hp.objs.size ≤ hp.objs.size + 1 := Nat.le_succ _
  have new : H1 (hp.objs.size + 1) = none := I1.hok.fresh lt1
  let hp2 := (hp.push (PySem.W.kdv_tup [uy])).push (PySem.HandSPX.excO C hp.objs.size)
  have old : ∀ b o, hp.get? b = some o → hp2.get? b = some o := fun b o e1 => Heap.get?_push_of_some _ (Heap.get?_push_of_some _ e1)
  have at_ : hp2.get? (hp.objs.size + 1) = some (PySem.HandSPX.excO C hp.objs.size) := by
    show ((hp.push (PySem.W.kdv_tup [uy])).push (PySem.HandSPX.excO C hp.objs.size)).get? (hp.objs.size + 1) = _
    heap_get
  have J : Inv X pins σ (upd H1 (hp.objs.size + 1) (exo (hp.objs.size + 1) C none)) ⟨hp2, g, dr, tk, os⟩ := I1.laid (t' := tk) (a := hp.objs.size + 1) (o := exo (hp.objs.size + 1) C none) (h' := hp2) old lt1 (exo_ok at_)
  have sp_ : spIni C f [V.ref (hp.objs.size + 1), y] (upd H1 (hp.objs.size + 1) (exo (hp.objs.size + 1) C none)) (fun v H2 => v = .non ∧ Q (.ref (hp.objs.size + 1)) H2) (fun _ _ _ => False) := ⟨_, y, rfl, upd_same, fun dx n1 n2 => ⟨rfl, q1 _ dx new (by rw [upd_ne n2] at n1; exact n1) n2⟩⟩
  have lens : [Value.ref (hp.objs.size + 1), uy].length = ps.length := by
    have e1 := F1.len _ _ _ _ sp_
    exact e1
  refine wpAny_call (PySem.HandSPX.call_own F.excBase_ValueError (fun Y => PySem.HandSPX.refsVE_contains Y bm hbm) (I1.kIn _ _ hC) (PySem.W.looks_findIn I1.kIn iC) (fun me => PySem.W.bind_fn I1.kIn me tI) (by show 1 ≤ sizeLine; decide)
    (codeAny_mono (F1.run _ X.stack _ _ ⟨[Value.ref (hp.objs.size + 1), uy], []⟩ [Value.ref (hp.objs.size + 1), uy] _ _ (fun _ _ _ => False) (hr.make C [uy] []) (J.env0.make C [uy] []) (B1 _ [Value.ref (hp.objs.size + 1), uy] J.kIn lens) (show Vals [V.ref (hp.objs.size + 1), y] [Value.ref (hp.objs.size + 1), uy] from .cons rfl (.cons ry .nil)) sp_) fun r s2 z => ?_))
  cases r with
  | error er => exact False.elim z
  | ok fl =>
    cases fl with
    | next => exact False.elim z
    | brk => exact False.elim z
    | cont => exact False.elim z
    | ret u =>
      obtain ⟨v, H2, w1, w2, w3, w4, rv, ev, q2⟩ := z
      subst ev
      exact ⟨rv, .ref _, H2, J.call' w1 w3 w4 w2 (fun b hb => absurd hb List.not_mem_nil), rfl, q2⟩
end
/-! ### what is asked of an error, however it is held -/
/-- an error of the class at D: plain and new; new with its dict; caught -/
inductive ErrAt (H : Hp) (a D : Addr) : Prop
  | plain (h : H a = some (ExO (.ref D) a))
  | own (dx : Addr) (fs : List (Str × V)) (h : H a = some (exo a D (some dx))) (k : H dx = some (exd dx fs))
  | caught (d : Option Addr) (h : H a = some (ErO (.ref D) d a)) (k : ErD H d)
theorem ErrAt.ex {H G : Hp} {a D : Addr} (e : Ex H G) : ErrAt H a D → ErrAt G a D
  | .plain h => .plain (e _ _ h)
  | .own dx fs h k => .own dx fs (e _ _ h) (e _ _ k)
  | .caught d h k => .caught d (e _ _ h) (by
    rcases k with k | ⟨dd, fs, k1, k2⟩
    · exact .inl k
    · exact .inr ⟨dd, fs, k1, e _ _ k2⟩)
theorem inst_err {P : Program} {w : World} {H : Hp} {h : Heap} {a D : Addr} (I : HOk P w H h) (e : ErrAt H a D) : ∃ (ob : Obj) (od : Option Obj), PySem.W.InstAt h a ob D od := by
  cases e with
  | plain e =>
    obtain ⟨⟨ob, vs, e1, e2, e3, _⟩, _, _⟩ := I a _ e
    obtain ⟨oc, odd, oda, osl⟩ := ob
    obtain ⟨z1, z2⟩ := e2
    dsimp only at z1 z2 e3
    subst z1 z2 e3
    exact ⟨_, none, ⟨e1, rfl, rfl, trivial⟩⟩
  | own dx fs e k =>
    obtain ⟨t1, e1⟩ := exo_at I e
    obtain ⟨mA, hns, _⟩ := exd_at I k
    obtain ⟨o, ho, _⟩ := lookIn_ns hns
    exact ⟨_, some o, ⟨e1, rfl, rfl, ho⟩⟩
  | caught d e k =>
    obtain ⟨ob, od, J, _⟩ := inst_of I e k
    exact ⟨ob, od, J⟩
/-- isinstance(e, c), e an error -/
def rIsErr (K : PySem.W.Frag) : List V → Hp → VK → Prop := fun xs H Q => ∃ (a D : Addr) (c : V) (cv : Value) (b : Bool), xs = [.ref a, c] ∧ ErrAt H a D ∧ ExcC K D ∧ (∀ u, RelV c u → u = cv) ∧ PySem.W.kitOne K (.ref D) cv = some b ∧ Q (.bl b) H
theorem call_isErr {X : Cx} {K : PySem.W.Frag} (hK : X.K = K) : CallR X (.builtin "isinstance") (rIsErr K) := by
  intro pins s σ H xs us Q I r h
  subst hK
  obtain ⟨a, D, c, cv, b, rfl, ha, C, hcv, e, q⟩ := h
  cases r with
  | cons rx rr =>
    cases rr with
    | cons rt rr =>
      cases rr
      cases rx
      have ec := hcv _ rt
      subst ec
      obtain ⟨ob, od, J⟩ := inst_err I.hok ha
      obtain ⟨cd, hc, _⟩ := PySem.W.any_some C.hd
      exact PySem.W.kia_one (PySem.W.kitx_exc (by rw [hc]; rfl) C.hg C.hk C.hs C.ha C.hn C.ht C.hm) I.kIn J e (fun z => nomatch z) fun tk => ⟨.bl b, H, I.kept (t' := tk) fun _ _ z => z, rfl, q⟩
/-- e.f, e a new error with its dict -/
def tXo (K : PySem.W.Frag) (f : Str) (te : TE) : TE := fun σ H Q => te σ H fun x H1 => ∃ (a D dd : Addr) (fs : List (Str × V)) (v : V), x = .ref a ∧ H1 a = some (exo a D (some dd)) ∧ H1 dd = some (exd dd fs) ∧ XfC K D ∧ PySem.W.findIn K (.ref D) f = some none ∧ fs.lookup f = some v ∧ Q v H1
theorem pe_xo {X : Cx} {K : PySem.W.Frag} {e : Expr} {te : TE} {pos : Pos} {f : Str} (hK : X.K = K) (he : PE X e te) (hb : attributeBase e f X.env (eval e X.env) = eval e X.env := by rfl) : PE X (.Attribute e f pos) (tXo K f te) := by
  subst hK
  refine ⟨fun pins s σ H Q I h => attr_of hb (thn (he.run pins s σ H _ I h) fun u s1 hh => ?_)⟩
  obtain ⟨x, H1, I1, rx, a, D, dd, fs, v, ex, ea, ed, T, hno, l, q⟩ := hh
  subst ex
  cases rx
  obtain ⟨t1, e1⟩ := exo_at I1.hok ea
  obtain ⟨mA, hns, hr⟩ := exd_at I1.hok ed
  obtain ⟨o, ho, hl⟩ := lookIn_ns hns
  obtain ⟨u, hu, ru⟩ := RelO.some_of (v := v) (o := mA f) (by rw [← l]; exact hr f)
  exact HandSPX.exc_get I1.kIn (⟨e1, rfl, rfl, ho⟩ : PySem.W.InstAt s1.heap a _ D (some o)) T.ga T.gg T.exC (PySem.W.findObj_own T.hdC hno rfl (by rw [hl, hu])) (handed_of ru) ⟨v, H1, I1.tok _, ru, q⟩
end Cn
set_option Elab.async false
set_option linter.all false
set_option maxRecDepth 100000
set_option maxHeartbeats 4000000
/-! Promises that are kept where nothing is being shown (so that repr of data is allowed within). -/
namespace Cn
open PySem PySem.Spec PyProof.Rows L2 LamX
def KpG (P : Program) (w : World) (K : PySem.W.Frag) (mg : Str → Option Value) (base : Heap) (CX : CXT) (k : Nat) (x : Str) (ps : List Str) (sp : Sp) : Prop :=
  ∃ (f : Addr) (fd : FuncData), mg x = some (.ref f) ∧ PySem.W.keepIn K (.ref f) = true ∧ Binds K fd ps [] ∧ (∀ vs H Q E, sp vs H Q E → vs.length = ps.length) ∧
    (∀ (A : Around) (outer : List Env) (s : Shared) (H : Hp) (args : Args) (us : List Value) (vs : List V) (Q : VK) (E : XK), A.guards = some [] → Room k A → Env0 P w K mg base A outer s H → BindsTo s fd args (ps.zip us) → Vals vs us → sp vs H Q E →
      codeAny (model P w) A (.call (.ref f) args) (CR CX outer P w H s Q E) s) ∧ ∃ oc od osl, K.lookup f = some ⟨oc, od, .func fd, osl⟩
theorem KpG.mono {P : Program} {w : World} {K : PySem.W.Frag} {mg : Str → Option Value} {base : Heap} {CX : CXT} {j k : Nat} {x : Str} {ps : List Str} {sp : Sp} (h : KpG P w K mg base CX j x ps sp) (l : j ≤ k) : KpG P w K mg base CX k x ps sp :=
  let ⟨f, fd, a, b, c, d, e, lk⟩ := h
  ⟨f, fd, a, b, c, d, fun A outer s H args us vs Q E g hr => e A outer s H args us vs Q E g (hr.mono l), lk⟩
section
variable {X : Cx} {CX : CXT} {k : Nat} {x : Str} {ps : List Str} {sp : Sp} {p pos : Pos} {e : Expr} {es : List Expr} {t : TA}
theorem pe_kpG {E : XK} (h : KpG X.prog X.w X.K X.mg X.base CX k x ps sp) (hx : Passes CX X E) (gd : X.A.guards = some []) (hr : Room k X.A) (hg : Gl X x) (ha : PA X (e :: es) t) (hdb : (x == ("__debug__" : Str)) = false := by decide)
    (he : starEach (e :: es) X.env = (false, eval e X.env) :: starEach es X.env := by rfl) (hpl : (backTo pos (starEach es X.env)).any (·.1) = false := by rfl) : PE X (.Call (.Name x p) (e :: es) [] pos) (tCall sp [] E t) := by
  obtain ⟨f, fd, h1, h2, h3, h4, h5, _⟩ := h
  refine ⟨fun pins s σ H Q I hq => wpAny_Call_Name_kw (ld_glob I hg h1 ?_ hdb)⟩
  refine PySem.W.callWith_K (h₀ := X.base) I.ok.mod.kin h2 (thn (ha.run pos pins s σ H _ I hq) fun us s1 ⟨vs, H1, I1, r, q⟩ => ⟨I1.kIn, ?_⟩) he hpl
  have q : sp (vs ++ []) H1 Q E := q
  rw [List.append_nil] at q
  have hl : us.length = ps.length := by
    rw [← r.length]
    exact h4 _ _ _ _ q
  have bd : BindsTo s1 fd ⟨us, []⟩ (ps.zip us) := by
    have z := h3 s1 us I1.kIn (by rw [List.append_nil]; exact hl)
    rw [List.append_nil] at z
    exact z
  refine wpAny_call (codeAny_mono (h5 X.A X.stack s1 H1 ⟨us, []⟩ us vs Q E gd hr I1.env0 bd r q) fun rs s2 z => ?_)
  cases rs with
  | error er => exact hx pins σ H1 s1 er s2 I1 z
  | ok fl =>
    cases fl with
    | ret u => exact I1.after z
    | next => exact False.elim z
    | brk => exact False.elim z
    | cont => exact False.elim z
end
def permL {α : Type} (is : List Nat) (l : List α) : List α := is.filterMap fun i => l[i]?
/-- put in the parameters' order -/
def permG {α : Type} (a b : Nat) (is : List Nat) (us ws : List α) : List α := if us.length = a ∧ ws.length = b then permL is (us ++ ws) else []
def tKw (a b : Nat) (is : List Nat) (t tk : TA) : TA := fun σ H Q => t σ H fun vs H1 => tk σ H1 fun zs H2 => Q (permG a b is vs zs) H2
theorem vals_perm {vs : List V} {us : List Value} (r : Vals vs us) : ∀ is : List Nat, Vals (permL is vs) (permL is us)
  | [] => .nil
  | i :: is => by
    have ih := vals_perm r is
    have g : ∀ {vs : List V} {us : List Value} (i : Nat), Vals vs us → (vs[i]? = none ∧ us[i]? = none) ∨ ∃ v u, vs[i]? = some v ∧ us[i]? = some u ∧ RelV v u := by
      intro vs us i r
      induction r generalizing i with
      | nil => exact .inl ⟨by simp, by simp⟩
      | cons h t ih =>
        cases i with
        | zero => exact .inr ⟨_, _, rfl, rfl, h⟩
        | succ i => simpa using ih i
    unfold permL at ih ⊢
    rcases g i r with ⟨e1, e2⟩ | ⟨v, u, e1, e2, h⟩
    · rw [List.filterMap_cons, List.filterMap_cons, e1, e2]
      exact ih
    · rw [List.filterMap_cons, List.filterMap_cons, e1, e2]
      exact .cons h ih
section
variable {X : Cx} {CX : CXT} {k n : Nat} {x : Str} {ps ks : List Str} {sp : Sp} {p pos : Pos} {e : Expr} {es : List Expr} {t tk : TA} {st : Stmt} {kws : List Keyword} {is : List Nat} {a b : Nat}
theorem kpG_kw {pins : List (Addr × Obj)} {σ : L2.St} {H : Hp} {s : Shared} {Q : VK} {E : XK} {f : Addr} {us ws : List Value} {vs zs : List V} (h : KpG X.prog X.w X.K X.mg X.base CX k x ps sp) (Fx : ∃ f fd, X.mg x = some (.ref f) ∧ Fun X.K x x st f fd) (hm : X.mg x = some (.ref f)) (hx : Passes CX X E) (gd : X.A.guards = some []) (hr : Room k X.A)
    (hkb : ∀ (kV doc pm : Value) (an : Option Addr) (cdv ct : Value) (us ws : List Value), us.length = a → ws.length = b → bindArgs (PySem.W.fnOf x x (defArgs st) (defBody st) (defScope st) .none kV doc pm an cdv ct) ⟨us, ks.zip ws⟩ = pure (ps.zip (permL is (us ++ ws))))
    (I : Inv X pins σ H s) (r : Vals vs us) (rz : Vals zs ws) (h0 : ps.length ≠ 0) (q : sp (permG a b is vs zs) H Q E) : wpAny (model X.prog X.w) X.A (call (.ref f) us (ks.zip ws)) (EP X pins σ Q) X.xe s := by
  obtain ⟨f1, fd, h1, h2, h3, h4, h5, oc, od, osl, lk⟩ := h
  obtain ⟨f2, fd2, hm2, F⟩ := Fx
  have e1 := hm.symm.trans h1
  cases e1
  have e2 := hm.symm.trans hm2
  cases e2
  obtain ⟨oc2, od2, kV, doc, pm, an, cdv, ct, osl2, rfl, lk2, hcd⟩ := F.ex
  have e3 := lk.symm.trans lk2
  injection e3 with e3
  injection e3 with _ _ e3 _
  injection e3 with e4
  subst e4
  have hv : vs.length = a ∧ zs.length = b := by
    have z := h4 _ _ _ _ q
    unfold permG at z
    split at z
    · assumption
    · exact absurd z.symm h0
  have q : sp (permL is (vs ++ zs)) H Q E := by
    unfold permG at q
    rw [if_pos hv] at q
    exact q
  have rr : Vals (permL is (vs ++ zs)) (permL is (us ++ ws)) := vals_perm (r.append rz) is
  refine wpAny_call (codeAny_mono (h5 X.A X.stack s H ⟨us, ks.zip ws⟩ _ _ Q E gd hr I.env0 (.of_eq (hkb kV doc pm an cdv ct us ws (by rw [← r.length]; exact hv.1) (by rw [← rz.length]; exact hv.2))) rr q) fun rs s2 z => ?_)
  cases rs with
  | error er => exact hx pins σ H s er s2 I z
  | ok fl =>
    cases fl with
    | ret u => exact I.after z
    | next => exact False.elim z
    | brk => exact False.elim z
    | cont => exact False.elim z
/-- f(k = v, ..) -/
theorem pe_kpGK0 {E : XK} (h : KpG X.prog X.w X.K X.mg X.base CX k x ps sp) (Fx : ∃ f fd, X.mg x = some (.ref f) ∧ Fun X.K x x st f fd) (hx : Passes CX X E) (gd : X.A.guards = some []) (hr : Room k X.A) (hg : Gl X x) (hkw : PK X kws tk)
    (hkb : ∀ (kV doc pm : Value) (an : Option Addr) (cdv ct : Value) (us ws : List Value), us.length = a → ws.length = b → bindArgs (PySem.W.fnOf x x (defArgs st) (defBody st) (defScope st) .none kV doc pm an cdv ct) ⟨us, ks.zip ws⟩ = pure (ps.zip (permL is (us ++ ws))))
    (h0 : ps.length ≠ 0) (hall : (backToKw pos (keywordEach kws X.env)).all (·.1.isSome) = true := by rfl) (hks : (backToKw pos (keywordEach kws X.env)).filterMap (·.1) = ks := by rfl)
    (hdb : (x == ("__debug__" : Str)) = false := by decide) (hpl : ((backTo pos (starEach [] X.env)).any (·.1) || (backToKw pos (keywordEach kws X.env)).any (·.1.isNone)) = false := by rfl) : PE X (.Call (.Name x p) [] kws pos) (tCall sp [] E (tKw a b is tNil tk)) := by
  obtain ⟨f, fd, h1, h2, _⟩ := id h
  refine ⟨fun pins s σ H Q I hq => wpAny_Call_Name_kw (ld_glob I hg h1 ?_ hdb)⟩
  refine PySem.W.callWith_KW0 (h₀ := X.base) I.ok.mod.kin h2 hall (thn (hkw.run pos pins s σ H _ I hq) fun ws s2 ⟨zs, H2, I2, rz, q2⟩ => ⟨I2.kIn, ?_⟩) hpl
  rw [hks]
  have q2 : sp (permG a b is [] zs ++ []) H2 Q E := q2
  rw [List.append_nil] at q2
  exact kpG_kw (us := []) (vs := []) h Fx h1 hx gd hr hkb I2 .nil rz h0 q2
/-- f(e, .., k = v, ..) -/
theorem pe_kpGK {E : XK} (h : KpG X.prog X.w X.K X.mg X.base CX k x ps sp) (Fx : ∃ f fd, X.mg x = some (.ref f) ∧ Fun X.K x x st f fd) (hx : Passes CX X E) (gd : X.A.guards = some []) (hr : Room k X.A) (hg : Gl X x) (ha : PA X (e :: es) t) (hkw : PK X kws tk)
    (hkb : ∀ (kV doc pm : Value) (an : Option Addr) (cdv ct : Value) (us ws : List Value), us.length = a → ws.length = b → bindArgs (PySem.W.fnOf x x (defArgs st) (defBody st) (defScope st) .none kV doc pm an cdv ct) ⟨us, ks.zip ws⟩ = pure (ps.zip (permL is (us ++ ws))))
    (h0 : ps.length ≠ 0) (hall : (backToKw pos (keywordEach kws X.env)).all (·.1.isSome) = true := by rfl) (hks : (backToKw pos (keywordEach kws X.env)).filterMap (·.1) = ks := by rfl)
    (hdb : (x == ("__debug__" : Str)) = false := by decide) (he : starEach (e :: es) X.env = (false, eval e X.env) :: starEach es X.env := by rfl)
    (hpl : ((backTo pos (starEach (e :: es) X.env)).any (·.1) || (backToKw pos (keywordEach kws X.env)).any (·.1.isNone)) = false := by rfl) : PE X (.Call (.Name x p) (e :: es) kws pos) (tCall sp [] E (tKw a b is t tk)) := by
  obtain ⟨f, fd, h1, h2, _⟩ := id h
  refine ⟨fun pins s σ H Q I hq => wpAny_Call_Name_kw (ld_glob I hg h1 ?_ hdb)⟩
  refine PySem.W.callWith_KW (h₀ := X.base) I.ok.mod.kin h2 hall (thn (ha.run pos pins s σ H _ I hq) fun us s1 ⟨vs, H1, I1, r, q⟩ => ?_) hpl he
  refine thn (hkw.run pos pins s1 σ H1 _ I1 q) fun ws s2 ⟨zs, H2, I2, rz, q2⟩ => ⟨I2.kIn, ?_⟩
  rw [hks]
  have q2 : sp (permG a b is vs zs ++ []) H2 Q E := q2
  rw [List.append_nil] at q2
  exact kpG_kw h Fx h1 hx gd hr hkb I2 r rz h0 q2
end
/-- from the body, which may ask repr -/
theorem kpG_of {P : Program} {w : World} {K : PySem.W.Frag} {mg : Str → Option Value} {base : Heap} {CX : CXT} {k : Nat} {x : Str} {ps N : List Str} {st : Stmt} {sp : Sp} (Fx : ∃ f fd, mg x = some (.ref f) ∧ Fun K x x st f fd) (S : FnScope N ps (defScope st))
    (hb : ∀ {f : Addr} {fd : FuncData} (_ : Fun K x x st f fd), Binds K fd ps []) (len : ∀ vs H Q E, sp vs H Q E → vs.length = ps.length)
    (body : ∀ (f : Addr) (cdv : Value) (A : Around) (outer : List Env) (s : Shared) (H : Hp) (vs : List V) (Q : VK) (E : XK), (A.deeper (envOfC x (defScope st) s.heap.objs.size f cdv)).guards = some [] → Room k (A.deeper (envOfC x (defScope st) s.heap.objs.size f cdv)) → sp vs H Q E →
      ∃ t, PSs (cxOf CX P w K mg base N x (defScope st) f cdv A outer s H E) (defBody st) t ∧ t { nx := fun _ H' => Q .non H', rt := Q } (L2.start N vs) H) : KpG P w K mg base CX (k + 1) x ps sp := by
  obtain ⟨f, fd, hm, F⟩ := Fx
  have B := hb F
  obtain ⟨oc, od, kV, doc, pm, an, cdv, ct, osl, rfl, lk, hcd⟩ := F.ex
  exact ⟨f, _, hm, F.kp, B, len, fun A outer s H args us vs Q E g hr e0 bd r h => run_ofS (CX := CX) lk hcd S hr e0 bd r (len _ _ _ _ h) fun hr' => body f cdv A outer s H vs Q E g hr' h, _, _, _, lk⟩
end Cn
set_option Elab.async false
set_option linter.all false
set_option maxRecDepth 100000
set_option maxHeartbeats 4000000
/-! A lambda that is handed on: called in a def further in than the one it was handed to. -/
namespace Cn
open PySem PySem.Spec PySem.Calls PyProof.Rows L2 LamX
section
variable {X : Cx} {pins : List (Addr × Obj)} {σ : L2.St} {H : Hp} {s : Shared}
/-- x() in a context Z whose states all lie behind the state (s, H) of X in which the lambda was made -/
theorem pe_actZ {CXg : CXT} {Eg : XK} {Ng : List Str} {qg : Str} {sg : Scope} {g f c' : Addr} {cdg pm ctv : Value} {params : Arguments} {body : Expr} {scope : Scope} {k i : Nat} {a : Str} {pn : List (Addr × Obj)} {xe : Value → Shared → Prop} {W : WX} {E : XK} {tb : TE} {p1 p2 : Pos}
    {A' : Around} {stack' : List Env} {s' : Shared} {H' : Hp}
    (I : Inv X pins σ H s) (L : LamS X.env.scope scope) (ob : s.heap.get? f = some (PySem.W.kla_obj "<lambda>" (X.env.qual ++ "<lambda>") params body scope (cloFrom X.env.cells scope.names []) pm c' ctv)) (fn : H f = none) (ff : f ∉ frs X.stack)
    (bind : bindArgs (PySem.W.kla_fn "<lambda>" (X.env.qual ++ "<lambda>") params body scope (cloFrom X.env.cells scope.names []) pm (.ref c') ctv) ⟨[], []⟩ = pure [])
    (far : ∀ (pz : List (Addr × Obj)) (σz : L2.St) (Hz : Hp) (sz : Shared), Inv ((cxOf CXg X.prog X.w X.K X.mg X.base Ng qg sg g cdg A' stack' s' H' Eg).tr pn xe) pz σz Hz sz → Un (frs X.stack) [] H Hz s.heap sz.heap)
    (tk : Takes ((cxOf CXg X.prog X.w X.K X.mg X.base Ng qg sg g cdg A' stack' s' H' Eg).tr pn xe) W) (hW : ∀ cls d σ' H', E cls d H' → W cls d σ' H') (room : Room (k + 1) (A'.deeper (envOfC qg sg s'.heap.objs.size g cdg)))
    (hbody : ∀ (A : Around) (outer : List Env) (s : Shared) (H : Hp), Room k (A.deeper (lamEnv X scope s.heap.objs.size f c')) → PE (lamCx X A outer s H E scope f c') body tb)
    (hN : Ng[i]? = some a) (hv : Vis sg a) (hd : (a == ("__debug__" : Str)) = false := by decide) (hcd : (a == ("__classdict__" : Str)) = false := by decide) :
    PE ((cxOf CXg X.prog X.w X.K X.mg X.base Ng qg sg g cdg A' stack' s' H' Eg).tr pn xe) (.Call (.Name a p1) [] [] p2)
      (fun σz Hz Q => σz[i]? = some (some (.ref f)) ∧ Hz c' = some (CodeO c' (X.env.qual ++ "<lambda>")) ∧ tb σ Hz Q) := by
  refine ⟨fun pz sz σz Hz Q Iz hz => ?_⟩
  obtain ⟨h1, h2, h3⟩ := hz
  refine wpAny_Call_Name_kw (thn ((pe_var (pos := p1) (i := i) hN hv hd hcd).run pz sz σz Hz (fun v G => v = .ref f ∧ G = Hz) Iz ⟨.ref f, h1, rfl, rfl⟩) fun u t1 ⟨v, G, J, rv, ev, eG⟩ => ?_)
  subst ev
  rw [eG] at J
  obtain rfl : u = Value.ref f := rv
  have U := far _ _ _ _ J
  have ob1 := U.keep f _ ob fn ff (fun z => nomatch (show f ∈ ([] : List Addr) from z))
  refine PySem.W.callWith_F0 ⟨_, _, _, _, ob1⟩ ?_
  obtain ⟨⟨oc, vs, t, w1, w2, w3⟩, _, _⟩ := J.hok c' _ h2
  have run : codeAny (model X.prog X.w) (A'.deeper (envOfC qg sg s'.heap.objs.size g cdg)) (.call (.ref f) ⟨[], []⟩) (CR (L2.CX X.prog X.w) (envOfC qg sg s'.heap.objs.size g cdg :: stack') X.prog X.w Hz t1 Q E) t1 := by
    refine PySem.W.kla_callFunE room.depth ob1 rfl L.co L.gen rfl ⟨c', oc, vs, t, rfl, w1, w2, w3⟩ ?_
    rw [bind]
    refine wpAny_pure (wpAny_newFunctionEnv (fun y hy => (L.own y hy).2) (fun y hy => nomatch (show y ∈ ([] : List (Str × Value)) from hy)) (fun h₁ hns hsb => ⟨J.nolimit.fresh _ hsb, ?_⟩) L.kind)
    show codeAny _ _ (.expr body (lamEnv X scope t1.heap.objs.size f c')) _ _
    have more : ∀ b o, t1.heap.get? b = some o → h₁.get? b = some o := fun b o q => hsb.extBut b o (Nat.ne_of_lt (Heap.lt_size q)) (Heap.get?_push_of_some _ q)
    have M : Inv (lamCx X (A'.deeper (envOfC qg sg s'.heap.objs.size g cdg)) (envOfC qg sg s'.heap.objs.size g cdg :: stack') t1 Hz E scope f c') [] σ Hz { t1 with heap := h₁, toks := t1.toks + ([] : List (Str × Value)).length } :=
      lam_start2 I L J.env0 room.hd U hns more
    refine PySem.W.kla_codeExpr (wpAny_mono ((hbody _ _ t1 Hz (room.deeper _)).run [] _ _ Hz Q M h3) (fun v r hq => ?_) fun e r hq => hq)
    obtain ⟨y, G, M', ry, q⟩ := hq
    exact ⟨y, G, M'.os, M'.bare, M'.base, M'.hok, ry, q⟩
  have out : Passes (L2.CX X.prog X.w) ((cxOf CXg X.prog X.w X.K X.mg X.base Ng qg sg g cdg A' stack' s' H' Eg).tr pn xe) E := passes_call tk hW
  refine wpAny_call (codeAny_mono run fun r t2 hq => ?_)
  cases r with
  | error e => exact out pz σz Hz t1 e t2 J hq
  | ok fl =>
    cases fl with
    | ret u => exact J.after hq
    | next => exact hq.elim
    | brk => exact hq.elim
    | cont => exact hq.elim
end
/-- two stretches of a run put together: the second one may write to further frames, which the first state does not know -/
theorem un_far {fs fs2 : List Addr} {H H1 H2 : Hp} {h h1 h2 : Heap} (a : Un fs [] H H1 h h1) (b : Un fs2 [] H1 H2 h1 h2) (sub : ∀ c o, h.get? c = some o → c ∈ fs2 → c ∈ fs) : Un fs [] H H2 h h2 where
  keep := fun c o q n nf nx => b.keep c o (a.keep c o q n nf nx) (a.free c o q n nx) (fun z => nf (sub c o q z)) nx
  slot := fun c o q n hf nx => by
    obtain ⟨sl, q1⟩ := a.slot c o q n hf nx
    obtain ⟨sl2, q2⟩ := b.any q1 (a.free c o q n nx) nx
    exact ⟨sl2, q2⟩
  free := fun c o q n nx => by
    obtain ⟨o1, q1⟩ := a.there c o q nx
    exact b.free c o1 q1 (a.free c o q n nx) nx
  there := fun c o q nx => by
    obtain ⟨o1, q1⟩ := a.there c o q nx
    exact b.there c o1 q1 nx
  tups := fun c xs q => b.tups c xs (a.tups c xs q)
  frzs := fun c o u q => b.frzs c o u (a.frzs c o u q)
  tbls := fun c ps q => by
    obtain ⟨m1, q1⟩ := a.tbls c ps q
    obtain ⟨m2, q2⟩ := b.tbls c _ q1
    exact ⟨m1 ++ m2, by rw [q2, Array.append_assoc]⟩
/-- a def that hands its argument on to another def and goes on with what that gives -/
def GivesOn (X : Cx) (Nr : List Str) (xr : Str) (sr : Scope) (gr : Addr) (cdr : Value) (br : List Stmt) (xc a q : Str) (TTc TT : (XK → Hp → VK → Prop) → Hp → VK → Prop) : Prop :=
  ∀ (f c' : Addr) (s : Shared) (H : Hp) (Q : VK) (tl : XK → Hp → VK → Prop),
    (∀ (pn : List (Addr × Obj)) (xe : Value → Shared → Prop) (p1 p2 p3 : Pos), PE ((cxOf C8.CX0 X.prog X.w X.K X.mg X.base Nr xr sr gr cdr X.A X.stack s H C8.E0).tr pn xe) (.Call (.Name xc p1) [.Name a p2] [] p3)
      (fun σz Hz Q => σz[0]? = some (some (.ref f)) ∧ Hz c' = some (CodeO c' q) ∧ TTc tl Hz Q)) →
    H c' = some (CodeO c' q) → TT tl H Q →
    ∃ t, PSs (cxOf C8.CX0 X.prog X.w X.K X.mg X.base Nr xr sr gr cdr X.A X.stack s H C8.E0).nox br t ∧ t { nx := fun _ H' => Q .non H', rt := Q } (L2.start Nr [.ref f]) H
/-- the same context, seen from where the inner def is called -/
abbrev stepCx (X : Cx) (A' : Around) (stack' : List Env) : Cx := { X with A := A', stack := stack' }
section
variable {X : Cx}
/-- x(lambda: body), x hands it on to xc, which calls it -/
theorem pe_lamon {T : List (Addr × Str)} {TTc TT : (XK → Hp → VK → Prop) → Hp → VK → Prop} {x xc a ac : Str} {g gc c P : Addr} {k : Nat} {pg pc : Arguments} {bg bc : List Stmt} {sg sc : Scope} {dV kV doc pm cdv ct oc dV' kV' doc' pm' cdv' ct' oc' : Value} {an od an' od' : Option Addr} {osl osl' : Array (Option Value)} {Ng Nc : List Str}
    {params : Arguments} {body : Expr} {scope : Scope} {t : XK → TE} {p lpos pos : Pos} (hg : Gl X x) (hm : X.mg x = some (.ref g)) (hk : PySem.W.keepIn X.K (.ref g) = true)
    (lk : X.K.lookup g = some ⟨oc, od, .func (PySem.W.fnOf x x pg bg sg dV kV doc pm an cdv ct), osl⟩) (hcg : PySem.W.codeIn X.K cdv x = true) (hb : L2.Binds X.K (PySem.W.fnOf x x pg bg sg dV kV doc pm an cdv ct) [a] []) (Sg : FnScope Ng [a] sg) (hNg : Ng[0]? = some a) (hva : Vis sg a)
    (gC : sg.names.lookup xc = some .globalImplicit) (hm' : X.mg xc = some (.ref gc)) (hk' : PySem.W.keepIn X.K (.ref gc) = true) (lk' : X.K.lookup gc = some ⟨oc', od', .func (PySem.W.fnOf xc xc pc bc sc dV' kV' doc' pm' an' cdv' ct'), osl'⟩) (hcg' : PySem.W.codeIn X.K cdv' xc = true)
    (hb' : L2.Binds X.K (PySem.W.fnOf xc xc pc bc sc dV' kV' doc' pm' an' cdv' ct') [ac] []) (Sc : FnScope Nc [ac] sc) (hNc : Nc[0]? = some ac) (hvc : Vis sc ac)
    (hC : ∀ (A' : Around) (stack' : List Env), GivesTo (stepCx X A' stack') Nc xc sc gc cdv' bc ac (X.env.qual ++ "<lambda>") TTc) (hG : GivesOn X Ng x sg g cdv bg xc a (X.env.qual ++ "<lambda>") TTc TT)
    (TB : TabB X.base X.mg c P) (hcode : X.env.code = .ref c) (hmT : (P, X.env.qual ++ "<lambda>") ∈ T) (hu : ∀ p ∈ T, p.1 = P → p.2 = X.env.qual ++ "<lambda>") (hr : Room (k + 3) X.A) (L : LamS X.env.scope scope) (hdef : defaultsOf params X.env = ([], []))
    (hbind : ∀ (q : Str) (cl : List (Str × Addr)) (pm cv ctv : Value), bindArgs (PySem.W.kla_fn "<lambda>" q params body scope cl pm cv ctv) ⟨[], []⟩ = pure [])
    (hbody : ∀ (A : Around) (outer : List Env) (s : Shared) (H : Hp) (E : XK) (f c' : Addr), Room k (A.deeper (lamEnv X scope s.heap.objs.size f c')) → PE (lamCx X A outer s H E scope f c') body (t E))
    (hdb : (x == ("__debug__" : Str)) = false := by decide) (hdc : (xc == ("__debug__" : Str)) = false := by decide) (hd : (a == ("__debug__" : Str)) = false := by decide) (hcd : (a == ("__classdict__" : Str)) = false := by decide) (hd' : (ac == ("__debug__" : Str)) = false := by decide) (hcd' : (ac == ("__classdict__" : Str)) = false := by decide) :
    PE X (.Call (.Name x p) [.Lambda params body scope lpos] [] pos) (tLam T TT t) := by
  refine ⟨fun pins s σ H Q I h => ?_⟩
  obtain ⟨hT, h⟩ := h
  refine wpAny_Call_Name_kw (ld_glob I hg hm ?_ hdb)
  refine PySem.W.callWith_K (h₀ := X.base) I.ok.mod.kin hk ?_ (by rfl) (by rfl)
  show wpAny _ _ (spliced ((false, eval (.Lambda params body scope lpos) X.env) :: backTo pos (starEach [] X.env))) _ _ s
  refine Calls.spliced_cons (lam_make2 I TB hcode hmT hu hT hdef (L.has I.ok) fun f c' pm'' ctv H1 s1 I1 eN T1 hf hfn hfr hco => ?_)
  refine Calls.spliced_nil ⟨I1.kIn, ?_⟩
  have rc : codeAny (model X.prog X.w) X.A (.call (.ref g) ⟨[.ref f], []⟩) (CR C8.CX0 X.stack X.prog X.w H1 s1 Q C8.E0) s1 := by
    refine run_ofS (N := Ng) (ps := [a]) (us := [.ref f]) (vs := [.ref f]) lk hcg Sg hr I1.env0 (hb s1 [.ref f] I1.kIn rfl) (.cons rfl .nil) rfl fun hr' => ?_
    have on : ∀ (pn : List (Addr × Obj)) (xe : Value → Shared → Prop) (p1 p2 p3 : Pos), PE ((cxOf C8.CX0 X.prog X.w X.K X.mg X.base Ng x sg g cdv X.A X.stack s1 H1 C8.E0).tr pn xe) (.Call (.Name xc p1) [.Name a p2] [] p3)
        (fun σz Hz Q => σz[0]? = some (some (.ref f)) ∧ Hz c' = some (CodeO c' (X.env.qual ++ "<lambda>")) ∧ TTc (fun E H' Q' => t E σ H' Q') Hz Q) := by
      intro pn xe p1 p2 p3
      refine ⟨fun pz sz σz Hz Qz Iz hz => ?_⟩
      obtain ⟨h1, h2, h3⟩ := hz
      refine wpAny_Call_Name_kw (ld_glob Iz gC hm' ?_ hdc)
      refine PySem.W.callWith_K (h₀ := X.base) Iz.ok.mod.kin hk' (thn ((pa_cons (pe_var (pos := p2) (i := 0) hNg hva hd hcd) pa_nil).run p3 pz sz σz Hz (fun vs G => vs = [.ref f] ∧ G = Hz) Iz ⟨.ref f, h1, rfl, rfl⟩) fun us t1 ⟨vs, G, J, r1, ev, eG⟩ => ⟨J.kIn, ?_⟩) (by rfl) (by rfl)
      subst ev
      rw [eG] at J
      obtain rfl : us = [Value.ref f] := by
        cases r1 with
        | cons z1 z2 =>
          cases z2
          cases z1
          rfl
      have rC : codeAny (model X.prog X.w) (X.A.deeper (envOfC x sg s1.heap.objs.size g cdv)) (.call (.ref gc) ⟨[.ref f], []⟩) (CR C8.CX0 (envOfC x sg s1.heap.objs.size g cdv :: X.stack) X.prog X.w Hz t1 Qz C8.E0) t1 := by
        refine run_ofS (N := Nc) (ps := [ac]) (us := [.ref f]) (vs := [.ref f]) lk' hcg' Sc hr' J.env0 (hb' t1 [.ref f] J.kIn rfl) (.cons rfl .nil) rfl fun hr2 => ?_
        have act : ∀ (W : WX) (pn : List (Addr × Obj)) (xe : Value → Shared → Prop) (E : XK) (p1 p2 : Pos), Takes ((cxOf C8.CX0 X.prog X.w X.K X.mg X.base Nc xc sc gc cdv' (X.A.deeper (envOfC x sg s1.heap.objs.size g cdv)) (envOfC x sg s1.heap.objs.size g cdv :: X.stack) t1 Hz C8.E0).tr pn xe) W →
            (∀ cls d σ' H', E cls d H' → W cls d σ' H') → PE ((cxOf C8.CX0 X.prog X.w X.K X.mg X.base Nc xc sc gc cdv' (X.A.deeper (envOfC x sg s1.heap.objs.size g cdv)) (envOfC x sg s1.heap.objs.size g cdv :: X.stack) t1 Hz C8.E0).tr pn xe) (.Call (.Name ac p1) [] [] p2)
              (fun σZ HZ Q => σZ[0]? = some (some (.ref f)) ∧ HZ c' = some (CodeO c' (X.env.qual ++ "<lambda>")) ∧ t E σ HZ Q) := fun W pn xe E p1 p2 tk hW =>
          pe_actZ (i := 0) I1 L hf hfn hfr (hbind _ _ _ _ _) (fun pz σz Hz' sz Jz => un_far J.base Jz.base fun c0 o0 q0 m0 => by
            have m0 : c0 ∈ frs (envOfC x sg s1.heap.objs.size g cdv :: X.stack) := m0
            obtain ⟨e0, he0, hq0⟩ := List.mem_filterMap.mp m0
            rcases List.mem_cons.mp he0 with z | z
            · rw [z] at hq0
              have hq0 : some s1.heap.objs.size = some c0 := hq0
              have lt := Heap.lt_size q0
              rw [Option.some.inj hq0] at lt
              exact absurd lt (Nat.lt_irrefl _)
            · exact List.mem_filterMap.mpr ⟨e0, z, hq0⟩) tk hW hr2 (fun A outer s H hr3 => hbody A outer s H E f c' hr3) hNc hvc hd' hcd'
        obtain ⟨t', ht', hq'⟩ := hC (X.A.deeper (envOfC x sg s1.heap.objs.size g cdv)) (envOfC x sg s1.heap.objs.size g cdv :: X.stack) f c' t1 Hz Qz (fun E H' Q' => t E σ H' Q') act h2 h3
        exact ⟨t', ht'.nox, hq'⟩
      refine wpAny_call (codeAny_mono rC fun r t2 hq => ?_)
      cases r with
      | error e => exact (show False from hq).elim
      | ok fl =>
        cases fl with
        | ret u => exact J.after hq
        | next => exact hq.elim
        | brk => exact hq.elim
        | cont => exact hq.elim
    obtain ⟨t', ht', hq'⟩ := hG f c' s1 H1 Q (fun E H' Q' => t E σ H' Q') on hco (h H1 eN T1)
    exact ⟨t', ht'.nox, hq'⟩
  refine wpAny_call (codeAny_mono rc fun r s2 hq => ?_)
  cases r with
  | error e => exact (show False from hq).elim
  | ok fl =>
    cases fl with
    | ret u => exact I1.after hq
    | next => exact hq.elim
    | brk => exact hq.elim
    | cont => exact hq.elim
end
end Cn
set_option Elab.async false
set_option linter.all false
set_option maxRecDepth 100000
set_option maxHeartbeats 4000000
/-! t + u, t[a:b] of tuples, with results that are known to have no dict of their own. -/
namespace Cn
open PySem PySem.Spec PyProof.Rows L2
/-- a new frozen tuple, laid -/
theorem laid_tup {X : Cx} {pins : List (Addr × Obj)} {σ : L2.St} {H : Hp} {s : Shared} {xs : List V} {us : List Value} {n : Nat} (I : Inv X pins σ H s) (r : Vals xs us) (z : us.length ≤ sizeLine) :
    Inv X pins σ (upd H s.heap.objs.size (.frz { cls := .type "tuple", data := .seq us.toArray n } (.tup xs))) { s with heap := s.heap.push { cls := .type "tuple", data := .seq us.toArray n }, toks := s.toks } := by
  have hg : (s.heap.push { cls := .type "tuple", data := .seq us.toArray n }).get? s.heap.objs.size = some { cls := .type "tuple", data := .seq us.toArray n } := Heap.get?_push_size _ rfl
  exact I.laid (t' := s.toks) (fun b u e => Heap.get?_push_of_some _ e) (Nat.le_refl _) ⟨hg, by rw [r.length]; exact z, us, r, ⟨_, hg, rfl, _, rfl⟩⟩
def rCatZ (K : PySem.W.Frag) : R2 := fun x y H Q => ∃ a b xs ys, x = .ref a ∧ y = .ref b ∧ TupZ K H a xs ∧ TupZ K H b ys ∧ xs.length + ys.length ≤ sizeLine ∧ (xs = [] → Q (.ref b) H) ∧ (xs ≠ [] → ys = [] → Q (.ref a) H) ∧
  (xs ≠ [] → ys ≠ [] → ∀ p o, H p = none → o.dict = none → Q (.ref p) (upd H p (.frz o (.tup (xs ++ ys)))))
theorem op_catZ {X : Cx} {K : PySem.W.Frag} (hK : X.K = K) : OpR X (binaryOp .Add) (rCatZ K) := by
  subst hK
  intro pins s σ H x y v u Q I rx ry h
  obtain ⟨a, b, xs, ys, rfl, rfl, ha, hb, hz, q0, q1, q2⟩ := h
  cases rx
  cases ry
  obtain ⟨its, r1, p1, _⟩ := I.tuple ha.sq
  obtain ⟨its2, r2, p2, _⟩ := I.tuple hb.sq
  by_cases hx : xs = []
  · subst hx
    cases r1
    exact cat_tup0 p1 p2 ⟨.ref b, H, I, rfl, q0 rfl⟩
  · refine HT.cat_tup p1 p2 (fun z => hx (r1.nil_iff.mp z)) (fun z => ⟨.ref a, H, I, rfl, q1 hx (r2.nil_iff.mp z)⟩) (fun z => ?_) (by rw [← r1.length, ← r2.length]; exact hz)
    have len : (its ++ its2).length ≤ sizeLine := by
      rw [List.length_append, ← r1.length, ← r2.length]
      exact hz
    exact ⟨.ref s.heap.objs.size, _, laid_tup I (r1.append r2) len, rfl, q2 hx (fun w => z (r2.nil_iff.mpr w)) _ _ (I.hok.fresh (Nat.le_refl _)) rfl⟩
def rSlZ (K : PySem.W.Frag) : V → Option Int → Option Int → Hp → VK → Prop := fun x lo hi H Q => ∃ a xs, x = .ref a ∧ TupZ K H a xs ∧ (HT.sIx xs.length 0 lo = 0 ∧ HT.sIx xs.length xs.length hi = xs.length → Q (.ref a) H) ∧
  (¬ (HT.sIx xs.length 0 lo = 0 ∧ HT.sIx xs.length xs.length hi = xs.length) → ∀ p o, H p = none → o.dict = none → Q (.ref p) (upd H p (.frz o (.tup (cutV xs lo hi)))))
theorem sl_tupZ {X : Cx} {K : PySem.W.Frag} (hK : X.K = K) : SlR X (rSlZ K) := by
  subst hK
  intro pins s σ H x v vl vu lo hi sl Q I rx hs pl pu h
  obtain ⟨a, xs, rfl, hx, q1, q2⟩ := h
  cases rx
  obtain ⟨its, r, ht, hz⟩ := I.tuple hx.sq
  have hlen : its.toArray.size = xs.length := by
    rw [List.size_toArray]
    exact r.length.symm
  refine ⟨"tuple", _, PyProof.Rows.slot_tuple_getitem.lookup, ht.typeIs, ?_⟩
  by_cases hw : HT.sIx xs.length 0 lo = 0 ∧ HT.sIx xs.length xs.length hi = xs.length
  · exact getItem_tuple_whole ht hs pl pu (by rw [hlen]; exact hw) ⟨.ref a, H, I, rfl, q1 hw⟩
  · refine HT.getItem_tuple_cut ht hs pl pu (by rw [hlen]; exact hw) ?_ (by rw [hlen]; exact hz)
    rw [hlen]
    have rc := (r.drop (HT.sIx xs.length 0 lo)).take (HT.sIx xs.length xs.length hi - HT.sIx xs.length 0 lo)
    refine ⟨.ref s.heap.objs.size, _, laid_tup I rc (by rw [← rc.length]; exact Nat.le_trans (cutV_length xs lo hi) hz), rfl, q2 hw _ _ (I.hok.fresh (Nat.le_refl _)) rfl⟩
section
variable {K : PySem.W.Frag} {F : Hp} {σ : L2.St} {ta tb : TE} {ds es : List D}
theorem dpa_cut {xs : List V} {lo hi : Option Int} : ∀ {F : Hp} {ds : List D}, DzAll K F xs ds → DzAll K F (cutV xs lo hi) ((ds.drop (HT.sIx xs.length 0 lo)).take (HT.sIx xs.length xs.length hi - HT.sIx xs.length 0 lo)) := by
  have dr : ∀ (n : Nat) {F : Hp} {xs : List V} {ds : List D}, DzAll K F xs ds → DzAll K F (xs.drop n) (ds.drop n) := fun n => by
    induction n with
    | zero => exact fun h => h
    | succ n ih =>
      intro F xs ds h
      cases h with
      | nil => exact .nil
      | cons _ t => exact ih t
  have tk : ∀ (n : Nat) {F : Hp} {xs : List V} {ds : List D}, DzAll K F xs ds → DzAll K F (xs.take n) (ds.take n) := fun n => by
    induction n with
    | zero => exact fun h => by rw [List.take_zero, List.take_zero]; exact .nil
    | succ n ih =>
      intro F xs ds h
      cases h with
      | nil => exact .nil
      | cons h t => exact .cons h (ih t)
  intro F ds h
  exact tk _ (dr _ h)
theorem ed_catZ (h : EvD K F ta σ (.tuple ds)) (k : EvD K F tb σ (.tuple es)) (hl : ds.length + es.length ≤ 100000) : EvD K F (tOp (rCatZ K) ta tb) σ (.tuple (ds ++ es)) := fun F1 H1 a z Q q =>
  h F1 H1 a z _ fun u F2 H2 g r => k F2 H2 (a.trans g.ff) g.fh _ fun v F3 H3 g3 r3 => by
    have r := dp_ex g3.ff r
    cases r with
    | @tup a1 xs _ hs ha =>
      cases r3 with
      | @tup b1 ys _ ks ka =>
        have lx := dpa_len ha
        have ly := dpa_len ka
        refine ⟨a1, b1, xs, ys, rfl, rfl, hs.ex g3.fh, ks.ex g3.fh, Evl.sz_of (by omega), fun e => ?_, fun _ e => ?_, fun _ _ p o hp ho => ?_⟩
        · subst e
          cases ha
          exact q _ F3 H3 (g.trans g3) (.tup ks ka)
        · subst e
          cases ka
          exact q _ F3 H3 (g.trans g3) (by rw [List.append_nil]; exact .tup hs ha)
        · have n := Grow.new (o := .frz o (.tup (xs ++ ys))) g3.fh hp
          exact q _ _ _ ((g.trans g3).trans n) (.tup (.of upd_same ho) (dpa_app (dpa_ex n.ff ha) (dpa_ex n.ff ka)))
end
end Cn
set_option Elab.async false
set_option linter.all false
set_option maxRecDepth 100000
set_option maxHeartbeats 4000000
namespace Cn
open PySem PySem.Spec PyProof.Rows L2
/-- xs.count(x), of data -/
def rCountD (K : PySem.W.Frag) : V → List V → Hp → VK → Prop := fun x xs H Q => ∃ (a : Addr) (y : V) (d : D) (ds : List D), x = .ref a ∧ xs = [y] ∧ Dz K H (.ref a) (.list ds) ∧ Dz K H y d ∧ PyData.plainAll ds = true ∧ d.plain = true ∧ d.depth ≤ 60 ∧
  Q (.int ((ds.countP fun z => PyData.eqv z d : Nat) : Int)) H
theorem mt_countD {X : Cx} {K : PySem.W.Frag} (hK : X.K = K) (hu : X.A.units + 65 < cLine) : MtR X "list.count" (rCountD K) := by
  subst hK
  intro pins s σ H x xs v us Q I rx rxs h
  obtain ⟨a, y, d, ds, rfl, rfl, hl, hy, p1, p2, dp, q⟩ := h
  cases rx
  obtain ⟨u, rfl, ru⟩ := rxs.one
  obtain ⟨bs, rd⟩ := Dp.reads I d y u (hy.dp (noDict_plain _ p2)) ru
  cases hl with
  | lst hs ha =>
    obtain ⟨its, rv, ⟨o, n, ho, hc, _, hd⟩, _⟩ := I.list hs
    obtain ⟨as, ra⟩ := Dp.readsAll I ds _ its (DzAll.dp ha (noDict_plains _ p1)) rv
    exact PySem.SeqAt.count_list_data (vs := its.toArray) ⟨o, ho, hc, n, hd⟩ (by simpa using ra) rd p1 p2 (Nat.lt_of_le_of_lt (by have := Nat.min_le_right (PyData.depthAll ds) d.depth; omega) hu) ⟨.int _, H, I.tok _, ⟨_, rfl⟩, q⟩
end Cn
set_option Elab.async false
set_option linter.all false
set_option maxRecDepth 100000
set_option maxHeartbeats 4000000
namespace Cn
open PySem PySem.Spec PyProof.Rows L2
section
variable {K : PySem.W.Frag} {F : Hp} {σ : L2.St} {ta tb : TE} {ds es : List D}
theorem ed_list {tas : TA} (h : EvAs K F tas σ ds) (hl : ds.length ≤ 100000) : EvD K F (tLst tas) σ (.list ds) := fun F1 H1 a z Q q => h F1 H1 a z _ fun vs F2 H2 g r => by
  refine ⟨Evl.sz_of (by rw [dpa_len r]; exact hl), fun p hp => ?_⟩
  have n := Grow.new (o := .lst vs) g.fh hp
  exact q _ _ _ (g.trans n) (.lst (.of upd_same) (dpa_ex n.ff r))
theorem ed_dict0 : EvD K F tDNewK σ (.dict []) := fun F1 H1 a z Q q p hp => by
  have n := Grow.new (o := .dK []) z hp
  exact q _ _ _ n (.dct upd_same)
theorem ed_neg {i : Int} (h : EvD K F ta σ (.int i)) : EvD K F (tUn (rU fun i => .int (-i)) ta) σ (.int (-i)) := fun F1 H1 a z Q q => h F1 H1 a z _ fun v F2 H2 g r => by
  cases r
  exact ⟨i, rfl, q _ F2 H2 g (.int _)⟩
end
end Cn
set_option Elab.async false
set_option linter.all false
set_option maxRecDepth 100000
set_option maxHeartbeats 4000000
namespace Cn
open PySem PySem.Spec PyProof.Rows L2
/-- a def of the top as it stands -/
def Fg (K : PySem.W.Frag) (mg : Str → Option Value) (x : Str) (st : Stmt) : Prop := ∃ f fd, mg x = some (.ref f) ∧ Fun K x x st f fd

/-! ### data -/
mutual
def fine : D → Bool
  | .str x => decide (x.length ≤ 100000)
  | .list xs => decide (xs.length < 100000) && fineAll xs
  | .tuple xs => decide (xs.length < 100000) && fineAll xs
  | .dict _ => false
  | _ => true
def fineAll : List D → Bool
  | [] => true
  | x :: xs => fine x && fineAll xs
end
theorem fineAll_mem : ∀ {xs : List D} {d : D}, fineAll xs = true → d ∈ xs → fine d = true
  | x :: xs, d, h, m => by
    unfold fineAll at h
    obtain ⟨h1, h2⟩ := Bool.and_eq_true_iff.mp h
    rcases List.mem_cons.mp m with rfl | m
    · exact h1
    · exact fineAll_mem h2 m
def isNumD : D → Bool
  | .int _ => true
  | _ => false
def isNameD : D → Bool
  | .str x => nameOk x
  | _ => false
def isPairD : D → Bool
  | .tuple xs => decide (xs.length = 2)
  | _ => false
def fstD : D → D
  | .tuple (a :: _) => a
  | _ => .none
def sndD : D → D
  | .tuple [_, b] => b
  | _ => .none
def strD : D → Str
  | .str x => x
  | _ => default
theorem pair_of {d : D} (h : isPairD d = true) : ∃ a b, d = .tuple [a, b] := by
  unfold isPairD at h
  split at h
  · rename_i xs
    match xs, of_decide_eq_true h with
    | [a, b], _ => exact ⟨a, b, rfl⟩
  · cases h
theorem str_of {d : D} (h : isNameD d = true) : d = .str (strD d) := by
  unfold isNameD at h
  split at h
  · rfl
  · cases h
/-- ascending texts -/
def ascS : List Str → Bool
  | x :: y :: r => decide (x.cps.toList < y.cps.toList) && ascS (y :: r)
  | _ => true
theorem ascS_range : ∀ l : List Str, ((List.range (l.length - 1)).map fun i => decide ((l.getD i default).cps.toList < (l.getD (i + 1) default).cps.toList)).all id = ascS l
  | [] => rfl
  | [_] => rfl
  | x :: y :: r => by
    have ih := ascS_range (y :: r)
    have e : (x :: y :: r).length - 1 = ((y :: r).length - 1) + 1 := by simp
    rw [e, List.range_succ_eq_map, List.map_cons, List.all_cons, List.map_map]
    unfold ascS
    rw [← ih]
    rfl
def hasNamesD : D → Bool
  | .tuple xs => xs.all isPairD && ((xs.map fstD).all isNameD && ascS ((xs.map fstD).map strD))
  | _ => false
def isPlanD (d : D) : Bool := hasNamesD d && (match d with | .tuple xs => (xs.map sndD).all isNumD | _ => false)
def isEndD : D → Bool
  | .none => true
  | .int _ => true
  | _ => false
def isLimitD (d : D) : Bool := hasNamesD d && (match d with | .tuple xs => (xs.map sndD).all isEndD | _ => false)

/-! ### a < b of two numbers or two texts -/
theorem op_ltA {X : Cx} : OpR X (compareOp .Lt) (fun x y H Q => (∃ i j, x = .int i ∧ y = .int j ∧ Q (.bl (decide (i < j))) H) ∨ ∃ i j, x = .str i ∧ y = .str j ∧ Q (.bl (decide (i.cps.toList < j.cps.toList))) H) := by
  intro pins s σ H x y v u Q I rx ry h
  rcases h with h | h
  · exact op_lt pins s σ H x y v u Q I rx ry h
  · exact op_lt_str pins s σ H x y v u Q I rx ry h
theorem ix_seqK {X : Cx} {K : PySem.W.Frag} (h : X.K = K) : IxR X (rIx K) := h ▸ ix_seq
theorem call_lenK {X : Cx} {K : PySem.W.Frag} (h : X.K = K) : CallR X (.builtin "len") (fun xs H Q => ∃ x n, xs = [x] ∧ LenV K x H n ∧ Q (.int n) H) := h ▸ call_len
theorem call_isi1K {X : Cx} {K : PySem.W.Frag} (h : X.K = K) : CallR X (.builtin "isinstance") (rIsi K) := h ▸ call_isi
theorem call_isi2K {X : Cx} {K : PySem.W.Frag} (h : X.K = K) : CallR X (.builtin "isinstance") (rIsiT K) := h ▸ call_isiT
theorem no_isi {K : PySem.W.Frag} {F : Hp} {σ : L2.St} {te tr : TE} {a : D} {T : String} (h : EvD K F te σ a) (e : kitB (tyD a) T = some false) : EvD K F (tAndV (tCB (rIsi K) (tCons te (tCons (tC (.ty T)) tNil))) tr) σ (.bool false) := fun F1 H1 x z Q q =>
  ed_isi h e F1 H1 x z _ fun v F2 H2 g r => by
    cases r
    exact ⟨false, rfl, iteF (q _ F2 H2 g (.bl false))⟩
theorem no_isiS {K : PySem.W.Frag} {F : Hp} {σ : L2.St} {te : TE} {tu : TT} {tr : TS} {a : D} {T : String} (h : EvD K F te σ a) (e : kitB (tyD a) T = some false) : EvS K F (tSeq (tIfS (tOr (tNot (tB (tCB (rIsi K) (tCons te (tCons (tC (.ty T)) tNil))))) tu) (tRet (tC (.bl false))) tNext) tr) σ (.bool false) := fun F1 H1 x z Q q =>
  ed_isi h e F1 H1 x z _ fun v F2 H2 g r => by
    cases r
    exact ⟨false, rfl, iteT (iteT (q _ F2 H2 g (.bl false)))⟩
theorem ixL_of {K : PySem.W.Frag} {F : Hp} {σ : L2.St} {ta tb : TE} {ds : List D} {i : Int} {d : D} (h : EvD K F ta σ (.list ds)) (k : EvD K F tb σ (.int i)) (hd : atI ds i = some d) : EvD K F (tOp (rIx K) ta tb) σ d := fun F1 H1 a z Q q =>
  h F1 H1 a z _ fun v F2 H2 g r1 => k F2 H2 (a.trans g.ff) g.fh _ fun w F3 H3 g2 r2 => by
    cases r2
    have r1' := dp_ex g2.ff r1
    cases r1' with
    | lst hs ha =>
      unfold atI at hd
      rw [← dpa_len ha] at hd
      obtain ⟨j, h1, h2⟩ := Option.bind_eq_some_iff.mp hd
      obtain ⟨v, h3, h4⟩ := dpa_get' ha h2
      exact .inl ⟨_, _, i, v, rfl, rfl, Evl.ex_l g2.fh hs, by unfold atI; rw [h1]; exact h3, q v F3 H3 (g.trans g2) h4⟩

/-! ### the state of the draws -/
def stK (lg cl : Addr) (rest turn : Int) : List (Key × V) := [(.inr "large", .ref lg), (.inr "cells", .ref cl), (.inr "rest", .int rest), (.inr "turn", .int turn)]
theorem k_lc : ¬ ((Sum.inr ("large" : Str) : Key) = Sum.inr ("cells" : Str)) := by decide +kernel
theorem k_lr : ¬ ((Sum.inr ("large" : Str) : Key) = Sum.inr ("rest" : Str)) := by decide +kernel
theorem k_lt : ¬ ((Sum.inr ("large" : Str) : Key) = Sum.inr ("turn" : Str)) := by decide +kernel
theorem k_cr : ¬ ((Sum.inr ("cells" : Str) : Key) = Sum.inr ("rest" : Str)) := by decide +kernel
theorem k_ct : ¬ ((Sum.inr ("cells" : Str) : Key) = Sum.inr ("turn" : Str)) := by decide +kernel
theorem k_rt : ¬ ((Sum.inr ("rest" : Str) : Key) = Sum.inr ("turn" : Str)) := by decide +kernel
theorem st_large (lg cl : Addr) (r t : Int) : valV (stK lg cl r t) (Sum.inr ("large" : Str) : Key) = some (.ref lg) := valV_pos rfl
theorem st_cells (lg cl : Addr) (r t : Int) : valV (stK lg cl r t) (Sum.inr ("cells" : Str) : Key) = some (.ref cl) := (valV_neg k_lc).trans (valV_pos rfl)
theorem st_rest (lg cl : Addr) (r t : Int) : valV (stK lg cl r t) (Sum.inr ("rest" : Str) : Key) = some (.int r) := (valV_neg k_lr).trans ((valV_neg k_cr).trans (valV_pos rfl))
theorem st_turn (lg cl : Addr) (r t : Int) : valV (stK lg cl r t) (Sum.inr ("turn" : Str) : Key) = some (.int t) := (valV_neg k_lt).trans ((valV_neg k_ct).trans ((valV_neg k_rt).trans (valV_pos rfl)))
theorem put_rest (lg cl : Addr) (r t v : Int) : putK (stK lg cl r t) (Sum.inr ("rest" : Str) : Key) (.int v) = stK lg cl v t := by
  have n4 : ¬ ((Sum.inr ("turn" : Str) : Key) = Sum.inr ("rest" : Str)) := fun e => k_rt e.symm
  unfold putK
  rw [valV_any, st_rest]
  unfold stK
  simp only [Option.isSome_some, if_true, List.map_cons, List.map_nil, if_neg k_lr, if_neg k_cr, if_neg n4]
theorem put_turn (lg cl : Addr) (r t v : Int) : putK (stK lg cl r t) (Sum.inr ("turn" : Str) : Key) (.int v) = stK lg cl r v := by
  unfold putK
  rw [valV_any, st_turn]
  unfold stK
  simp only [Option.isSome_some, if_true, List.map_cons, List.map_nil, if_neg k_lt, if_neg k_ct, if_neg k_rt]
structure StX (st lg cl : Addr) (large cells : List Int) (rest turn : Int) (H : Hp) : Prop where
  hs : H st = some (.dK (stK lg cl rest turn))
  hl : H lg = some (.lst (large.map V.int))
  hc : H cl = some (.lst (cells.map V.int))
  nn : ∀ x ∈ large, 0 ≤ x
  l1 : large.length ≤ 100
  l2 : cells.length ≤ 100
  r0 : 0 ≤ rest
  t0 : 0 ≤ turn
  ne : lg ≠ cl
/-- at most b more draws of its turn are asked -/
def StOk (st lg cl : Addr) (b : Nat) (H : Hp) : Prop := ∃ large cells rest turn, StX st lg cl large cells rest turn H ∧ turn + (b : Int) ≤ 1000000000
theorem StOk.mono {st lg cl : Addr} {b c : Nat} {H : Hp} (h : StOk st lg cl b H) (l : c ≤ b) : StOk st lg cl c H := by
  obtain ⟨la, ce, r, t, x, e⟩ := h
  exact ⟨la, ce, r, t, x, by omega⟩
/-- all but the state's own stands as it was -/
def Fr (st lg : Addr) (H H' : Hp) : Prop := ∀ c o, c ≠ st → c ≠ lg → H c = some o → H' c = some o
theorem Fr.refl {st lg : Addr} {H : Hp} : Fr st lg H H := fun _ _ _ _ h => h
theorem Fr.trans {st lg : Addr} {H H1 H2 : Hp} (a : Fr st lg H H1) (b : Fr st lg H1 H2) : Fr st lg H H2 := fun c o n m h => b c o n m (a c o n m h)
theorem Fr.of {st lg : Addr} {H H' : Hp} (e : Ex H H') : Fr st lg H H' := fun c o _ _ h => e c o h
theorem Fr.st {st lg : Addr} {H H1 : Hp} {o : HO} (a : Fr st lg H H1) : Fr st lg H (upd H1 st o) := fun c u n m h => by
  rw [upd_ne n]
  exact a c u n m h
theorem Fr.lg {st lg : Addr} {H H1 : Hp} {o : HO} (a : Fr st lg H H1) : Fr st lg H (upd H1 lg o) := fun c u n m h => by
  rw [upd_ne m]
  exact a c u n m h
theorem StX.ex {st lg cl : Addr} {la ce : List Int} {r t : Int} {H H' : Hp} (x : StX st lg cl la ce r t H) (e : Ex H H') : StX st lg cl la ce r t H' := ⟨e _ _ x.hs, e _ _ x.hl, e _ _ x.hc, x.nn, x.l1, x.l2, x.r0, x.t0, x.ne⟩
theorem StOk.ex {st lg cl : Addr} {b : Nat} {H H' : Hp} (h : StOk st lg cl b H) (e : Ex H H') : StOk st lg cl b H' := by
  obtain ⟨la, ce, r, t, x, q⟩ := h
  exact ⟨la, ce, r, t, x.ex e, q⟩
theorem StX.stl {st lg cl : Addr} {la ce : List Int} {r t : Int} {H : Hp} (x : StX st lg cl la ce r t H) : st ≠ lg := ne_of x.hs x.hl (fun z => nomatch z)
theorem StX.stc {st lg cl : Addr} {la ce : List Int} {r t : Int} {H : Hp} (x : StX st lg cl la ce r t H) : st ≠ cl := ne_of x.hs x.hc (fun z => nomatch z)
theorem StX.rest {st lg cl : Addr} {la ce : List Int} {r t v : Int} {H : Hp} (x : StX st lg cl la ce r t H) (hv : 0 ≤ v) : StX st lg cl la ce v t (upd H st (.dK (putK (stK lg cl r t) (Sum.inr ("rest" : Str) : Key) (.int v)))) :=
  ⟨by rw [upd_same, put_rest], by rw [upd_ne x.stl.symm]; exact x.hl, by rw [upd_ne x.stc.symm]; exact x.hc, x.nn, x.l1, x.l2, hv, x.t0, x.ne⟩
theorem StX.turn {st lg cl : Addr} {la ce : List Int} {r t v : Int} {H : Hp} (x : StX st lg cl la ce r t H) (hv : 0 ≤ v) : StX st lg cl la ce r v (upd H st (.dK (putK (stK lg cl r t) (Sum.inr ("turn" : Str) : Key) (.int v)))) :=
  ⟨by rw [upd_same, put_turn], by rw [upd_ne x.stl.symm]; exact x.hl, by rw [upd_ne x.stc.symm]; exact x.hc, x.nn, x.l1, x.l2, x.r0, hv, x.ne⟩
theorem StX.pop {st lg cl : Addr} {y : Int} {la ce : List Int} {r t : Int} {H : Hp} (x : StX st lg cl (y :: la) ce r t H) : StX st lg cl la ce r t (upd H lg (.lst (la.map V.int))) :=
  ⟨by rw [upd_ne x.stl]; exact x.hs, upd_same, by rw [upd_ne x.ne.symm]; exact x.hc, fun z hz => x.nn z (List.mem_cons_of_mem _ hz), by have := x.l1; rw [List.length_cons] at this; omega, x.l2, x.r0, x.t0, x.ne⟩
theorem shaped_ints (ns : List Int) : SeqAt.shaped (.list (ns.map .int)) = true := by
  have h1 : ∀ ns : List Int, PyData.canLayAll0 (ns.map .int) = true := fun ns => by
    induction ns with
    | nil => rfl
    | cons n ns ih =>
      rw [List.map_cons]
      unfold PyData.canLayAll0
      rw [ih]
      rfl
  have h2 : ∀ ns : List Int, PyData.depthAll (ns.map .int) ≤ 8 := fun ns => by
    induction ns with
    | nil => decide
    | cons n ns ih =>
      rw [List.map_cons]
      unfold PyData.depthAll
      exact Nat.max_le.mpr ⟨by unfold PyData.depth; omega, ih⟩
  unfold SeqAt.shaped
  have h3 : (PyData.list (ns.map .int)).canLay0 = true := by
    unfold PyData.canLay0
    exact h1 ns
  have h4 : (PyData.list (ns.map .int)).depth ≤ 64 := by
    have := h2 ns
    unfold PyData.depth
    omega
  rw [h3, decide_eq_true h4]
  rfl
theorem dp_ints {K : PySem.W.Frag} {H : Hp} {a : Addr} {ns : List Int} (h : SqL K H a (ns.map V.int)) : Dp K H (.ref a) (.list (ns.map .int)) := by
  refine .lst h ?_
  clear h
  induction ns with
  | nil => exact .nil
  | cons n ns ih => exact .cons (.int n) ih
theorem eqv_nil (ns : List Int) : PyData.eqv (.list (ns.map .int)) (.list []) = ns.isEmpty := by
  cases ns with
  | nil => simp only [List.map_nil, PyData.eqv, PyData.eqvAll]; rfl
  | cons n ns => simp only [List.map_cons, PyData.eqv, PyData.eqvAll]; rfl
/-- x != [] of a list of whole numbers -/
theorem ne_nil {K : PySem.W.Frag} {H : Hp} {a p : Addr} {ns : List Int} {Q : VK} (h : H a = some (.lst (ns.map V.int))) (hp : H p = none) (q : Q (.bl (!ns.isEmpty)) (upd H p (.lst []))) : rNeD K (.ref a) (.ref p) (upd H p (.lst [])) Q :=
  ⟨_, .list [], dp_ints (SqL.of (by rw [upd_ne (ne_of_none h hp)]; exact h)), .lst (SqL.of upd_same) .nil, shaped_ints ns, by decide +kernel, by rw [eqv_nil]; exact q⟩
section
variable {P : Program} {w : World} {K : PySem.W.Frag} {mg : Str → Option Value} {base : Heap}
def spDraw : Sp := fun vs H Q _ => ∃ st lg cl b n, vs = [.ref st, .int n] ∧ 0 < n ∧ n < 1000000 ∧ StOk st lg cl (b + 1) H ∧ ∀ r H', 0 ≤ r → r < n → StOk st lg cl b H' → Fr st lg H H' → Q (.int r) H'
/-- a def's promise by hand -/
theorem kpH {x : Str} {st : Stmt} {N ps : List Str} {k : Nat} {sp : Sp} (Fx : Fg K mg x st) (S : FnScope N ps (defScope st)) (hb : ∀ {f : Addr} {fd : FuncData} (_ : Fun K x x st f fd), Binds K fd ps []) (len : ∀ vs H Q E, sp vs H Q E → vs.length = ps.length)
    (body : ∀ (f₀ : Addr) (cdv : Value) (A : Around) (outer : List Env) (s : Shared) (H : Hp) (vs : List V) (Q : VK) (E : XK), Room k (A.deeper (envOfC x (defScope st) s.heap.objs.size f₀ cdv)) → sp vs H Q E →
      ∃ t, PSs (cxOf CX0 P w K mg base N x (defScope st) f₀ cdv A outer s H E).nox (defBody st) t ∧ t { nx := fun _ H' => Q .non H', rt := Q } (start N vs) H) : Kp P w K mg base (k + 1) x ps sp := by
  obtain ⟨a, fd, hm, F⟩ := Fx
  exact ⟨a, fd, hm, F.kp, hb F, F.ok S len fun cdv A outer s H vs Q E hr h => body a cdv A outer s H vs Q E hr h⟩

/-- the loop that brings a great number forward -/
theorem draw_loop {rest : TS} {D : Ends} {st lg cl : Addr} {t0 : Int} {ce0 : List Int} {σ : L2.St} (hσ : σ[0]? = some (some (.ref st)))
    {H0 : Hp} (after : ∀ la r H', StX st lg cl la ce0 r t0 H' → Fr st lg H0 H' → rest D σ H') :
    ∀ {la0 : List Int} {r0 : Int} {H : Hp}, StX st lg cl la0 ce0 r0 t0 H → Fr st lg H0 H →
    tSeq (tWhile (tAnd (tTest (tOp rEq (tDGet (tVar 0) (tC (.str "rest"))) (tC (.int 0)))) (tTest (tOp (rNeD K) (tDGet (tVar 0) (tC (.str "large"))) (tLst tNil))))
      (sDPut (tVar 0) (tC (.str "rest")) (tBM K "list" rPopAt (tDGet (tVar 0) (tC (.str "large"))) (tCons (tC (.int 0)) tNil)))) rest D σ H := fun {la0 r0 H} X0 fr0 => by
  refine ⟨fun m σ' H' => σ' = σ ∧ ∃ la r, la.length = m ∧ StX st lg cl la ce0 r t0 H' ∧ Fr st lg H0 H', ⟨_, rfl, la0, r0, rfl, X0, fr0⟩, ?_⟩
  rintro m σ2 H' ⟨hs2, la, r, hm, X, fr⟩
  rw [hs2]
  have dg : ∀ {H1 : Hp} {k : Str} {v : V}, Ex H' H1 → valV (stK lg cl r t0) (Sum.inr k : Key) = some v → DGet H1 st (.str k) (some v) := fun {H1 k v} z e => by
    rw [← e]
    exact DGet.k (k := Sum.inr k) (z _ _ X.hs)
  refine ⟨_, hσ, st, .int r, rfl, dg (Evl.Ex.refl _) (st_rest lg cl r t0), rfl, _, rfl, ?_⟩
  by_cases hr : V.int r = V.int 0
  · rw [decide_eq_true hr]
    refine iteT ⟨_, hσ, st, .ref lg, rfl, dg (Evl.Ex.refl _) (st_large lg cl r t0), Nat.zero_le _, fun p hp => ne_nil X.hl hp ⟨_, rfl, ?_⟩⟩
    have X' := X.ex (Evl.Ex.new (o := .lst []) hp)
    cases la with
    | nil => exact iteF (after [] r _ X' (fr.trans (Fr.of (Evl.Ex.new hp))))
    | cons y la =>
      refine iteT ⟨fun σ' H' => σ' = σ ∧ ∃ r, StX st lg cl la ce0 r t0 H' ∧ Fr st lg H0 H', fun σ' H' ⟨h1, r, h2, h3⟩ => ⟨la.length, by rw [← hm, List.length_cons]; exact Nat.lt_succ_self _, h1, la, r, rfl, h2, h3⟩, ?_⟩
      have X2 := X'.pop
      refine ⟨_, hσ, st, .ref lg, rfl, dg (Evl.Ex.new hp) (st_large lg cl r t0), .inl ⟨rfl, _, SqL.of X'.hl⟩, lg, _, 0, 0, .int y, rfl, rfl, X'.hl, by decide, by decide, seqIndex_of (by decide) (by rw [List.length_map, List.length_cons]; omega), rfl, ?_⟩
      refine ⟨_, hσ, st, _, rfl, DPut.k (k := Sum.inr ("rest" : Str)) X2.hs (small1000 (by show 4 ≤ 1000; decide)), rfl, y, X2.rest (X.nn y List.mem_cons_self), (Fr.st (Fr.lg (fr.trans (Fr.of (Evl.Ex.new hp)))))⟩
  · rw [decide_eq_false hr]
    exact iteF (iteF (after la r _ X fr))
theorem pow_lt {x : Int} {k : Nat} (h0 : 0 ≤ x) (h1 : x < 2 ^ k) : x.natAbs < 2 ^ k := by
  have e : ((x.natAbs : Nat) : Int) = x := Int.natAbs_of_nonneg h0
  have h2 : ((x.natAbs : Nat) : Int) < ((2 ^ k : Nat) : Int) := by
    rw [e]
    simpa using h1
  exact Int.ofNat_lt.mp h2

theorem ite_int {b : Bool} {ta tb : TE} {σ : L2.St} {H : Hp} {Q : VK} (h1 : b = true → ∃ c : Int, ∀ Q : VK, Q (.int c) H → ta σ H Q) (h2 : b = false → ∃ c : Int, ∀ Q : VK, Q (.int c) H → tb σ H Q) (k : ∀ c : Int, Q (.int c) H) :
    if b = true then ta σ H Q else tb σ H Q := by
  cases b with
  | true =>
    obtain ⟨c, h⟩ := h1 rfl
    exact iteT (h Q (k c))
  | false =>
    obtain ⟨c, h⟩ := h2 rfl
    exact iteF (h Q (k c))

end
/-- a table of code objects -/
def IsTbl (o : HO) : Prop := ∃ ps, o = .tbl ps
/-- the list of great numbers, and the tables of code objects with the names that theirs bear -/
abbrev Lg := Addr × List (Addr × Str)
/-- F2 above F, while the state's own and the tables may change -/
structure GM (st : Addr) (lg : Lg) (F H F2 H2 : Hp) : Prop where
  ff : Ex F F2
  fh : Ex F2 H2
  fr : ∀ c o, c ≠ st → c ≠ lg.1 → ¬ IsTbl o → H c = some o → H2 c = some o
  nw : ∀ b o, ¬ IsTbl o → H b = some o → F b = none → F2 b = none
  kp : ∀ b o, ¬ IsTbl o → H b = some o → ∃ o', ¬ IsTbl o' ∧ H2 b = some o'
  tk : ∀ p ∈ lg.2, (∃ ps, H p.1 = some (.tbl ps)) → (∃ ps, H2 p.1 = some (.tbl ps)) ∧ (F p.1 = none → F2 p.1 = none)
  nt : (∀ b ps, F b ≠ some (.tbl ps)) → ∀ b ps, F2 b ≠ some (.tbl ps)
theorem Grow.gm {st : Addr} {lg : Lg} {F H F2 H2 : Hp} (g : Grow F H F2 H2) : GM st lg F H F2 H2 := ⟨g.ff, g.fh, fun c o _ _ _ h => g.hh c o h, fun b o _ h q => g.nw b o h q, fun b o t h => ⟨o, t, g.hh b o h⟩, fun p _ ⟨ps, h⟩ => ⟨⟨ps, g.hh _ _ h⟩, fun q => g.nw _ _ h q⟩, g.nt⟩
theorem GM.refl {st : Addr} {lg : Lg} {F H : Hp} (z : Ex F H) : GM st lg F H F H := ⟨Evl.Ex.refl _, z, fun _ _ _ _ _ h => h, fun _ _ _ _ q => q, fun b o t h => ⟨o, t, h⟩, fun _ _ h => ⟨h, fun q => q⟩, fun h => h⟩
theorem GM.trans {st : Addr} {lg : Lg} {F H F1 H1 F2 H2 : Hp} (a : GM st lg F H F1 H1) (c : GM st lg F1 H1 F2 H2) : GM st lg F H F2 H2 :=
  ⟨a.ff.trans c.ff, c.fh, fun d o n m t h => c.fr d o n m t (a.fr d o n m t h), fun d u t hd q => let ⟨v, tv, e⟩ := a.kp d u t hd; c.nw d v tv e (a.nw d u t hd q), fun d u t hd => let ⟨v, tv, e⟩ := a.kp d u t hd; c.kp d v tv e,
    fun p hp h => let ⟨h1, n1⟩ := a.tk p hp h; let ⟨h2, n2⟩ := c.tk p hp h1; ⟨h2, fun q => n2 (n1 q)⟩, fun h => c.nt (a.nt h)⟩
theorem tbl_lst {xs : List V} : ¬ IsTbl (.lst xs) := fun ⟨_, h⟩ => nomatch h
theorem tbl_dK {xs : List (Key × V)} : ¬ IsTbl (.dK xs) := fun ⟨_, h⟩ => nomatch h
theorem tbl_ins {C dx : Addr} {fs : List (Str × V)} : ¬ IsTbl (.ins C dx fs) := fun ⟨_, h⟩ => nomatch h
theorem StOk.at_ {st lg cl : Addr} {b : Nat} {H : Hp} (h : StOk st lg cl b H) : (∃ o, ¬ IsTbl o ∧ H st = some o) ∧ ∃ o, ¬ IsTbl o ∧ H lg = some o := by
  obtain ⟨la, ce, r, t, x, _⟩ := h
  exact ⟨⟨_, tbl_dK, x.hs⟩, _, tbl_lst, x.hl⟩
/-- what stays of the tables when tables and code objects stay -/
theorem tabs_keep {T : List (Addr × Str)} {H H2 : Hp} (t : LamX.Tabs T H) (k1 : ∀ p ∈ T, ∀ ps, H p.1 = some (.tbl ps) → H2 p.1 = some (.tbl ps)) (k2 : ∀ c q, H c = some (LamX.CodeO c q) → H2 c = some (LamX.CodeO c q)) : LamX.Tabs T H2 := fun p hp => by
  obtain ⟨ps, h1, h2, h3⟩ := t p hp
  refine ⟨ps, k1 p hp ps h1, h2, fun pos cv hc => ?_⟩
  obtain ⟨c, e1, e2⟩ := h3 pos cv hc
  exact ⟨c, e1, k2 _ _ e2⟩
/-- the state stands outside of what is frozen, the tables too -/
structure Off (st : Addr) (lg : Lg) (cl : Addr) (b : Nat) (F H : Hp) : Prop where
  z : Ex F H
  s : F st = none
  l : F lg.1 = none
  ok : StOk st lg.1 cl b H
  tb : LamX.Tabs lg.2 H
  tf : ∀ p ∈ lg.2, F p.1 = none
  nt : ∀ b ps, F b ≠ some (.tbl ps)
theorem Off.mono {st cl : Addr} {lg : Lg} {b c : Nat} {F H : Hp} (h : Off st lg cl b F H) (l : c ≤ b) : Off st lg cl c F H := ⟨h.z, h.s, h.l, h.ok.mono l, h.tb, h.tf, h.nt⟩
theorem Off.gm {st cl : Addr} {lg : Lg} {b c : Nat} {F H F2 H2 : Hp} (h : Off st lg cl b F H) (g : GM st lg F H F2 H2) (ok : StOk st lg.1 cl c H2) (tb : LamX.Tabs lg.2 H2) : Off st lg cl c F2 H2 := by
  obtain ⟨⟨o, t1, h1⟩, o', t2, h2⟩ := h.ok.at_
  exact ⟨g.fh, g.nw _ _ t1 h1 h.s, g.nw _ _ t2 h2 h.l, ok, tb, fun p hp => (g.tk p hp (let ⟨ps, e, _⟩ := h.tb p hp; ⟨ps, e⟩)).2 (h.tf p hp), g.nt h.nt⟩
theorem Off.grow {st cl : Addr} {lg : Lg} {b : Nat} {F H F2 H2 : Hp} (h : Off st lg cl b F H) (g : Grow F H F2 H2) : Off st lg cl b F2 H2 := h.gm g.gm (h.ok.ex g.hh) (h.tb.ext g.hh)
theorem tbl_st {st lg cl : Addr} {b : Nat} {H : Hp} (h : StOk st lg cl b H) {c : Addr} {o : HO} (hc : H c = some o) (ho : IsTbl o ∨ ∃ q, o = LamX.CodeO c q) : c ≠ st ∧ c ≠ lg := by
  obtain ⟨la, ce, r, t, x, _⟩ := h
  constructor
  · intro e
    rw [e, x.hs] at hc
    cases hc
    rcases ho with ⟨_, h⟩ | ⟨q, h⟩
    · cases h
    · unfold LamX.CodeO at h
      cases h
  · intro e
    rw [e, x.hl] at hc
    cases hc
    rcases ho with ⟨_, h⟩ | ⟨q, h⟩
    · cases h
    · unfold LamX.CodeO at h
      cases h
theorem GM.draw {st cl : Addr} {lg : Lg} {b c : Nat} {F H H2 : Hp} (h : Off st lg cl b F H) (fr : Fr st lg.1 H H2) (ok : StOk st lg.1 cl c H2) : GM st lg F H F H2 := by
  obtain ⟨⟨o, t1, h1⟩, o', t2, h2⟩ := ok.at_
  refine ⟨Evl.Ex.refl _, fun c o q => fr c o (ne_of_none q h.s) (ne_of_none q h.l) (h.z c o q), fun c o n m _ q => fr c o n m q, fun _ _ _ _ q => q, fun d u t q => ?_, fun p hp ⟨ps, q⟩ => ?_, fun h => h⟩
  · by_cases e1 : d = st
    · exact ⟨o, t1, e1 ▸ h1⟩
    · by_cases e2 : d = lg.1
      · exact ⟨o', t2, e2 ▸ h2⟩
      · exact ⟨u, t, fr d u e1 e2 q⟩
  · obtain ⟨n1, n2⟩ := tbl_st h.ok q (.inl ⟨ps, rfl⟩)
    exact ⟨⟨ps, fr _ _ n1 n2 q⟩, fun q => q⟩
theorem Off.draw {st cl : Addr} {lg : Lg} {b c : Nat} {F H H2 : Hp} (h : Off st lg cl b F H) (fr : Fr st lg.1 H H2) (ok : StOk st lg.1 cl c H2) : Off st lg cl c F H2 := h.gm (GM.draw h fr ok) ok (tabs_keep h.tb (fun p hp ps q => by
  obtain ⟨n1, n2⟩ := tbl_st h.ok q (.inl ⟨ps, rfl⟩)
  exact fr _ _ n1 n2 q) fun c q e => by
  obtain ⟨n1, n2⟩ := tbl_st h.ok e (.inr ⟨q, rfl⟩)
  exact fr _ _ n1 n2 e)
/-- an operator on two whole numbers with a condition -/
theorem ed_I {K : PySem.W.Frag} {F : Hp} {σ : L2.St} {ta tb : TE} {C : Int → Int → Prop} {g : Int → Int → V} {gd : D} {i j : Int} (h : EvD K F ta σ (.int i)) (k : EvD K F tb σ (.int j)) (hc : C i j) (hg : ∀ G, Dz K G (g i j) gd) : EvD K F (tOp (rI C g) ta tb) σ gd := ed_op h k fun x y F1 H1 z r1 r2 Q q => by
  cases r1
  cases r2
  exact ⟨i, j, rfl, rfl, hc, q _ (hg _)⟩
theorem dz_ints {K : PySem.W.Frag} {F : Hp} : ∀ (ns : List Int), DzAll K F (ns.map V.int) (ns.map .int)
  | [] => .nil
  | n :: ns => .cons (.int n) (dz_ints ns)
theorem seq_N {K : PySem.W.Frag} {F H : Hp} {σ : L2.St} {te : TE} {tr : TS} {i : Nat} {E : Ends} {ds : List D} (h : EvN K F te σ ds) (z : Ex F H) (k : ∀ p xs F2 H2, Grow F H F2 H2 → H p = none → F2 p = some (.lst xs) → DzAll K F2 xs ds → tr E (σ.set i (some (.ref p))) H2) : tSeq (tAsg te (gName i)) tr E σ H :=
  h F H (Evl.Ex.refl _) z _ k
theorem seq_D {K : PySem.W.Frag} {F H : Hp} {σ : L2.St} {te : TE} {tr : TS} {i : Nat} {E : Ends} {d : D} (h : EvD K F te σ d) (z : Ex F H) (k : ∀ v F2 H2, Grow F H F2 H2 → Dz K F2 v d → tr E (σ.set i (some v)) H2) : tSeq (tAsg te (gName i)) tr E σ H :=
  h F H (Evl.Ex.refl _) z _ k
theorem pairs_c {c : V} {tv : TE} {r : List (TE × TE)} {σ : L2.St} {H : Hp} {Q : List (V × V) → Hp → Prop} (h : tv σ H fun v H2 => tPairs r σ H2 fun ps H3 => Q ((c, v) :: ps) H3) : tPairs ((tC c, tv) :: r) σ H Q := h
theorem pairs_cc {c v : V} {r : List (TE × TE)} {σ : L2.St} {H : Hp} {Q : List (V × V) → Hp → Prop} (h : tPairs r σ H fun ps H3 => Q ((c, v) :: ps) H3) : tPairs ((tC c, tC v) :: r) σ H Q := h
theorem pairs_nil {σ : L2.St} {H : Hp} {Q : List (V × V) → Hp → Prop} (h : Q [] H) : tPairs [] σ H Q := h
def absI (c : Int) : Int := if c < 0 then -c else c
section
variable {P : Program} {w : World} {K : PySem.W.Frag} {mg : Str → Option Value} {base : Heap}
def spBegun (K : PySem.W.Frag) : Sp := fun vs H Q _ => ∃ (a : Addr) (ns : List Int), vs = [.ref a] ∧ SqL K H a (ns.map V.int) ∧ ns.length ≤ 63 ∧ ∀ st lg cl H', Ex H H' → H st = none → H lg = none → H cl = none → StOk st lg cl 1000000 H' → Q (.ref st) H'

end
theorem op_notIn_seqK {X : Cx} {K : PySem.W.Frag} (h : X.K = K) : OpR X (compareOp .NotIn) (rIn K true) := h ▸ op_notIn_seq
theorem rising_asc : ∀ {l : List Str}, sortedS l = true → l.Nodup → ascS l = true
  | [], _, _ => rfl
  | [x], _, _ => rfl
  | x :: y :: r, h, n => by
    have h' : (!ltCps y.cps.toList x.cps.toList && risingS y r) = true := h
    obtain ⟨h1, h2⟩ := Bool.and_eq_true_iff.mp h'
    obtain ⟨n1, n2⟩ := List.nodup_cons.mp n
    unfold ascS
    rw [rising_asc (l := y :: r) h2 n2, Bool.and_true]
    refine decide_eq_true ?_
    rw [ltCps_eq] at h1
    have h3 : ¬ y.cps.toList < x.cps.toList := by simpa using h1
    have h4 : x.cps.toList ≤ y.cps.toList := List.not_lt.mp h3
    rcases List.le_iff_lt_or_eq.mp h4 with h5 | h5
    · exact h5
    · exact absurd (Str.ext' (Array.toList_inj.mp h5)) (fun e => n1 (by rw [e]; exact List.mem_cons_self))
theorem inV_strs (x : Str) : ∀ l : List Str, inV (.str x) (l.map V.str) = decide (x ∈ l)
  | [] => rfl
  | y :: l => by
    have ih := inV_strs x l
    unfold inV at ih ⊢
    rw [List.map_cons, List.any_cons, ih]
    show ((y == x) || decide (x ∈ l)) = _
    by_cases h : x = y
    · subst h
      simp
    · have h2 : (y == x) = false := beq_eq_false_iff_ne.mpr (fun e => h e.symm)
      rw [h2, Bool.false_or]
      exact decide_eq_decide.mpr ⟨fun m => List.mem_cons_of_mem _ m, fun m => (List.mem_cons.mp m).resolve_left h⟩
theorem flat_strs (l : List Str) : (l.map V.str).all flatV = true := by
  rw [List.all_map]
  exact List.all_eq_true.mpr fun _ _ => rfl
theorem at0 {α : Type} {xs : List α} {v : α} (h : xs[0]? = some v) : atI xs 0 = some v := atI_nat (j := 0) h
/-- the first of [each for each in spare if each not in found] -/
theorem free_comp {K : PySem.W.Frag} {σ : L2.St} {H : Hp} {sp pf : Addr} {i j k : Nat} {xs fs : List Str} {Q : VK} (hs : H sp = some (.lst (xs.map V.str))) (hf : H pf = some (.lst (fs.map V.str)))
    (e1 : (wipe σ [k])[j]? = some (some (.ref pf))) (e0 : σ[i]? = some (some (.ref sp))) (ek : k < σ.length) (ejk : j ≠ k) (hl : xs.length < 1000)
    (hne : xs.filter (fun s => decide (s ∉ fs)) ≠ []) (q : ∀ y H2, y ∈ xs → y ∉ fs → Ex H H2 → Q (.str y) H2) :
    tOp (rIxL K) (tLc (iList K (tVar i)) (gName k) (tTest (tOp (rIn K true) (tVar k) (tVar j))) (tVar k) [k]) (tC (.int 0)) σ H Q := by
  refine ⟨_, e0, sp, rfl, ⟨_, SqL.of hs⟩, fun L hL => ?_⟩
  refine lc_list (K := K) (a := sp) (xs := xs.map V.str) (fun n H' => Ex H (upd H' L (.lst [])) ∧ H L = none ∧ Ex H H' ∧ H' L = some (.lst (((xs.take n).filter fun s => decide (s ∉ fs)).map V.str)))
    ⟨?_, hL, Evl.Ex.new hL, upd_same⟩ (fun n H' _ p => SqL.of (p.2.2.1 _ _ hs)) (fun n x H' hx ⟨p1, p2, p3, p4⟩ => ?_) (fun H' ⟨p1, p2, p3, p4⟩ => ?_)
  · rw [upd_upd]
    exact Evl.Ex.new hL
  · rw [List.getElem?_map] at hx
    obtain ⟨s, hs', rfl⟩ := Option.map_eq_some_iff.mp hx
    have lk : k < (wipe σ [k]).length := by rw [wipe_length]; exact ek
    have e2 : ((wipe σ [k]).set k (some (.str s)))[k]? = some (some (.str s)) := List.getElem?_set_self lk
    have e3 : ((wipe σ [k]).set k (some (.str s)))[j]? = some (some (.ref pf)) := by
      rw [List.getElem?_set_ne (Ne.symm ejk)]
      exact e1
    have hlen : (((xs.take n).filter fun s => decide (s ∉ fs)).map V.str).length < sizeLine := by
      rw [List.length_map]
      exact small1000 (Nat.le_trans (List.length_filter_le _ _) (by rw [List.length_take]; omega))
    refine ⟨?_, _, e2, _, e3, pf, _, rfl, .inl (SqL.of (p3 _ _ hf)), rfl, flat_strs _, _, rfl, ?_⟩
    · show ((σ.set k none).set k (some (V.str s))).set k none = σ.set k none
      rw [List.set_set, List.set_set]
    · rw [if_pos rfl, inV_strs]
      have ef : (xs.take (n + 1)).filter (fun s => decide (s ∉ fs)) = if s ∉ fs then (xs.take n).filter (fun s => decide (s ∉ fs)) ++ [s] else (xs.take n).filter fun s => decide (s ∉ fs) := by
        rw [take_at hs', List.filter_append]
        by_cases hm : s ∈ fs
        · rw [if_neg (fun z => z hm), List.filter_cons_of_neg (by simpa using hm), List.filter_nil, List.append_nil]
        · rw [if_pos hm, List.filter_cons_of_pos (by simpa using hm), List.filter_nil]
      by_cases hm : s ∈ fs
      · rw [decide_eq_true hm]
        refine iteF ⟨p1, p2, p3, ?_⟩
        rw [ef, if_neg (fun z => z hm)]
        exact p4
      · rw [decide_eq_false hm]
        refine iteT ⟨_, e2, _, p4, hlen, by rw [upd_upd]; exact p1, p2, Evl.Ex.mut p3 p2, ?_⟩
        rw [upd_same, ef, if_pos hm, List.map_append]
        rfl
  · have el : (xs.map V.str).length = xs.length := List.length_map _
    rw [el, List.take_length] at p4
    cases hc : xs.filter (fun s => decide (s ∉ fs)) with
    | nil => exact absurd hc hne
    | cons y r =>
      rw [hc] at p4
      have hy : y ∈ xs.filter (fun s => decide (s ∉ fs)) := by rw [hc]; exact List.mem_cons_self
      obtain ⟨h1, h2⟩ := List.mem_filter.mp hy
      exact ⟨L, _, 0, .str y, rfl, rfl, SqL.of p4, at0 rfl, q y H' h1 (of_decide_eq_true h2) p3⟩
theorem yesT {σ : L2.St} {H : Hp} {A B : Hp → Prop} (h : A H) : tYes σ H fun b H3 => if b = true then A H3 else B H3 := by
  show if true = true then A H else B H
  rw [if_pos rfl]
  exact h
/-- [word[:5] + letter for letter in letters] -/
theorem next_comp {σ : L2.St} {H : Hp} {i j k : Nat} {x : Str} {Q : VK} (e0 : σ[i]? = some (some (.str lettersS))) (e1 : (wipe σ [k])[j]? = some (some (.str x))) (ek : k < σ.length) (ejk : j ≠ k) (hx : x.length ≤ 1000)
    (q : ∀ L H2, H L = none → Ex H H2 → H2 L = some (.lst ((nexts x).map V.str)) → Q (.ref L) H2) :
    tLc (iStr (tVar i)) (gName k) tYes (tOp (fun x y H Q => ∃ i j, x = .str i ∧ y = .str j ∧ i.length + j.length ≤ sizeLine ∧ Q (.str (i ++ j)) H) (tSl rSlS (tVar j) tNoPart (tPart (tC (.int 5)))) (tVar k)) [k] σ H Q := by
  refine ⟨_, e0, _, rfl, fun L hL => ?_⟩
  refine lc_it (walk_str (z := lettersS)) (fun n H' => Ex H H' ∧ H' L = some (.lst (((lettersS.cps.toList.take n).map (cutL x)).map V.str))) ⟨Evl.Ex.new hL, upd_same⟩ (fun _ _ _ _ => True.intro) (fun n v H' H2 hn ⟨p1, p2⟩ hy => ?_) (fun H' ⟨p1, p2⟩ => ?_)
  · obtain ⟨rfl, c, hc, rfl⟩ := hy
    have lk : k < (wipe σ [k]).length := by rw [wipe_length]; exact ek
    have e2 : ((wipe σ [k]).set k (some (.str (⟨#[c]⟩ : Str))))[k]? = some (some (.str (⟨#[c]⟩ : Str))) := List.getElem?_set_self lk
    have e3 : ((wipe σ [k]).set k (some (.str (⟨#[c]⟩ : Str))))[j]? = some (some (.str x)) := by
      rw [List.getElem?_set_ne (Ne.symm ejk)]
      exact e1
    have hsz : sizeLine = 16777216 := sizeLine_eq
    have hcl : (cutS x none (some 5)).length ≤ 5 := by
      have e : (cutS x none (some 5)).length = (cutS x none (some 5)).cps.toList.length := rfl
      rw [e, cut5, List.length_take]
      omega
    refine ⟨?_, yesT ⟨_, e3, _, rfl, x, rfl, by omega, _, e2, _, _, rfl, rfl, ?_, _, p2, ?_, ?_, ?_⟩⟩
    · show ((σ.set k none).set k (some (V.str (⟨#[c]⟩ : Str)))).set k none = σ.set k none
      rw [List.set_set, List.set_set]
    · have e : (⟨#[c]⟩ : Str).length = 1 := rfl
      omega
    · rw [List.length_map, List.length_map]
      exact small1000 (by rw [List.length_take, letters_len]; omega)
    · exact Evl.Ex.mut p1 hL
    · have hc' : lettersS.cps.toList[n]? = some c := by rw [Array.getElem?_toList]; exact hc
      rw [upd_same, take_at hc', List.map_append, List.map_append]
      rfl
  · have e : lettersS.cps.toList.take lettersS.cps.size = lettersS.cps.toList := List.take_of_length_le (by rw [Array.length_toList]; exact Nat.le_refl _)
    rw [e] at p2
    exact q L H' hL p1 p2
/-! one's own objects beside the state -/
theorem StOk.own {st lg cl L : Addr} {b : Nat} {H : Hp} {o : HO} (h : StOk st lg cl b H) (h1 : L ≠ st) (h2 : L ≠ lg) (h3 : L ≠ cl) : StOk st lg cl b (upd H L o) := by
  obtain ⟨la, ce, r, t, x, e⟩ := h
  exact ⟨la, ce, r, t, ⟨by rw [upd_ne h1.symm]; exact x.hs, by rw [upd_ne h2.symm]; exact x.hl, by rw [upd_ne h3.symm]; exact x.hc, x.nn, x.l1, x.l2, x.r0, x.t0, x.ne⟩, e⟩
/-- L is no part of the state, nor a table -/
structure Ow (st : Addr) (lg : Lg) (cl L : Addr) : Prop where
  a : L ≠ st
  b : L ≠ lg.1
  c : L ≠ cl
  d : ∀ p ∈ lg.2, L ≠ p.1
theorem Off.ow {st cl L : Addr} {lg : Lg} {b : Nat} {F H : Hp} (O : Off st lg cl b F H) (hL : H L = none) : Ow st lg cl L := by
  obtain ⟨la, ce, r, t, x, e⟩ := O.ok
  exact ⟨ne_of_none x.hs hL |>.symm, ne_of_none x.hl hL |>.symm, ne_of_none x.hc hL |>.symm, fun p hp => by
    obtain ⟨ps, h, _⟩ := O.tb p hp
    exact (ne_of_none h hL).symm⟩
theorem Off.own {st cl L : Addr} {lg : Lg} {b : Nat} {F H : Hp} {o : HO} (O : Off st lg cl b F H) (w : Ow st lg cl L) (hF : F L = none) (hc : ∀ q, H L ≠ some (LamX.CodeO L q)) : Off st lg cl b F (upd H L o) := ⟨Evl.Ex.mut O.z hF, O.s, O.l, O.ok.own w.a w.b w.c, tabs_keep O.tb (fun p hp ps q => by rw [upd_ne (w.d p hp).symm]; exact q) fun c q e => by
  have ne : c ≠ L := fun z => by
    subst z
    exact hc q e
  rw [upd_ne ne]
  exact e, O.tf, O.nt⟩
theorem GM.own {st cl L : Addr} {lg : Lg} {F H F2 H2 : Hp} {o : HO} (g : GM st lg F H F2 H2) (w : Ow st lg cl L) (h1 : F2 L = none) (h2 : ∀ u, H L = some u → IsTbl u) : GM st lg F H F2 (upd H2 L o) := by
  have ne : ∀ {c u}, ¬ IsTbl u → H c = some u → c ≠ L := fun t h e => t (h2 _ (e ▸ h))
  exact ⟨g.ff, Evl.Ex.mut g.fh h1, fun c u n m t h => by rw [upd_ne (ne t h)]; exact g.fr c u n m t h, g.nw, fun c u t h => by rw [upd_ne (ne t h)]; exact g.kp c u t h, fun p hp h => by rw [upd_ne (w.d p hp).symm]; exact g.tk p hp h, g.nt⟩
end Cn
set_option Elab.async false
set_option linter.all false
set_option maxRecDepth 100000
set_option maxHeartbeats 4000000
/-! Sets of whole numbers and texts, made of a list or a tuple. -/
namespace Cn
open PySem PySem.Spec PyProof.Rows L2
noncomputable instance decMemK (k : Key) (l : List Key) : Decidable (k ∈ l) := Classical.propDecidable _
theorem paired_perm {α β : Type} {R : α → β → Prop} {l' l : List α} (p : l'.Perm l) : ∀ {m : List β}, Paired R l m → ∃ m', m'.Perm m ∧ Paired R l' m' := by
  induction p with
  | nil => exact fun h => ⟨_, .refl _, h⟩
  | cons x _ ih =>
    intro m h
    cases h with
    | cons r t =>
      obtain ⟨m', p', h'⟩ := ih t
      exact ⟨_ :: m', p'.cons _, .cons r h'⟩
  | swap x y l =>
    intro m h
    cases h with
    | cons r t =>
      cases t with
      | cons r2 t => exact ⟨_ :: _ :: _, .swap .., .cons r2 (.cons r t)⟩
  | trans _ _ ih1 ih2 =>
    intro m h
    obtain ⟨m1, p1, h1⟩ := ih2 h
    obtain ⟨m2, p2, h2⟩ := ih1 h1
    exact ⟨m2, p2.trans p1, h2⟩
theorem paired_at {α β : Type} {R : α → β → Prop} {l : List α} {m : List β} (h : Paired R l m) : ∀ {i : Nat} {x : α}, l[i]? = some x → ∃ y, m[i]? = some y ∧ R x y := by
  induction h with
  | nil => intro i x e; simp at e
  | cons r _ ih =>
    intro i x e
    cases i with
    | zero => simp at e; subst e; exact ⟨_, rfl, r⟩
    | succ i =>
      obtain ⟨y, h1, h2⟩ := ih (by simpa using e)
      exact ⟨y, by simpa using h1, h2⟩
theorem paired_in {α β : Type} {R : α → β → Prop} {l : List α} {m : List β} (h : Paired R l m) : (∀ x ∈ l, ∃ y ∈ m, R x y) ∧ ∀ y ∈ m, ∃ x ∈ l, R x y := by
  induction h with
  | nil => exact ⟨fun _ h => absurd h List.not_mem_nil, fun _ h => absurd h List.not_mem_nil⟩
  | cons r _ ih =>
    refine ⟨fun x hx => ?_, fun y hy => ?_⟩
    · rcases List.mem_cons.mp hx with rfl | hx
      · exact ⟨_, List.mem_cons_self, r⟩
      · obtain ⟨y, h1, h2⟩ := ih.1 x hx
        exact ⟨y, List.mem_cons_of_mem _ h1, h2⟩
    · rcases List.mem_cons.mp hy with rfl | hy
      · exact ⟨_, List.mem_cons_self, r⟩
      · obtain ⟨x, h1, h2⟩ := ih.2 y hy
        exact ⟨x, List.mem_cons_of_mem _ h1, h2⟩
theorem keyIs_flat {k : Key} {v : Value} (h : keyIs k v = true) : v.scannable = true := by
  rcases keyIs_shape h with ⟨_, _, _, rfl⟩ | ⟨_, _, _, rfl⟩
  · rfl
  · rfl
theorem keyIs_rel {k : Key} {v : Value} : keyIs k v = true ↔ RelV (kV k) v := ⟨fun h => by
  rcases keyIs_shape h with ⟨i, t, rfl, rfl⟩ | ⟨x, t, rfl, rfl⟩
  · exact ⟨t, rfl⟩
  · exact ⟨t, rfl⟩, fun h => by
  cases k with
  | inl i => obtain ⟨t, rfl⟩ := h; exact keyIs_int i t
  | inr x => obtain ⟨t, rfl⟩ := h; exact keyIs_str x t⟩
/-- a row of a set's table holds a key -/
def Ent (w : World) (e : Int × Value) (k : Key) : Prop := keyIs k e.2 = true ∧ e.1 = keyH w k
/-- rows and table of a set with the keys L, row by row; the table can be walked -/
structure KS (w : World) (es : Array (Int × Value)) (t : SetTable) (L : List Key) : Prop where
  ent : Paired (Ent w) es.toList L
  nd : L.Nodup
  few : es.size < scanBound
  fit : t.fits es.size = true
  up : Ris t.place.toList
  led : w.params.followText "set-order" = true ∨ t.led = true
theorem KS.len {w : World} {es : Array (Int × Value)} {t : SetTable} {L : List Key} (k : KS w es t L) : es.size = L.length := by rw [← Array.length_toList, k.ent.length]
theorem KS.moved {w : World} {es es' : Array (Int × Value)} {t t' : SetTable} {L : List Key} (k : KS w es t L) (p : es'.toList.Perm es.toList) (f : t'.fits es'.size = true) (u : Ris t'.place.toList) (l : t'.led = t.led) : ∃ L', L'.Perm L ∧ KS w es' t' L' := by
  obtain ⟨L', pL, e⟩ := paired_perm p k.ent
  refine ⟨L', pL, e, pL.nodup_iff.mpr k.nd, ?_, f, u, by rw [l]; exact k.led⟩
  have := p.length_eq
  rw [Array.length_toList, Array.length_toList] at this
  rw [this]
  exact k.few
theorem KS.grown {w : World} {es es' : Array (Int × Value)} {t t' : SetTable} {L : List Key} {key : Key} {x : Value} (k : KS w es t L) (hx : keyIs key x = true) (hn : key ∉ L) (room : L.length + 1 < scanBound)
    (p : es'.toList.Perm (es.push (keyH w key, x)).toList) (f : t'.fits es'.size = true) (u : Ris t'.place.toList) (l : t'.led = t.led) : ∃ L', L'.Perm (key :: L) ∧ KS w es' t' L' := by
  have p1 : es'.toList.Perm ((keyH w key, x) :: es.toList) := p.trans (by rw [Array.toList_push]; exact List.perm_append_singleton ..)
  obtain ⟨L', pL, e⟩ := paired_perm p1 (.cons ⟨hx, rfl⟩ k.ent)
  refine ⟨L', pL, e, pL.nodup_iff.mpr (List.nodup_cons.mpr ⟨hn, k.nd⟩), ?_, f, u, by rw [l]; exact k.led⟩
  rw [← Array.length_toList, e.length, pL.length_eq]
  exact room
section
variable {P : Program} {w : World} {es : Array (Int × Value)} {t : SetTable} {L : List Key}
theorem KS.scan (k : KS w es t L) : ElemsOf (mixKind P w) es.toList := fun e he => by
  obtain ⟨key, _, h1, h2⟩ := (paired_in k.ent).1 e he
  exact ⟨⟨key, h1, h2⟩, keyIs_flat h1⟩
theorem KS.found (k : KS w es t L) (key : Key) : key ∈ L ↔ ∃ e ∈ es.toList, (mixKind P w).is key e.2 = true := by
  refine ⟨fun h => ?_, fun ⟨e, he, hk⟩ => ?_⟩
  · obtain ⟨e, he, h1, _⟩ := (paired_in k.ent).2 key h
    exact ⟨e, he, h1⟩
  · obtain ⟨key', hk', h1, _⟩ := (paired_in k.ent).1 e he
    rw [(mixKind P w).inj e.2 key key' hk h1]
    exact hk'
end
/-- such a set at a -/
def KSet (w : World) (h : Heap) (a : Addr) (L : List Key) : Prop := ∃ o es ep t, h.get? a = some o ∧ o.ExactSet ∧ o.data = .set es ep t ∧ KS w es t L
theorem KSet.at {w : World} {h h' : Heap} {a : Addr} {L : List Key} (R : KSet w h a L) (k : ∀ o, h.get? a = some o → h'.get? a = some o) : KSet w h' a L := let ⟨o, es, ep, t, ho, r⟩ := R; ⟨o, es, ep, t, k o ho, r⟩
section
variable {P : Program} {w : World} {A : Around} {E : Value → Shared → Prop} {s : Shared} {a : Addr} {L : List Key}
theorem put_get {h : Heap} {o : Obj} {es es' : Array (Int × Value)} {ep : Nat} {t t' : SetTable} (ho : h.get? a = some o) (hd : o.data = .set es ep t) : (h.update a (Obj.putSet es' t')).get? a = some { o with data := .set es' (ep + 1) t' } := store_at ho hd
/-- what is told where a table gives way -/
def gaveWay : Bool → Sem Unit := fun b => match b with
  | true => rule "set.scan.the-table-gave-way"
  | false => pure ()
/-- a key is added -/
theorem kset_scan {k : Key} {x : Value} {o : Obj} {es : Array (Int × Value)} {ep : Nat} {t : SetTable} (hk : keyIs k x = true) (ho : s.heap.get? a = some o) (hex : o.ExactSet) (hd : o.data = .set es ep t) (R : KS w es t L) (room : L.length + 1 < scanBound) {Q : Option Bool → Shared → Prop}
    (hQ : ∀ b h' L', Heap.SameBut a s.heap h' → KSet w h' a L' → (∀ j, j ∈ L' ↔ j ∈ L ∨ j = k) → L'.length ≤ L.length + 1 → Q (some b) { s with heap := h' }) : wpAny (model P w) A (setAddByScan a x (keyH w k) es t) Q E s := by
  have flat := keyIs_flat hk
  have el := R.scan (P := P)
  unfold setAddByScan
  rw [hashByValue_scannable 8 flat]
  refine wpAny_bind (wpAny_rule (wpAny_bind (wpAny_setScan_of (knd := mixKind P w) (k := k) hk ho hd R.fit el ?_)))
  cases hf : es.toList.findIdx? (fun e => (mixKind P w).is k e.2) with
  | some j =>
    obtain ⟨hj, pj, _⟩ := List.findIdx?_eq_some_iff_getElem.mp hf
    have hm : k ∈ L := (R.found (P := P) k).mpr ⟨_, List.getElem_mem hj, pj⟩
    exact wpAny_pure (hQ _ _ L (Heap.SameBut.refl ..) ⟨o, es, ep, t, ho, hex, hd, R⟩ (fun j => ⟨.inl, fun e => e.elim id fun e => e ▸ hm⟩) (Nat.le_succ _))
  | none =>
    have hn : k ∉ L := fun h => by
      obtain ⟨e, he, hk⟩ := (R.found (P := P) k).mp h
      exact absurd hk (by rw [List.findIdx?_eq_none_iff.mp hf e he]; exact Bool.false_ne_true)
    obtain ⟨L1, p1, K1⟩ := R.grown (es' := (layNew t es (keyH w k) x).1) (t' := (layNew t es (keyH w k) x).2.1) hk hn room (layNew_perm ..) (layNew_fits ..) (layNew_ris _ _ _ _ R.up) (layNew_led ..)
    have done : ∀ h' L', Heap.SameBut a s.heap h' → KSet w h' a L' → L'.Perm L1 → Q (some true) { s with heap := h' } := fun h' L' sb r p => hQ _ h' L' sb r (fun j => by rw [(p.trans p1).mem_iff, List.mem_cons]; exact Or.comm) (by rw [(p.trans p1).length_eq]; exact Nat.le_refl _)
    dsimp only
    generalize layNew t es (keyH w k) x = Z at K1 ⊢
    obtain ⟨es1, t1, dmy, gave⟩ := Z
    dsimp only at K1 ⊢
    -- whatever the table says of its own plainness
    have tail : ∀ (T : SetTable), KS w es1 T L1 → ∀ gw : Bool → Sem Unit, (∀ b {s₁ : Shared} {R : Unit → Shared → Prop}, R () s₁ → wpAny (model P w) A (gw b) R E s₁) →
        wpAny (model P w) A (storeSet a es1 T >>= fun _ => if (!dmy && T.tooFull) = true then gw (relayAll T es1 (SetTable.grown es1.size)).2.2 >>= fun _ => storeSet a (relayAll T es1 (SetTable.grown es1.size)).1 (relayAll T es1 (SetTable.grown es1.size)).2.1 >>= fun _ => pure (some true) else pure (some true)) Q E s := by
      intro T K1 gw hg
      have sb1 : Heap.SameBut a s.heap (s.heap.update a (Obj.putSet es1 T)) := Heap.SameBut.update ..
      have ho1 := put_get (es' := es1) (t' := T) ho hd
      refine wpAny_bind (wpAny_storeSet_of ho hd ?_ (fits_of_scanBound K1.few))
      split
      · obtain ⟨L2, p2, K2⟩ := K1.moved (es' := (relayAll T es1 (SetTable.grown es1.size)).1) (t' := (relayAll T es1 (SetTable.grown es1.size)).2.1) (relayAll_perm ..) (relayAll_fits ..) (relayAll_ris ..) (relayAll_led ..)
        refine wpAny_bind (hg _ (wpAny_bind (wpAny_storeSet_of ho1 rfl (wpAny_pure ?_) (fits_of_scanBound K2.few))))
        exact done _ L2 (sb1.trans (Heap.SameBut.update ..)) ⟨_, _, _, _, put_get ho1 rfl, hex, rfl, K2⟩ p2
      · exact wpAny_pure (done _ L1 sb1 ⟨_, es1, _, T, ho1, hex, rfl, K1⟩ (.refl _))
    have off : KS w es1 { t1 with plain := false } L1 := ⟨K1.ent, K1.nd, K1.few, SetTable.fits_plain_off K1.fit, K1.up, K1.led⟩
    refine wpAny_bind ?_
    have gws : ∀ b {s₁ : Shared} {R : Unit → Shared → Prop}, R () s₁ → wpAny (model P w) A (gaveWay b) R E s₁ := fun b s₁ R q => by cases b <;> first | exact wpAny_pure q | exact wpAny_rule q
    have first : wpAny (model P w) A (gaveWay gave) (fun u s₁ => s₁ = s) E s := gws gave rfl
    refine wpAny_mono first ?_ (fun _ _ h => h)
    rintro u s₁ rfl
    split
    · refine wpAny_bind (wpAny_pure ?_)
      cases plainKind x
      · exact tail _ off _ gws
      · exact tail _ K1 _ gws
    · exact wpAny_bind (wpAny_pure (tail _ K1 _ gws))
/-- .. by hand over its own hash -/
theorem kset_add {k : Key} {x : Value} (hk : keyIs k x = true) (R : KSet w s.heap a L) (room : L.length + 1 < scanBound) {Q : Bool → Shared → Prop}
    (hQ : ∀ b h' L', Heap.SameBut a s.heap h' → KSet w h' a L' → (∀ j, j ∈ L' ↔ j ∈ L ∨ j = k) → L'.length ≤ L.length + 1 → Q b { s with heap := h' }) : wpAny (model P w) A (setAddHashed a x (keyH w k)) Q E s := by
  obtain ⟨o, es, ep, t, ho, hex, hd, R⟩ := R
  unfold setAddHashed setAddHashedIn
  refine wpAny_holding (wpAny_bind (wpAny_setState_of ho hd R.fit ?_))
  dsimp only
  rw [if_pos (byScan_of (keyIs_flat hk) R.few (R.scan (P := P)))]
  refine wpAny_bind (kset_scan hk ho hex hd R room fun b h' L' sb r m l => ?_)
  exact wpAny_pure (hQ b h' L' sb r m l)
/-- no keys yet -/
theorem kset_none {h : Heap} (ho : h.get? a = some { cls := .type "set", dict := none, data := .set #[] 0 (.fresh 0 0 (!w.params.followText "set-order")) }) : KSet w h a [] :=
  ⟨_, #[], 0, _, ho, ⟨rfl, rfl, rfl⟩, rfl, .nil, List.nodup_nil, by decide, by rfl, List.Pairwise.nil, by
    cases w.params.followText "set-order" with
    | true => exact .inl rfl
    | false => exact .inr rfl⟩
/-- all that is walked is added -/
theorem kset_fill {I : Addr} {fp wr : List Addr} {G : Array GenState → Array GenState → Prop} {n : Nat} {Pv : Nat → Value → Prop} {St : Nat → Shared → Prop} {R : Result → Shared → Prop} (W : WalksS P w A.in1 I fp wr G n Pv St)
    {S : Addr} (hS : S ∉ fp) {ks : List Key} (hn : n = ks.length) (few : ks.length + 1 < scanBound) (hv : ∀ i v, Pv i v → ∃ k, ks[i]? = some k ∧ keyIs k v = true) (left : Nat) :
    ∀ (i : Nat) (s : Shared) (L : List Key), i + left = n → St i s → KSet w s.heap S L → (∀ k, k ∈ L ↔ k ∈ ks.take i) → L.length ≤ i →
      (∀ s' L', Moved (S :: wr) G s s' → KSet w s'.heap S L' → (∀ k, k ∈ L' ↔ k ∈ ks) → R (.ok (.ret .none)) s') → codeAny (model P w) A (.builtin "set.update.loop" ⟨[.ref S, .ref I], []⟩) R s := by
  have hSw : S ∉ wr := fun h => hS (W.sub _ h)
  have wider : ∀ b ∈ wr, b ∈ S :: wr := fun b hb => .tail _ hb
  induction left with
  | zero =>
    intro i s L hi st K m _ hR
    obtain rfl : i = n := hi
    refine codeAny_builtin F.entry_set_update_loop ?_
    rw [Around.under_plainId F.plain_set_update_loop]
    refine wpAny_bind (m := pyNext (.ref I)) (W.done s _ _ st fun s' mv => wpAny_pure (hR s' L (mv.mono wider) (K.at fun o e => mv.heap S o hSw e) fun k => ?_))
    rw [m k, hn, List.take_length]
  | succ left ih =>
    intro i s L hi st K m len hR
    have lt : i < n := by omega
    refine codeAny_builtin F.entry_set_update_loop ?_
    rw [Around.under_plainId F.plain_set_update_loop]
    refine wpAny_bind (m := pyNext (.ref I)) (W.item i s _ _ lt st fun v s' pv st' mv => ?_)
    obtain ⟨k, ek, hk⟩ := hv i v pv
    refine wpAny_bind (m := holding [v] (setAdd S v)) (wpAny_holding ?_)
    unfold setAdd
    refine wpAny_holding (wpAny_bind ((mixKind P w).pyHash hk ?_))
    refine kset_add (s := { s' with toks := s'.toks + 1 }) hk (K.at fun o e => mv.heap S o hSw e) (by omega) fun b h' L' sb K' m' len' => ?_
    refine wpAny_pure ⟨plainId_quiet F.plain_set_update_loop _, ih (i + 1) _ L' (by omega) (W.frame _ s' _ _ st' (Nat.le_add_right ..) fun c hc o e => ?_) K' (fun j => ?_) (by omega) fun s2 L2 mv2 K2 m2 => ?_⟩
    · exact (sb.2 c fun e2 => hS (e2 ▸ hc)).trans e
    · rw [m' j, m j, List.take_add_one, ek, List.mem_append, Option.toList_some, List.mem_singleton]
    · refine hR s2 L2 (Moved.trans W.gtrans ((mv.mono wider).then_heap (Nat.le_add_right ..) fun c o hc e => ?_) mv2) K2 m2
      exact (sb.2 c fun e2 => hc (e2 ▸ List.mem_cons_self)).trans e
/-- an empty set's object -/
abbrev set0 (w : World) : Obj := { cls := .type "set", dict := none, data := .set #[] 0 (.fresh 0 0 (!w.params.followText "set-order")) }
theorem not_yet {h : Heap} {b : Addr} (hb : h.objs.size ≤ b) : h.get? b = none := by
  cases e : h.get? b with
  | none => rfl
  | some o => exact absurd (Heap.lt_size e) (Nat.not_lt.mpr hb)
/-- all items of a list or a tuple are put into the set S -/
theorem kset_from {A : Around} {s0 : Shared} {l : Addr} {items : Array Value} {ks : List Key} {Q : Unit → Shared → Prop} (hh : A.handled = none) (hl : s0.heap.IsList l items ∨ s0.heap.IsTuple l items) (hk : Paired (fun v k => keyIs k v = true) items.toList ks) (few : ks.length + 1 < scanBound)
    (h : ∀ (h' : Heap) (tk : Nat) (L : List Key), KSet w h' s0.heap.objs.size L → (∀ k, k ∈ L ↔ k ∈ ks) → (∀ b o, s0.heap.get? b = some o → h'.get? b = some o) → Q () { s0 with heap := h', toks := tk }) :
    wpAny (model P w) A (Builtin.Frozenset.updateFrom "set.__init__" s0.heap.objs.size (.ref l)) Q E { s0 with heap := s0.heap.push (set0 w) } := by
  have sz : items.size = ks.length := by rw [← Array.length_toList, hk.length]
  have hS : (s0.heap.push (set0 w)).get? s0.heap.objs.size = some (set0 w) := Heap.get?_push_size _ rfl
  have each : ∀ (i : Nat) (v : Value), items[i]? = some v → ∃ k, ks[i]? = some k ∧ keyIs k v = true := fun i v hv => paired_at hk (by rw [Array.getElem?_toList]; exact hv)
  have big : (s0.heap.push (set0 w)).objs.size = s0.heap.objs.size + 1 := Heap.size_push ..
  have goal : ∀ (fp : List Addr) (it : Obj) (St : Nat → Heap → Prop), it.isFreed = false → Walks P w A.in1 (s0.heap.objs.size + 1) fp [s0.heap.objs.size + 1] items.size (fun i v => items[i]? = some v) St → s0.heap.objs.size ∉ fp → St 0 ((s0.heap.push (set0 w)).push it) →
      codeAny (model P w) A (.builtin "set.update.loop" ⟨[.ref s0.heap.objs.size, .ref (s0.heap.objs.size + 1)], []⟩) (fun r s' => match r with | .ok (.ret _) => wpAny (model P w) A (pure ()) Q E s' | .ok _ => False | .error e => E e s') { s0 with heap := (s0.heap.push (set0 w)).push it } := by
    intro fp it St fr W nf st
    refine kset_fill W.toS nf sz few each items.size 0 _ [] (Nat.zero_add _) st (kset_none (Heap.get?_push_of_some _ hS)) (fun k => by rw [List.take_zero]) (Nat.le_refl _) fun s' L mv K m => ?_
    obtain ⟨h', g', d', tk', os'⟩ := s'
    obtain rfl : g' = s0.gens := mv.gens
    obtain rfl : d' = s0.drawn := mv.drawn
    obtain rfl : os' = s0.os := mv.os
    refine wpAny_pure (h h' tk' L K m fun b o e => mv.heap b o ?_ (Heap.get?_push_of_some _ (Heap.get?_push_of_some _ e)))
    have lt := Heap.lt_size e
    simp only [List.mem_cons, List.not_mem_nil, or_false, not_or]
    exact ⟨Nat.ne_of_lt lt, Nat.ne_of_lt (Nat.lt_succ_of_lt lt)⟩
  have apart : ∀ {o : Obj}, s0.heap.get? l = some o → l ≠ s0.heap.objs.size + 1 ∧ s0.heap.objs.size ∉ [s0.heap.objs.size + 1, l] := fun e => by
    have lt := Heap.lt_size e
    refine ⟨Nat.ne_of_lt (Nat.lt_succ_of_lt lt), ?_⟩
    simp only [List.mem_cons, List.not_mem_nil, or_false, not_or]
    exact ⟨Nat.ne_of_lt (Nat.lt_succ_self _), Nat.ne_of_gt lt⟩
  rcases hl with hl | hl
  · have hl1 : (s0.heap.push (set0 w)).IsList l items := hl.push _
    obtain ⟨⟨cls, dct, dat, slt⟩, ho, hc, n, hd⟩ := hl
    simp only at hc hd
    subst hc hd
    obtain ⟨ne, nf⟩ := apart ho
    have ho1 := Heap.get?_push_of_some (set0 w) ho
    have f1 := F.sub_list_set
    have f2 := F.sub_list_frozenset
    have f3 : (Value.type "list" == Value.type "dict") = false := by decide
    unfold Builtin.Frozenset.updateFrom
    generalize hI : pyIter = walker
    wp_walk
    subst hI
    refine wpAny_pyIter_list hl1 ?_
    rw [big]
    refine wpAny_bind (wpAny_runValue ?_)
    have st1 : ((s0.heap.push (set0 w)).push { cls := .type "list_iterator", data := .fields #[.ref l, .int 0 0] }).IsListIter (s0.heap.objs.size + 1) l 0 := by
      rw [← big]
      exact ⟨_, Heap.get?_push_size _ rfl, rfl, rfl⟩
    exact goal _ _ _ rfl (Walks.list (by simp [hh]) _ l ne items) nf ⟨st1, hl1.push _⟩
  · have hl1 : (s0.heap.push (set0 w)).IsTuple l items := hl.push _
    obtain ⟨⟨cls, dct, dat, slt⟩, ho, hc, n, hd⟩ := hl
    simp only at hc hd
    subst hc hd
    obtain ⟨ne, nf⟩ := apart ho
    have ho1 := Heap.get?_push_of_some (set0 w) ho
    have f1 := F.sub_tuple_set
    have f2 := F.sub_tuple_frozenset
    have f3 : (Value.type "tuple" == Value.type "dict") = false := by decide
    unfold Builtin.Frozenset.updateFrom
    generalize hI : pyIter = walker
    wp_walk
    subst hI
    refine wpAny_pyIter_tuple hl1 ?_
    rw [big]
    refine wpAny_bind (wpAny_runValue ?_)
    have st1 : ((s0.heap.push (set0 w)).push { cls := .type "tuple_iterator", data := .fields #[.ref l, .int 0 0] }).IsTupleIter (s0.heap.objs.size + 1) l 0 := by
      rw [← big]
      exact ⟨_, Heap.get?_push_size _ rfl, rfl, rfl⟩
    exact goal _ _ _ rfl (Walks.tuple (by simp [hh]) _ l ne items) nf ⟨st1, hl1.push _⟩
/-- set(xs) -/
theorem call_setK {A : Around} {s0 : Shared} {l : Addr} {items : Array Value} {ks : List Key} {Q : Value → Shared → Prop} (hh : A.handled = none) (hl : s0.heap.IsList l items ∨ s0.heap.IsTuple l items) (hk : Paired (fun v k => keyIs k v = true) items.toList ks) (few : ks.length + 1 < scanBound)
    (h : ∀ (h' : Heap) (tk : Nat) (L : List Key), KSet w h' s0.heap.objs.size L → (∀ k, k ∈ L ↔ k ∈ ks) → (∀ b o, s0.heap.get? b = some o → h'.get? b = some o) → Q (.ref s0.heap.objs.size) { s0 with heap := h', toks := tk }) :
    wpAny (model P w) A (call (.type "set") [.ref l]) Q E s0 := by
  obtain ⟨c, tl, g1⟩ := F.called_set.mro
  have g2 := F.called_set.made
  have g3 := F.called_set.sub
  have g4 := F.called_set.notType
  have g5 := F.called_set.canCreate
  have g6 := F.typeCall_set_1 (.ref l)
  refine wpAny_call (codeAny_of_tree ?_)
  show wpAny _ _ (callAny (.type "set") _) _ _ _
  refine wpAny_pure ⟨Code.quiet_builtin _ (by decide +kernel), codeAny_builtin F.entry_type_call ?_⟩
  rw [Around.under_plain (weight_type_call_type "set" [.ref l] []) rfl]
  repeat (any_goals (first | assumption | wp_step))
  refine codeAny_mono (code_set_led1 (w := w) (.ref l) (E := E) (Q₁ := fun r s1 => r = .ref s0.heap.objs.size ∧ s1 = { s0 with heap := s0.heap.push (set0 w) }) ⟨rfl, rfl⟩) fun r s1 hr => ?_
  cases r with
  | error e => exact hr
  | ok fl =>
    cases fl <;> first | exact hr.elim | skip
    obtain ⟨rfl, rfl⟩ := hr
    have t0 : Shared.TypeIs { s0 with heap := s0.heap.push (set0 w) } (.ref s0.heap.objs.size) "set" := ⟨_, Heap.get?_push_size _ rfl, rfl⟩
    have o0 : (s0.heap.push (set0 w)).get? s0.heap.objs.size = some (set0 w) := Heap.get?_push_size _ rfl
    have i1 := F.called_set.init.lookup
    have i2 := F.called_set.init.bind (.ref s0.heap.objs.size)
    repeat (any_goals (first | assumption | wp_step))
    refine codeAny_mono (codeAny_call_builtin (R := wants (fun r s2 => r = .none ∧ Q (.ref s0.heap.objs.size) s2) E) F.called_set.init.plain F.entry_set_init (check_set_init_1 t0 ?_)) fun r2 s2 hr2 => ?_
    · unfold Builtin.«set.__init__» noKeywords
      generalize hU : Builtin.Frozenset.updateFrom "set.__init__" = fill
      wp_walk
      subst hU
      refine kset_from (by simp [hh]) hl hk few fun h' tk L K m k => ?_
      exact wpAny_pure ⟨rfl, h h' tk L K m k⟩
    · cases r2 with
      | error e => exact hr2
      | ok fl =>
        cases fl <;> first | exact hr2.elim | skip
        obtain ⟨rfl, hq⟩ := hr2
        repeat (any_goals (first | assumption | wp_step))
end
end Cn
set_option Elab.async false
set_option linter.all false
set_option maxRecDepth 100000
set_option maxHeartbeats 4000000
/-! set(xs) and sorted(set(xs)) of whole numbers or texts, over the layer. -/
namespace Cn
open PySem PySem.Spec PyProof.Rows L2
def encK : Key → PyData
  | .inl i => .int i
  | .inr x => .str x
def leK (a b : Key) : Bool := PySem.W.dataLe false encK a b
/-- all whole numbers, or all texts -/
def OneSort (L : List Key) : Prop := (∀ k ∈ L, ∃ i, k = Sum.inl i) ∨ ∀ k ∈ L, ∃ x, k = Sum.inr x
def SetKO (w : World) (a : Addr) (L : List Key) : HO := .ext fun h => ∃ L0, KSet w h a L0 ∧ ∀ k, k ∈ L0 ↔ k ∈ L
theorem setKO_new {P : Program} {w : World} {H : Hp} {h : Heap} {a : Addr} {L L0 : List Key} (R : KSet w h a L0) (m : ∀ k, k ∈ L0 ↔ k ∈ L) : ObjOk P w H h a (SetKO w a L) := by
  have ⟨o, es, ep, t, ho, r⟩ := R
  refine ⟨⟨L0, R, m⟩, ⟨o, ho⟩, fun h1 h2 p k => ?_⟩
  obtain ⟨L1, p, m1⟩ := p
  exact ⟨L1, p.at fun o e => k o e, m1⟩
theorem each_of_paired {α β : Type} {R : α → β → Prop} {l : List α} {m : List β} (h : Paired R l m) : PySem.W.EachIs R l m := by
  induction h with
  | nil => exact .nil
  | cons r _ ih => exact .cons r ih
theorem paired_snd {w : World} {l : List (Int × Value)} {m : List Key} (h : Paired (Ent w) l m) : Paired (fun v k => keyIs k v = true) (l.map (·.2)) m := by
  induction h with
  | nil => exact .nil
  | cons r _ ih => exact .cons r.1 ih
theorem keys_of_vals : ∀ {ks : List Key} {us : List Value}, Vals (ks.map kV) us → Paired (fun v k => keyIs k v = true) us ks
  | [], _, .nil => .nil
  | k :: ks, _, .cons r t => .cons (keyIs_rel.mpr r) (keys_of_vals t)
theorem vals_of_each : ∀ {ks : List Key} {us : List Value}, PySem.W.EachIs (fun v k => keyIs k v = true) us ks → Vals (ks.map kV) us
  | _, _, .nil => .nil
  | _, _, .cons r t => .cons (keyIs_rel.mp r) (vals_of_each t)
section
variable {X : Cx}
def rSetOfK (K : PySem.W.Frag) (w : World) : List V → Hp → VK → Prop := fun xs H Q => ∃ (l : Addr) (ks : List Key), xs = [V.ref l] ∧ (SqL K H l (ks.map kV) ∨ SqT K H l (ks.map kV)) ∧ ks.length < 4000 ∧ ∀ a, H a = none → Q (.ref a) (upd H a (SetKO w a ks))
theorem cr_setOfK {K : PySem.W.Frag} {w : World} (hK : X.K = K) (hw : X.w = w) (hc : X.calm = true) : CallR X (.type "set") (rSetOfK K w) := by
  subst hK hw
  intro pins s σ H xs us Q I r h
  obtain ⟨l, ks, rfl, hl, hf, q⟩ := h
  rw [Vals.ref1 r]
  have hn : H s.heap.objs.size = none := I.hok.fresh (Nat.le_refl _)
  have fin : ∀ (its : List Value), Vals (ks.map kV) its → (s.heap.IsList l its.toArray ∨ s.heap.IsTuple l its.toArray) → wpAny (model X.prog X.w) X.A (call (.type "set") [.ref l]) (fun v s' => ∃ x H', Inv X pins σ H' s' ∧ RelV x v ∧ Q x H') X.xe s := fun its rv hs =>
    call_setK (P := X.prog) (w := X.w) (I.ok.hd hc) hs (by simpa using keys_of_vals rv) (by unfold scanBound; omega) fun h' tk L R m k =>
      ⟨.ref s.heap.objs.size, upd H s.heap.objs.size (SetKO X.w s.heap.objs.size ks), I.laid (t' := tk) k (Nat.le_refl _) (setKO_new R m), rfl, q _ hn⟩
  rcases hl with hl | hl
  · obtain ⟨its, rv, pl, hz⟩ := I.list hl
    exact fin its rv (.inl pl.isList)
  · obtain ⟨its, rv, pl, hz⟩ := I.tuple hl
    exact fin its rv (.inr pl)
theorem alike_one {L : List Key} (o : OneSort L) : PySem.W.AllAlike (L.map encK) := by
  intro d hd e he
  obtain ⟨k, hk, rfl⟩ := List.mem_map.mp hd
  obtain ⟨j, hj, rfl⟩ := List.mem_map.mp he
  rcases o with o | o
  · obtain ⟨i, rfl⟩ := o k hk
    obtain ⟨i', rfl⟩ := o j hj
    rfl
  · obtain ⟨i, rfl⟩ := o k hk
    obtain ⟨i', rfl⟩ := o j hj
    rfl
theorem sortable_one (L : List Key) : PySem.W.Sortable (L.map encK) := .others (enc := encK) fun b => by
  cases b <;> (refine And.intro (fun e => ?_) fun xs e => ?_) <;> cases e
theorem encK_depth (k : Key) : (encK k).depth = 0 := by cases k <;> rfl
theorem reads_key {h : Heap} {k : Key} {v : Value} (e : keyIs k v = true) : ∃ as, Reads h v (encK k) as := by
  rcases keyIs_shape e with ⟨i, t, rfl, rfl⟩ | ⟨x, t, rfl, rfl⟩
  · exact ⟨_, .int ..⟩
  · exact ⟨_, .str ..⟩
theorem leK_int (a b : Int) : leK (Sum.inl a) (Sum.inl b) = decide (a ≤ b) := by
  have h := congrFun (congrFun (PySem.W.dataLe_int (fun i : Int => i)) a) b
  exact h
theorem leK_str (a b : Str) : leK (Sum.inr a) (Sum.inr b) = decide (a.cps.toList ≤ b.cps.toList) := by
  have h := congrFun (congrFun (PySem.W.dataLe_str (fun i : Str => i)) a) b
  exact h
theorem sort_pair (L : List Key) (o : OneSort L) : (L.mergeSort leK).Pairwise (fun a b => leK a b = true) := by
  rcases o with o | o
  · have key : ∃ l : List Int, L = l.map Sum.inl := by
      induction L with
      | nil => exact ⟨[], rfl⟩
      | cons k L ih =>
        obtain ⟨l, rfl⟩ := ih fun k hk => o k (List.mem_cons_of_mem _ hk)
        obtain ⟨i, rfl⟩ := o k List.mem_cons_self
        exact ⟨i :: l, rfl⟩
    obtain ⟨l, rfl⟩ := key
    have e : (l.map (Sum.inl : Int → Key)).mergeSort leK = (l.mergeSort fun a b => decide (a ≤ b)).map Sum.inl := by
      refine (List.map_mergeSort (r := fun a b => decide (a ≤ b)) (s := leK) (f := (Sum.inl : Int → Key)) fun a _ b _ => (leK_int a b).symm).symm
    rw [e, List.pairwise_map]
    have h := List.pairwise_mergeSort (le := fun a b : Int => decide (a ≤ b)) (fun a b c h1 h2 => by simp only [decide_eq_true_eq] at *; omega) (fun a b => by simp only [Bool.or_eq_true, decide_eq_true_eq]; omega) l
    exact h.imp fun {a b} hab => by rw [leK_int]; exact hab
  · have key : ∃ l : List Str, L = l.map Sum.inr := by
      induction L with
      | nil => exact ⟨[], rfl⟩
      | cons k L ih =>
        obtain ⟨l, rfl⟩ := ih fun k hk => o k (List.mem_cons_of_mem _ hk)
        obtain ⟨i, rfl⟩ := o k List.mem_cons_self
        exact ⟨i :: l, rfl⟩
    obtain ⟨l, rfl⟩ := key
    have e : (l.map (Sum.inr : Str → Key)).mergeSort leK = (l.mergeSort fun a b => decide (a.cps.toList ≤ b.cps.toList)).map Sum.inr := by
      refine (List.map_mergeSort (r := fun a b : Str => decide (a.cps.toList ≤ b.cps.toList)) (s := leK) (f := (Sum.inr : Str → Key)) fun a _ b _ => (leK_str a b).symm).symm
    rw [e, List.pairwise_map]
    have h := List.pairwise_mergeSort (le := fun a b : Str => decide (a.cps.toList ≤ b.cps.toList)) (fun a b c h1 h2 => by simp only [decide_eq_true_eq] at *; exact List.le_trans h1 h2) (fun a b => by simp only [Bool.or_eq_true, decide_eq_true_eq]; exact List.le_total _ _) l
    exact h.imp fun {a b} hab => by rw [leK_str]; exact hab
def rSortedK (w : World) : List V → Hp → VK → Prop := fun vs H Q => ∃ (a : Addr) (L : List Key), vs = [V.ref a] ∧ H a = some (SetKO w a L) ∧ OneSort L ∧
  ∀ (L' : List Key) (p : Addr), L'.Nodup → (∀ k, k ∈ L' ↔ k ∈ L) → L'.Pairwise (fun a b => leK a b = true) → H p = none → Q (.ref p) (upd H p (.lst (L'.map kV)))
theorem cr_sortedK {w : World} (hw : X.w = w) (hc : X.calm = true) (hu : X.A.units + 64 < cLine) : CallR X (.builtin "sorted") (rSortedK w) := by
  subst hw
  intro pins s σ H vs us Q I r h
  obtain ⟨a, L, rfl, ha, oL, q⟩ := h
  obtain ⟨L0, ⟨o, es, ep, t, ho, hex, hd, R⟩, mL⟩ := (I.hok a _ ha).1
  rw [Vals.ref1 r]
  refine Calls.call_function_entry kind_sorted plain_sorted entry_sorted (args_sorted1 _) ?_
  unfold Builtin.«sorted»
  refine wpAny_bind (m := checkCount "sorted" 1 1 _) (wpAny_pure ?_)
  refine wpAny_bind (collect_set (A := X.A.in1) (I.ok.hd hc) ⟨o, ho, hex.1, hd⟩ R.fit R.few R.up R.led fun s1 us1 k1 hz g1 o1 pm => ?_)
  -- the keys, in the order in which they were met
  obtain ⟨ks, pk, ek'⟩ := paired_perm pm (paired_snd R.ent)
  have ek := each_of_paired ek'
  have ndk : ks.Nodup := pk.nodup_iff.mpr R.nd
  have mk : ∀ k, k ∈ ks ↔ k ∈ L := fun k => pk.mem_iff.trans (mL k)
  have ok : OneSort ks := oL.imp (fun h k hk => h k ((mk k).mp hk)) fun h k hk => h k ((mk k).mp hk)
  have hvl : ks.length < 4096 := by rw [pk.length_eq, ← R.len]; exact R.few
  have hul : us1.length = ks.length := ek.length
  refine wpAny_bind (wpAny_newList ?_ (by rw [hul, sizeLine_eq]; omega))
  have hoL : (s1.heap.push (seqObj "list" us1.toArray 0)).get? s1.heap.objs.size = some (seqObj "list" us1.toArray 0) := Heap.get?_push_size _ rfl
  refine wpAny_bind (wpAny_holding (PySem.W.list_sort_data (s := { s1 with heap := s1.heap.push (seqObj "list" us1.toArray 0) }) (enc := encK) (R := fun v k => keyIs k v = true) hoL ek (ek.mono fun v k e => ?_) (alike_one ok) (sortable_one ks) (by rw [sizeLine_eq]; omega) (fun b _ => ?_) fun out ho2 eo => ?_))
  · rcases keyIs_shape e with ⟨i, t, rfl, rfl⟩ | ⟨x, t, rfl, rfl⟩
    · exact ⟨[], .int .., List.not_mem_nil⟩
    · exact ⟨[], .str .., List.not_mem_nil⟩
  · have := encK_depth b
    have h1 : X.A.in1.units = X.A.units + 1 := rfl
    omega
  obtain ⟨c, hc2⟩ := sortedHeap_at (vs := us1) (out := out.toArray) hoL
  have hp : H s1.heap.objs.size = none := I.hok.fresh hz
  have k2 : ∀ b u, s.heap.get? b = some u → (sortedHeap (s1.heap.push (seqObj "list" us1.toArray 0)) s1.heap.objs.size us1 out.toArray).get? b = some u := fun b u e => by
    have q := k1 b u e
    have hlt := Heap.lt_size q
    rw [sortedHeap_old (Nat.ne_of_lt hlt) (by rw [size_push']; exact Nat.lt_succ_of_lt hlt)]
    exact Heap.get?_push_of_some _ q
  refine wpAny_pure ⟨_, rfl, ?_⟩
  have hlen : ((ks.mergeSort leK).map kV).length ≤ sizeLine := by rw [List.length_map, List.length_mergeSort, sizeLine_eq]; omega
  have J : Inv X pins σ (upd H s1.heap.objs.size (.lst ((ks.mergeSort leK).map kV))) { s with heap := sortedHeap (s1.heap.push (seqObj "list" us1.toArray 0)) s1.heap.objs.size us1 out.toArray, gens := s1.gens, drawn := s1.drawn, toks := s1.toks } :=
    I.call (ch := []) (Un.laid k2 hz hp) (I.hok.laid k2 hz ⟨hlen, out, c, vals_of_each eo, hc2⟩) (by rw [g1]; exact I.bare) (fun _ z => nomatch z)
  have e : ({ s1 with heap := sortedHeap (s1.heap.push (seqObj "list" us1.toArray 0)) s1.heap.objs.size us1 out.toArray } : Shared) = { s with heap := sortedHeap (s1.heap.push (seqObj "list" us1.toArray 0)) s1.heap.objs.size us1 out.toArray, gens := s1.gens, drawn := s1.drawn, toks := s1.toks } := by
    obtain ⟨h1, g1', d1, t1, os1⟩ := s1
    obtain ⟨h0, g0, d0, t0, os0⟩ := s
    cases o1
    rfl
  show ∃ v H', _
  rw [e]
  have pms := List.mergeSort_perm ks leK
  exact ⟨.ref _, _, J, rfl, q (ks.mergeSort leK) _ (pms.nodup_iff.mpr ndk) (fun k => (pms.mem_iff).trans (mk k)) (sort_pair ks ok) hp⟩
def rLenSetK (w : World) : List V → Hp → VK → Prop := fun vs H Q => ∃ (a : Addr) (L : List Key), vs = [V.ref a] ∧ H a = some (SetKO w a L) ∧ ∀ (L' : List Key), L'.Nodup → (∀ k, k ∈ L' ↔ k ∈ L) → Q (.int L'.length) H
theorem cr_lenSetK {w : World} (hw : X.w = w) : CallR X (.builtin "len") (rLenSetK w) := by
  subst hw
  intro pins s σ H vs us Q I r h
  obtain ⟨a, L, rfl, ha, q⟩ := h
  obtain ⟨L0, ⟨o, es, ep, t, ho, hex, hd, R⟩, mL⟩ := (I.hok a _ ha).1
  rw [Vals.ref1 r]
  have few := R.few
  refine call_len_set ho hex hd R.fit (by unfold scanBound at few; omega) ⟨.int es.size, H, I.tok _, ⟨_, rfl⟩, ?_⟩
  have h1 := q L0 R.nd mL
  rw [← R.len] at h1
  exact h1
end
end Cn
set_option Elab.async false
set_option linter.all false
set_option maxRecDepth 100000
set_option maxHeartbeats 4000000
/-! enumerate(t), t a tuple. -/
namespace Cn
open PySem PySem.Spec PyProof.Rows L2
abbrev tupIt (t : Addr) : Obj := { cls := .type "tuple_iterator", data := .fields #[.ref t, .int 0 0] }
abbrev enumOf (it : Addr) : Obj := { cls := .type "enumerate", data := .fields #[.none, .bool false, .ref it, rawInt 0, .none, .none] }
theorem new_enumT (t : Addr) (items : Array Value) : Meets (Builtin.«enumerate.__new__» ⟨[.type "enumerate", .ref t], []⟩) (fun _ R s => s.heap.IsTuple t items ∧ R (.ok (.ret (.ref (s.heap.push (tupIt t)).objs.size))) { s with heap := (s.heap.push (tupIt t)).push (enumOf s.heap.objs.size) }) :=
  .of_wp fun prog w A R s h => by
    obtain ⟨hT, h⟩ := h
    obtain ⟨hp, g, d, tk, os⟩ := s
    have hsub := sub_enumerate
    have go : ∀ {B : Around} {E : Value → Shared → Prop} {Q : Value → Shared → Prop}, Q (.ref hp.objs.size) ⟨hp.push (tupIt t), g, d, tk, os⟩ → wpAny (model prog w) B (pyIter (.ref t)) Q E ⟨hp, g, d, tk, os⟩ := fun q => wpAny_pyIter_tuple hT q
    wp_walk using go
    refine wpAny_stack_any fun st => wpAny_pure ?_
    split
    · rename_i c _ _ _ _ _
      cases (c == Value.type "enumerate") <;> (wp_walk using go; exact ⟨_, rfl, h⟩)
    · wp_walk using go
      exact ⟨_, rfl, h⟩
section
variable {prog : Program} {w : World} {A : Around} {E : Value → Shared → Prop} {s : Shared}
theorem call_enumT {t : Addr} {items : Array Value} {Q : Value → Shared → Prop} (hT : s.heap.IsTuple t items)
    (h : ∀ h', IsEnum h' (s.heap.objs.size + 1) s.heap.objs.size 0 .none → h'.IsTupleIter s.heap.objs.size t 0 → (∀ b o, s.heap.get? b = some o → h'.get? b = some o) → Q (.ref (s.heap.objs.size + 1)) { s with heap := h' }) :
    wpAny (model prog w) A (call (.type "enumerate") [.ref t]) Q E s := by
  refine callType_new F.called_enumerate (by decide) (F.typeCall_enumerate_1 _) (F.newCall_enumerate_1 _) (fun obj => F.args_object_init_2 obj _) F.entry_enumerate_new (new_enumT t items) ⟨hT, ?_⟩
  have big : (s.heap.push (tupIt t)).objs.size = s.heap.objs.size + 1 := Heap.size_push ..
  have at1 : ((s.heap.push (tupIt t)).push (enumOf s.heap.objs.size)).get? (s.heap.objs.size + 1) = some (enumOf s.heap.objs.size) := big ▸ Heap.get?_push_size _ rfl
  refine ⟨⟨_, big ▸ at1, rfl⟩, ?_⟩
  rw [big]
  exact h _ at1 ⟨_, Heap.get?_push_of_some _ (Heap.get?_push_size _ rfl), rfl, rfl⟩ fun b o e => Heap.get?_push_of_some _ (Heap.get?_push_of_some _ e)
end
/-- the tuple at a, its items in new pairs with their places -/
def Itet (K : PySem.W.Frag) (a : Addr) : It :=
  ⟨fun i H => ∃ (xs : List V) (x : V), SqT K H a xs ∧ xs[i]? = some x, fun i H v H' => ∃ T x, v = .ref T ∧ H T = none ∧ H' = upd H T (.tup [.int (i : Nat), x]) ∧ ∀ xs, SqT K H a xs → xs[i]? = some x, fun i H => ∃ xs : List V, SqT K H a xs ∧ xs.length ≤ i⟩
theorem turn_enumT {P : Program} {w : World} {K : PySem.W.Frag} {elts : List Expr} {kk : Nat} {tpos : Pos} (a e it : Addr) :
    L2.Turn P w K (.Tuple elts kk tpos) (Itet K a) [e, it] e (fun i h => (∃ old, IsEnum h e it ((i : Nat) : Int) old) ∧ h.IsTupleIter it a i ∧ e ≠ it ∧ a ≠ it ∧ a ≠ e) where
  mem := List.mem_cons_self
  obj := fun i h st b hb => by
    obtain ⟨⟨old, he⟩, ⟨o, ho, hc, hd⟩, _⟩ := st
    rcases List.mem_cons.mp hb with rfl | hb
    · exact ⟨_, he, fun v q => nomatch q⟩
    · obtain rfl := List.mem_singleton.mp hb
      exact ⟨o, ho, fun v q => by rw [hd] at q; cases q⟩
  keep := fun i h h' ⟨⟨old, he⟩, hi, hne⟩ k => ⟨⟨old, k e List.mem_cons_self _ he⟩, hi.at fun o q => k it (List.mem_cons_of_mem _ List.mem_cons_self) o q, hne⟩
  item := by
    intro X hP hw hK hc i pins s σ H E I hf st hg
    subst hP hw hK
    obtain ⟨⟨old, he⟩, hit, hne, hai, hae⟩ := st
    obtain ⟨xs, x, hq, hx⟩ := hg
    obtain ⟨its, rv, p, hz⟩ := I.tuple hq
    obtain ⟨u, hu, ru⟩ := rv.get hx
    have lt := List.getElem?_eq_some_iff.mp hu
    refine wpAny_pyNext_enum_itemD (Draws.tuple (A := X.A.in1) (by rw [show X.A.in1.handled = X.A.handled from rfl]; exact I.ok.hd hc) it a hai its.toArray) he ⟨hit, p⟩ (by simpa using lt.1) hne (by simp [hne, Ne.symm hae]) fun y h' tk hy ho st' hT hsz hk => ?_
    have ey : y = u := by
      have hy : its.toArray[i]? = some y := hy
      rw [List.getElem?_toArray, hu] at hy
      exact (Option.some.inj hy).symm
    subst ey
    refine ⟨_, rfl, wpAny_letOwnedTupleGo_enum (s := { s with heap := h', toks := tk + 1 }) ho fun h2 he' sb => ?_⟩
    have hel := Heap.lt_size he
    have hil : it < s.heap.objs.size := let ⟨_, q, _⟩ := hit; Heap.lt_size q
    have hT2 : h2.get? s.heap.objs.size = some { cls := .type "tuple", data := .seq #[.int i tk, y] } := (sb.2 _ (Nat.ne_of_gt hel)).trans hT
    have made : ObjOk X.prog X.w (upd H s.heap.objs.size (.tup [.int (i : Nat), x])) h2 s.heap.objs.size (.tup [.int (i : Nat), x]) :=
      ⟨by show 2 ≤ sizeLine; decide, [.int i tk, y], .cons ⟨_, rfl⟩ (.cons ru .nil), ⟨_, hT2, rfl, _, rfl⟩⟩
    have I1 : Inv X pins σ (upd H s.heap.objs.size (.tup [.int (i : Nat), x])) { s with heap := h2, toks := tk + 1 } :=
      I.turnedNew (ch := [e, it]) (fun b ob hb q => by
        have h1 : b ≠ e := fun z => hb (by simp [z])
        have h3 : b ≠ it := fun z => hb (by simp [z])
        exact (sb.2 b h1).trans (hk b ob h1 h3 q)) hf (Nat.le_refl _) made
    refine ⟨.ref s.heap.objs.size, _, I1, rfl, ⟨_, x, rfl, I.hok.fresh (Nat.le_refl _), rfl, fun ys hy => by rw [I.tuple_inj hy hq]; exact hx⟩, ⟨⟨y, ?_⟩, st'.1.at fun o q => (sb.2 it (Ne.symm hne)).trans q, hne, hai, hae⟩, fun b hb => ?_⟩
    · rw [show ((i + 1 : Nat) : Int) = (i : Int) + 1 by omega]
      exact he'
    · have hb' : b < s.heap.objs.size := by
        rcases List.mem_cons.mp hb with rfl | hb
        · exact hel
        · obtain rfl := List.mem_singleton.mp hb
          exact hil
      rw [upd_ne (Nat.ne_of_lt hb')]
      exact (hf b hb).1
  done := by
    intro X hP hw hK hc i pins s σ H E I hf st hg
    subst hP hw hK
    obtain ⟨⟨old, he⟩, hit, hne, hai, hae⟩ := st
    obtain ⟨xs, hq, hx⟩ := hg
    obtain ⟨its, rv, p, hz⟩ := I.tuple hq
    obtain ⟨f0, f1, f2, f3, f4, f5⟩ := hf it (by simp)
    have hl := rv.length
    have none_ : its.toArray[i]? = none := by simp; omega
    have D : Draws X.prog X.w X.A.in1 it [it, a] i (fun _ _ => True) (fun j h => j = i ∧ h.IsTupleIter it a i ∧ h.IsTuple a its.toArray) :=
      { live := fun j h st => let ⟨o, ho, _⟩ := st.2.1; ⟨o, ho⟩
        frame := fun j h h' st k => ⟨st.1, st.2.1.at fun o q => k it (by simp) o q, st.2.2.at fun o q => k a (by simp) o q⟩
        item := fun j s Q E hj st => absurd st.1 (Nat.ne_of_lt hj)
        done := fun s Q E st hE => wpAny_nextOf_tuple_end (by rw [show X.A.in1.handled = X.A.handled from rfl]; exact I.ok.hd hc) st.2.1 st.2.2 none_ hE }
    exact wpAny_pyNext_enum_endD D he ⟨rfl, hit, p⟩ fun h' eb => ⟨rfl, I.turned (t' := s.toks) (fun b o hb q => eb b o hb q) f0 f1 f3 f4 f5⟩
  self := fun A i s Q E st h => let ⟨⟨_, he⟩, _⟩ := st; wpAny_pyIter_enum he h
theorem walk_enumT {K : PySem.W.Frag} {a : Addr} {xs : List V} : Walk (Itet K a) xs.length (fun H => SqT K H a xs) (YPair (fun i => some (.int (i : Nat))) (fun i => xs[i]?)) := by
  refine ⟨fun i _ hi q => ⟨xs, xs[i], q, List.getElem?_eq_getElem hi⟩, fun _ q => ⟨xs, q, Nat.le_refl _⟩, fun i H v H' _ q y => ?_⟩
  obtain ⟨T, x, rfl, hT, rfl, hx⟩ := y
  exact ⟨T, .int (i : Nat), x, rfl, hT, rfl, rfl, hx xs q⟩
/-- enumerate of a list or a tuple -/
def iEnumA (K : PySem.W.Frag) (ta : TA) : TI := fun σ H R => ta σ H fun vs H1 => (∃ a xs, vs = [.ref a] ∧ SqL K H1 a xs ∧ R (Ite K a) H1) ∨ ∃ a xs, vs = [.ref a] ∧ SqT K H1 a xs ∧ R (Itet K a) H1
theorem pi_enumA {X : Cx} {K : PySem.W.Frag} {e : Expr} {ta : TA} {p pos tpos : Pos} {elts : List Expr} {kk : Nat} (hK : X.K = K) (hg : Gl X "enumerate") (hm : X.mg "enumerate" = none) (ha : PA X [e] ta) (hs : starEach [e] X.env = [(false, eval e X.env)] := by rfl) :
    PI X (.Tuple elts kk tpos) (.Call (.Name "enumerate" p) [e] [] pos) (iEnumA K ta) := by
  subst hK
  refine ⟨fun pins s σ H R I h => ?_⟩
  refine Call_ (ld_blt I hg hm boot_enumerate (PyProof.Rows.callWith_type1 (thn (ha.run pos pins s σ H _ I h) fun us s1 ⟨vs, H1, I1, r1, q1⟩ => ?_) hs rfl))
  have fresh : ∀ b, b ∈ [s1.heap.objs.size + 1, s1.heap.objs.size] → s1.heap.objs.size ≤ b := fun b hb => by
    rcases List.mem_cons.mp hb with rfl | hb
    · exact Nat.le_add_right _ _
    · obtain rfl := List.mem_singleton.mp hb
      exact Nat.le_refl _
  rcases q1 with ⟨a, xs, rfl, hq, q⟩ | ⟨a, xs, rfl, hq, q⟩
  · rw [Vals.ref1 r1]
    obtain ⟨its, rv, pl, hz⟩ := I1.list hq
    refine call_enumerate_list pl.isList fun h' he hit hsz hk => wpAny_pyIter_enum he ?_
    exact ⟨s1.heap.objs.size + 1, [s1.heap.objs.size + 1, s1.heap.objs.size], _, _, H1, rfl, I1.kept (t' := s1.toks) hk, turn_enum a _ _, ⟨⟨.none, he⟩, hit, Nat.succ_ne_self _⟩, fun b hb => I1.fpOk (fresh b hb) (I1.hok.fresh (fresh b hb)), q⟩
  · rw [Vals.ref1 r1]
    obtain ⟨its, rv, pl, hz⟩ := I1.tuple hq
    have la : a < s1.heap.objs.size := let ⟨_, e, _⟩ := pl; Heap.lt_size e
    refine call_enumT (show s1.heap.IsTuple a its.toArray from pl) fun h' he hit hk => wpAny_pyIter_enum he ?_
    exact ⟨s1.heap.objs.size + 1, [s1.heap.objs.size + 1, s1.heap.objs.size], _, _, H1, rfl, I1.kept (t' := s1.toks) hk, turn_enumT a _ _, ⟨⟨.none, he⟩, hit, Nat.succ_ne_self _, Nat.ne_of_lt la, Nat.ne_of_lt (Nat.lt_succ_of_lt la)⟩, fun b hb => I1.fpOk (fresh b hb) (I1.hok.fresh (fresh b hb)), q⟩
end Cn
set_option Elab.async false
set_option linter.all false
set_option maxRecDepth 100000
set_option maxHeartbeats 4000000
/-! x[::-1] of lists and tuples. -/
namespace Cn
open PySem PySem.Spec PyProof.Rows L2 HT
section
variable {prog : Program} {w : World} {A : Around} {E : Value → Shared → Prop} {s : Shared}
theorem applied_back {sl : Addr} {vl vu vs : Value} {n : Nat} {Q : Int × Int × Nat → Shared → Prop} (hs : s.heap.IsSliceOf sl vl vu vs) (pl : IsPart vl none) (pu : IsPart vu none) (ps : IsPart vs (some (-1))) (h : Q ((n : Int) - 1, -1, n) s) :
    wpAny (model prog w) A (Builtin.Slice.sliceApplied (.ref sl) (pure (n : Int))) Q E s := by
  obtain ⟨os, ho, _, hd⟩ := hs
  unfold Builtin.Slice.sliceApplied Builtin.Slice.sliceFields
  refine wpAny_bind (wpAny_bind (wpAny_field ho hd (x := vl) rfl (wpAny_bind (wpAny_field ho hd (x := vu) rfl (wpAny_bind (wpAny_field ho hd (x := vs) rfl (wpAny_pure ?_)))))))
  refine wpAny_bind (slicePart_ ps ?_)
  refine wpAny_bind (slicePart_ pl (wpAny_bind (slicePart_ pu (wpAny_bind (wpAny_pure (wpAny_pure ?_))))))
  have e : Builtin.Slice.slicePlaces ((n : Int) - 1) (-1) (-1) = n := by
    unfold Builtin.Slice.slicePlaces
    simp only [show ¬ ((-1 : Int) > 0) by decide, if_false]
    split
    · rw [show (-(-1) : Int) = 1 by decide, Int.ediv_one]
      omega
    · omega
  have e2 : Builtin.Slice.sliceAdjust none none (-1) (n : Int) = ((n : Int) - 1, -1) := rfl
  show Q ((Builtin.Slice.sliceAdjust none none (-1) (n : Int)).1, (-1), Builtin.Slice.slicePlaces (Builtin.Slice.sliceAdjust none none (-1) (n : Int)).1 (Builtin.Slice.sliceAdjust none none (-1) (n : Int)).2 (-1)) s
  rw [e2]
  show Q ((n : Int) - 1, -1, Builtin.Slice.slicePlaces ((n : Int) - 1) (-1) (-1)) s
  rw [e]
  exact h
theorem back_pick (xs : Array Value) : ((List.range xs.size).filterMap fun (k : Nat) => xs[((xs.size : Int) - 1 + (k : Int) * -1).toNat]?) = xs.toList.reverse := by
  rw [← PySem.W.krv_all xs, ← List.filterMap_reverse, ← PySem.W.krv_range, List.filterMap_map]
  have key : ∀ (l : List Nat), (∀ k ∈ l, k < xs.size) → (l.filterMap fun (k : Nat) => xs[((xs.size : Int) - 1 + (k : Int) * -1).toNat]?) = l.filterMap ((xs[·]?) ∘ fun k => xs.size - 1 - k) := by
    intro l
    induction l with
    | nil => intro _; rfl
    | cons k l ih =>
      intro h
      have hk := h k List.mem_cons_self
      have e : ((xs.size : Int) - 1 + (k : Int) * -1).toNat = xs.size - 1 - k := by omega
      rw [List.filterMap_cons, List.filterMap_cons, ih fun j hj => h j (List.mem_cons_of_mem _ hj), e]
      rfl
  exact key _ fun k hk => List.mem_range.mp hk
theorem tuple_back {t sl : Addr} {items : Array Value} {vl vu vs : Value} {Q : Value → Shared → Prop} (ht : IsTup s.heap t items) (hs : s.heap.IsSliceOf sl vl vu vs) (pl : IsPart vl none) (pu : IsPart vu none) (ps : IsPart vs (some (-1))) (hz : items.size ≤ sizeLine)
    (h : Q (.ref s.heap.objs.size) { s with heap := s.heap.push { cls := .type "tuple", data := .seq items.toList.reverse.toArray } }) : wpAny (model prog w) A (getItem (.ref t) (.ref sl)) Q E s := by
  have hT : s.TypeIs (.ref sl) "slice" := let ⟨os, ho, hc, _⟩ := hs; ⟨os, ho, hc⟩
  unfold getItem
  try with_reducible refine wpAny_holding ?_
  first | refine wpAny_bind (wpAny_pure ?_) | skip
  refine wpAny_bind (wpAny_sequenceKey ht.typeIs (by decide) (wpAny_bind (wpAny_callSpecial?_slot (name := Str.ofString "__getitem__") ht.typeIs PyProof.Rows.slot_tuple_getitem (wpAny_call_entry PyProof.Rows.slot_tuple_getitem ht.typeIs entry_tuple_getitem ?_ (args_tuple_getitem _ _)))))
  refine wpAny_bind (m := Builtin.Tuple.tupleItemsOf (.ref t)) (tupleItemsOf_ ht (wpAny_bind (wpAny_typeOf hT ?_)))
  rw [if_pos (by decide)]
  refine wpAny_bind (applied_back hs pl pu ps ?_)
  dsimp only
  have no : (((items.size : Int) - 1 == 0) && ((-1 : Int) == 1) && (items.size == items.size)) = false := by
    rw [show ((-1 : Int) == 1) = false by decide, Bool.and_false, Bool.false_and]
  rw [no]
  rw [back_pick]
  refine wpAny_bind (m := Builtin.Tuple.tupleExact items.toList.reverse.toArray) (wpAny_newObj_type (wpAny_pure ⟨_, rfl, ?_⟩) (by show items.toList.reverse.toArray.size ≤ sizeLine; rw [List.size_toArray, List.length_reverse, Array.length_toList]; exact hz))
  exact wpAny_pure h
end
def rRev (K : PySem.W.Frag) : V → Hp → VK → Prop := fun x H Q => ∃ a xs, x = .ref a ∧ ((SqL K H a xs ∧ ∀ p, H p = none → Q (.ref p) (upd H p (.lst xs.reverse))) ∨ (TupZ K H a xs ∧ ∀ p o, H p = none → o.dict = none → Q (.ref p) (upd H p (.frz o (.tup xs.reverse)))))
def tRevA (K : PySem.W.Frag) (te : TE) : TE := fun σ H Q => te σ H fun x H1 => rRev K x H1 Q
/-- x[::-1] -/
theorem pe_revA {X : Cx} {K : PySem.W.Frag} {e : Expr} {te : TE} {k : Nat} {p1 p2 p3 pos : Pos} (hK : X.K = K) (he : PE X e te) : PE X (.Subscript e (.Slice none none (some (.UnaryOp .USub (.Constant (.int 1) k p1) p2)) p3) pos) (tRevA K te) := by
  subst hK
  refine ⟨fun pins s σ H Q I h => ?_⟩
  refine Subscript_ (thn (he.run pins s σ H _ I h) fun v s1 ⟨x, H1, I1, r1, q1⟩ => ?_)
  obtain ⟨a, xs, rfl, q1⟩ := q1
  cases r1
  have minus : PO X (some (.UnaryOp .USub (.Constant (.int 1) k p1) p2)) (tPart (tUn (rU fun i => .int (-i)) (tC (.int 1)))) := po_some (pe_un un_neg pe_int)
  refine wpAny_Slice (thn (po_none.run pins s1 σ H1 (fun o H2 => o = none ∧ H2 = H1) I1 ⟨rfl, rfl⟩) fun vl s2 ⟨l, H2, I2, pl, e1, e2⟩ => ?_)
  subst e1 e2
  refine thn (po_none.run pins s2 σ H2 (fun o H3 => o = none ∧ H3 = H2) I2 ⟨rfl, rfl⟩) fun vu s3 ⟨u, H3, I3, pu, e3, e4⟩ => ?_
  subst e3 e4
  refine thn (minus.run pins s3 σ H3 (fun o H4 => o = some (-1) ∧ H4 = H3) I3 ⟨1, rfl, -1, rfl, rfl, rfl⟩) fun vs s4 ⟨o, H4, I4, ps, e5, e6⟩ => ?_
  subst e5 e6
  have I5 : Inv X pins σ H4 { s4 with heap := s4.heap.push { cls := .type "slice", data := .fields #[vl, vu, vs] } } := I4.kept (t' := s4.toks) fun b ob q => Heap.get?_push_of_some _ q
  show wpAny (model X.prog X.w) X.A (subscriptTail e (.Slice none none (some (.UnaryOp .USub (.Constant (.int 1) k p1) p2)) p3) (.ref a) (.ref s4.heap.objs.size)) (EP X pins σ Q) X.xe { s4 with heap := s4.heap.push { cls := .type "slice", data := .fields #[vl, vu, vs] } }
  rcases q1 with ⟨hx, q⟩ | ⟨hx, q⟩
  · obtain ⟨its, r, ht, hz⟩ := I5.list hx
    have hlen := r.length
    refine tail_any (ops := [.ref a, .ref s4.heap.objs.size]) ht.isList.typeIs (PySem.slot_list_getitem.lookup) (wpAny_getItem_list_slice ht.isList (Heap.IsSliceOf.new _ vl vu vs) pl pu ps (by decide) ?_ (by rw [List.size_toArray]; omega)) (by with_unfolding_all rfl)
    rw [PySem.W.krv_pick]
    exact ⟨.ref _, _, I5.laid (t' := s4.toks) (o := .lst xs.reverse) (fun b ob q => Heap.get?_push_of_some _ q) (Nat.le_refl _) ⟨by rw [List.length_reverse]; exact hz, _, 0, r.reverse, Heap.get?_push_size _ rfl⟩, rfl, q _ (I5.hok.fresh (Nat.le_refl _))⟩
  · obtain ⟨its, r, ht, hz⟩ := I5.tuple hx.sq
    have hlen := r.length
    refine tail_any (ops := [.ref a, .ref s4.heap.objs.size]) (IsTup.typeIs ht) (PyProof.Rows.slot_tuple_getitem.lookup) (tuple_back ht (Heap.IsSliceOf.new _ vl vu vs) pl pu ps (by rw [List.size_toArray]; omega) ?_) (by with_unfolding_all rfl)
    exact ⟨.ref _, _, laid_tup I5 r.reverse (by rw [List.length_reverse, ← hlen]; exact hz), rfl, q _ _ (I5.hok.fresh (Nat.le_refl _)) rfl⟩
end Cn
set_option Elab.async false
set_option linter.all false
set_option maxRecDepth 100000
set_option maxHeartbeats 4000000
/-! Data-level wp: data, what a value reads as, the frame of a run. -/
namespace Dw
open PySem PySem.Spec PyProof.Rows L2 Cn

inductive Dt where
  | none
  | bool (b : Bool)
  | int (i : Int)
  | str (s : Str)
  | list (xs : List Dt)
  | tuple (xs : List Dt)
  | dict (kvs : List (Key × Dt))
  | obj (c : Str) (fs : List (Str × Dt))
  | err (c : Str) (fs : List (Str × Dt))
instance : Inhabited Dt := ⟨.none⟩

/-- one of two, by a truth -/
def br (k : Bool) (A B : Prop) : Prop := match k with
  | true => A
  | false => B
/-- what stands for the program: the written part, the module's names, the state of a law's draws -/
structure Cd where
  K : PySem.W.Frag
  mg : Str → Option Value
  fr : Option (Addr × Lg × Addr) := Option.none
  E : XK := fun _ _ _ => False

mutual
inductive Rz (K : PySem.W.Frag) (mg : Str → Option Value) (H : Hp) : V → Dt → Prop
  | non : Rz K mg H .non .none
  | bl (b : Bool) : Rz K mg H (.bl b) (.bool b)
  | int (i : Int) : Rz K mg H (.int i) (.int i)
  | str (x : Str) : x.length ≤ 100000 → Rz K mg H (.str x) (.str x)
  | lst {a : Addr} {xs : List V} {ds : List Dt} : ds.length ≤ 100000 → H a = some (.lst xs) → RzAll K mg H xs ds → Rz K mg H (.ref a) (.list ds)
  | tup {a : Addr} {xs : List V} {ds : List Dt} : ds.length ≤ 100000 → TupZ K H a xs → RzAll K mg H xs ds → Rz K mg H (.ref a) (.tuple ds)
  | dct {a : Addr} {kvs : List (Key × V)} {ds : List (Key × Dt)} : ds.length ≤ 100000 → H a = some (.dK kvs) → RzKV K mg H kvs ds → Rz K mg H (.ref a) (.dict ds)
  | obj {c : Str} {C a dx : Addr} {fs : List (Str × V)} {ds : List (Str × Dt)} : mg c = some (.ref C) → H a = some (.ins C dx fs) → RzFs K mg H fs ds → Rz K mg H (.ref a) (.obj c ds)
  | errP {c : Str} {C a : Addr} : mg c = some (.ref C) → H a = some (ExO (.ref C) a) → Rz K mg H (.ref a) (.err c [])
  | errN {c : Str} {C a dx : Addr} {fs : List (Str × V)} {ds : List (Str × Dt)} : mg c = some (.ref C) → H a = some (exo a C (some dx)) → H dx = some (exd dx fs) → RzFs K mg H fs ds → Rz K mg H (.ref a) (.err c ds)
  | errC {c : Str} {C a : Addr} : mg c = some (.ref C) → H a = some (ErO (.ref C) Option.none a) → Rz K mg H (.ref a) (.err c [])
  | errD {c : Str} {C a dd : Addr} {fs : List (Str × V)} {ds : List (Str × Dt)} : mg c = some (.ref C) → H a = some (ErO (.ref C) (some dd) a) → H dd = some (.xd fs) → RzFs K mg H fs ds → Rz K mg H (.ref a) (.err c ds)
inductive RzAll (K : PySem.W.Frag) (mg : Str → Option Value) (H : Hp) : List V → List Dt → Prop
  | nil : RzAll K mg H [] []
  | cons {v : V} {vs : List V} {d : Dt} {ds : List Dt} : Rz K mg H v d → RzAll K mg H vs ds → RzAll K mg H (v :: vs) (d :: ds)
inductive RzKV (K : PySem.W.Frag) (mg : Str → Option Value) (H : Hp) : List (Key × V) → List (Key × Dt) → Prop
  | nil : RzKV K mg H [] []
  | cons {k : Key} {v : V} {vs : List (Key × V)} {d : Dt} {ds : List (Key × Dt)} : Rz K mg H v d → RzKV K mg H vs ds → RzKV K mg H ((k, v) :: vs) ((k, d) :: ds)
inductive RzFs (K : PySem.W.Frag) (mg : Str → Option Value) (H : Hp) : List (Str × V) → List (Str × Dt) → Prop
  | nil : RzFs K mg H [] []
  | cons {k : Str} {v : V} {vs : List (Str × V)} {d : Dt} {ds : List (Str × Dt)} : Rz K mg H v d → RzFs K mg H vs ds → RzFs K mg H ((k, v) :: vs) ((k, d) :: ds)
end
variable {K : PySem.W.Frag} {mg : Str → Option Value}
mutual
theorem rz_ex {F G : Hp} (e : Ex F G) : ∀ {v : V} {d : Dt}, Rz K mg F v d → Rz K mg G v d
  | _, _, .non => .non
  | _, _, .bl b => .bl b
  | _, _, .int i => .int i
  | _, _, .str x l => .str x l
  | _, _, .lst l h t => .lst l (e _ _ h) (rza_ex e t)
  | _, _, .tup l h t => .tup l (h.ex e) (rza_ex e t)
  | _, _, .dct l h t => .dct l (e _ _ h) (rzk_ex e t)
  | _, _, .obj m h t => .obj m (e _ _ h) (rzf_ex e t)
  | _, _, .errP m h => .errP m (e _ _ h)
  | _, _, .errN m h k t => .errN m (e _ _ h) (e _ _ k) (rzf_ex e t)
  | _, _, .errC m h => .errC m (e _ _ h)
  | _, _, .errD m h k t => .errD m (e _ _ h) (e _ _ k) (rzf_ex e t)
theorem rza_ex {F G : Hp} (e : Ex F G) : ∀ {v : List V} {d : List Dt}, RzAll K mg F v d → RzAll K mg G v d
  | _, _, .nil => .nil
  | _, _, .cons h t => .cons (rz_ex e h) (rza_ex e t)
theorem rzk_ex {F G : Hp} (e : Ex F G) : ∀ {v : List (Key × V)} {d : List (Key × Dt)}, RzKV K mg F v d → RzKV K mg G v d
  | _, _, .nil => .nil
  | _, _, .cons h t => .cons (rz_ex e h) (rzk_ex e t)
theorem rzf_ex {F G : Hp} (e : Ex F G) : ∀ {v : List (Str × V)} {d : List (Str × Dt)}, RzFs K mg F v d → RzFs K mg G v d
  | _, _, .nil => .nil
  | _, _, .cons h t => .cons (rz_ex e h) (rzf_ex e t)
end
theorem rza_len {F : Hp} : ∀ {vs : List V} {ds : List Dt}, RzAll K mg F vs ds → vs.length = ds.length
  | _, _, .nil => rfl
  | _, _, .cons _ t => by rw [List.length_cons, List.length_cons, rza_len t]
theorem rza_get {F : Hp} : ∀ {vs : List V} {ds : List Dt} {i : Nat} {v : V}, RzAll K mg F vs ds → vs[i]? = some v → ∃ d, ds[i]? = some d ∧ Rz K mg F v d
  | _, _, _, _, .nil, e => by simp at e
  | _, _, 0, _, .cons h _, e => by simp at e; subst e; exact ⟨_, rfl, h⟩
  | _, _, i + 1, v, .cons _ t, e => by
    obtain ⟨d, h1, h2⟩ := rza_get (i := i) (v := v) t (by simpa using e)
    exact ⟨d, by simpa using h1, h2⟩
theorem rza_get' {F : Hp} : ∀ {vs : List V} {ds : List Dt} {i : Nat} {d : Dt}, RzAll K mg F vs ds → ds[i]? = some d → ∃ v, vs[i]? = some v ∧ Rz K mg F v d
  | _, _, _, _, .nil, e => by simp at e
  | _, _, 0, _, .cons h _, e => by simp at e; subst e; exact ⟨_, rfl, h⟩
  | _, _, i + 1, d, .cons _ t, e => by
    obtain ⟨v, h1, h2⟩ := rza_get' (i := i) (d := d) t (by simpa using e)
    exact ⟨v, by simpa using h1, h2⟩
theorem rza_app {F : Hp} : ∀ {vs ws : List V} {ds es : List Dt}, RzAll K mg F vs ds → RzAll K mg F ws es → RzAll K mg F (vs ++ ws) (ds ++ es)
  | _, _, _, _, .nil, h => h
  | _, _, _, _, .cons h t, k => .cons h (rza_app t k)
theorem rza_bools {F : Hp} : ∀ {vs : List V} {bs : List Bool}, RzAll K mg F vs (bs.map .bool) → vs = bs.map V.bl
  | _, [], .nil => rfl
  | _, _ :: bs, .cons h t => by
    cases h
    rw [rza_bools t]
    rfl
theorem rza_ints {F : Hp} : ∀ {vs : List V} {bs : List Int}, RzAll K mg F vs (bs.map .int) → vs = bs.map V.int
  | _, [], .nil => rfl
  | _, _ :: bs, .cons h t => by
    cases h
    rw [rza_ints t]
    rfl
theorem rza_strs {F : Hp} : ∀ {vs : List V} {bs : List Str}, RzAll K mg F vs (bs.map .str) → vs = bs.map V.str
  | _, [], .nil => rfl
  | _, _ :: bs, .cons h t => by
    cases h
    rw [rza_strs t]
    rfl
theorem rza_drop {F : Hp} : ∀ {vs : List V} {ds : List Dt} (n : Nat), RzAll K mg F vs ds → RzAll K mg F (vs.drop n) (ds.drop n)
  | _, _, 0, h => h
  | _, _, n + 1, .nil => .nil
  | _, _, n + 1, .cons _ t => rza_drop n t
theorem rza_take {F : Hp} : ∀ {vs : List V} {ds : List Dt} (n : Nat), RzAll K mg F vs ds → RzAll K mg F (vs.take n) (ds.take n)
  | _, _, 0, h => .nil
  | _, _, n + 1, .nil => .nil
  | _, _, n + 1, .cons h t => .cons h (rza_take n t)

/-! ### plain data, as the library knows it -/
mutual
def Dt.pl : Dt → Option PyData
  | .none => some .none
  | .bool b => some (.bool b)
  | .int i => some (.int i)
  | .str s => some (.str s)
  | .list xs => (plAll xs).map .list
  | .tuple xs => (plAll xs).map .tuple
  | .dict _ => Option.none
  | .obj _ _ => Option.none
  | .err _ _ => Option.none
def plAll : List Dt → Option (List PyData)
  | [] => some []
  | x :: xs => match x.pl, plAll xs with
    | some y, some ys => some (y :: ys)
    | _, _ => Option.none
end
mutual
theorem rz_dz {F : Hp} : ∀ {v : V} {d : Dt} {e : PyData}, Rz K mg F v d → d.pl = some e → Dz K F v e ∧ e.plain = true
  | _, _, _, .non, h => by cases h; exact ⟨.non, by simp [PyData.plain]⟩
  | _, _, _, .bl b, h => by cases h; exact ⟨.bl b, by simp [PyData.plain]⟩
  | _, _, _, .int i, h => by cases h; exact ⟨.int i, by simp [PyData.plain]⟩
  | _, _, _, .str i _, h => by cases h; exact ⟨.str i, by simp [PyData.plain]⟩
  | _, _, _, .lst (ds := ds) _ s t, h => by
    unfold Dt.pl at h
    obtain ⟨ys, h1, h2⟩ := Option.map_eq_some_iff.mp h
    subst h2
    obtain ⟨a, b⟩ := rza_dz t h1
    exact ⟨.lst (SqL.of s) a, by simpa [PyData.plain] using b⟩
  | _, _, _, .tup (ds := ds) _ s t, h => by
    unfold Dt.pl at h
    obtain ⟨ys, h1, h2⟩ := Option.map_eq_some_iff.mp h
    subst h2
    obtain ⟨a, b⟩ := rza_dz t h1
    exact ⟨.tup s a, by simpa [PyData.plain] using b⟩
  | _, _, _, .dct _ _ _, h => by simp [Dt.pl] at h
  | _, _, _, .obj _ _ _, h => by simp [Dt.pl] at h
  | _, _, _, .errP _ _, h => by simp [Dt.pl] at h
  | _, _, _, .errN _ _ _ _, h => by simp [Dt.pl] at h
  | _, _, _, .errC _ _, h => by simp [Dt.pl] at h
  | _, _, _, .errD _ _ _ _, h => by simp [Dt.pl] at h
theorem rza_dz {F : Hp} : ∀ {vs : List V} {ds : List Dt} {es : List PyData}, RzAll K mg F vs ds → plAll ds = some es → DzAll K F vs es ∧ PyData.plainAll es = true
  | _, _, _, .nil, h => by cases h; exact ⟨.nil, by simp [PyData.plainAll]⟩
  | _, _, _, .cons (d := d) (ds := ds) r t, h => by
    unfold plAll at h
    split at h
    · rename_i y ys h1 h2
      cases h
      obtain ⟨a1, b1⟩ := rz_dz r h1
      obtain ⟨a2, b2⟩ := rza_dz t h2
      exact ⟨.cons a1 a2, by simp only [PyData.plainAll, b1, b2, Bool.and_self]⟩
    · cases h
end

/-! ### the frame of a run -/
abbrev Tri := Option (Addr × Lg × Addr)
def FrOk (fr : Tri) (b : Nat) (F H : Hp) : Prop := match fr with
  | Option.none => Ex F H
  | some (st, lg, cl) => Off st lg cl b F H
def FrRel (fr : Tri) (F H F2 H2 : Hp) : Prop := match fr with
  | Option.none => Grow F H F2 H2
  | some (st, lg, _) => GM st lg F H F2 H2
def Apart (fr : Tri) (a : Addr) : Prop := match fr with
  | Option.none => True
  | some (st, lg, cl) => Ow st lg cl a
theorem FrOk.z {fr : Tri} {b : Nat} {F H : Hp} (h : FrOk fr b F H) : Ex F H := match fr, h with
  | Option.none, h => h
  | some (_, _, _), h => Off.z h
theorem FrOk.grow {fr : Tri} {b : Nat} {F H F2 H2 : Hp} (h : FrOk fr b F H) (g : Grow F H F2 H2) : FrOk fr b F2 H2 := match fr, h with
  | Option.none, _ => Grow.fh g
  | some (_, _, _), h => Off.grow h g
theorem FrRel.refl {fr : Tri} {F H : Hp} (z : Ex F H) : FrRel fr F H F H := match fr with
  | Option.none => Grow.refl z
  | some (_, _, _) => GM.refl z
theorem FrRel.of {fr : Tri} {F H F2 H2 : Hp} (g : Grow F H F2 H2) : FrRel fr F H F2 H2 := match fr with
  | Option.none => g
  | some (_, _, _) => Grow.gm g
theorem FrRel.trans {fr : Tri} {F H F1 H1 F2 H2 : Hp} (a : FrRel fr F H F1 H1) (b : FrRel fr F1 H1 F2 H2) : FrRel fr F H F2 H2 := match fr, a, b with
  | Option.none, a, b => Grow.trans a b
  | some (_, _, _), a, b => GM.trans a b
theorem FrRel.ff {fr : Tri} {F H F2 H2 : Hp} (a : FrRel fr F H F2 H2) : Ex F F2 := match fr, a with
  | Option.none, a => Grow.ff a
  | some (_, _, _), a => GM.ff a
theorem FrRel.fh {fr : Tri} {F H F2 H2 : Hp} (a : FrRel fr F H F2 H2) : Ex F2 H2 := match fr, a with
  | Option.none, a => Grow.fh a
  | some (_, _, _), a => GM.fh a
theorem FrRel.kp {fr : Tri} {F H F2 H2 : Hp} (a : FrRel fr F H F2 H2) {b : Addr} {o : HO} (t : ¬ IsTbl o) (h : H b = some o) : ∃ o', ¬ IsTbl o' ∧ H2 b = some o' := match fr, a with
  | Option.none, a => ⟨o, t, Grow.hh a b o h⟩
  | some (_, _, _), a => GM.kp a b o t h
theorem FrRel.nw {fr : Tri} {F H F2 H2 : Hp} (a : FrRel fr F H F2 H2) {b : Addr} {o : HO} (t : ¬ IsTbl o) (h : H b = some o) (n : F b = Option.none) : F2 b = Option.none := match fr, a with
  | Option.none, a => Grow.nw a b o h n
  | some (_, _, _), a => GM.nw a b o t h n
/-- free, or (with draws) a table -/
def N0 (fr : Tri) (H : Hp) (a : Addr) : Prop := match fr with
  | Option.none => H a = Option.none
  | some _ => ∀ o, H a = some o → IsTbl o
theorem N0.of {fr : Tri} {H : Hp} {a : Addr} (h : H a = Option.none) : N0 fr H a := match fr with
  | Option.none => h
  | some _ => fun o e => by rw [h] at e; cases e
theorem N0.no {fr : Tri} {H : Hp} {a : Addr} {o : HO} (h : N0 fr H a) (t : ¬ IsTbl o) : H a ≠ some o := match fr, h with
  | Option.none, h => fun e => by
    have h : H a = Option.none := h
    rw [h] at e
    cases e
  | some _, h => fun e => t (h o e)
/-- what is free now was free -/
theorem FrRel.back {fr : Tri} {F H F2 H2 : Hp} (a : FrRel fr F H F2 H2) {b : Addr} (h : N0 fr H2 b) : N0 fr H b := match fr, a, h with
  | Option.none, a, h => by
    show H b = Option.none
    cases e : H b with
    | none => rfl
    | some o =>
      have h : H2 b = Option.none := h
      rw [Grow.hh a b o e] at h
      cases h
  | some (st, lg, cl), a, h => fun o e => Classical.byContradiction fun t => by
    obtain ⟨o', t', e'⟩ := GM.kp a b o t e
    exact t' (h o' e')
/-- what is one's own stays -/
theorem FrRel.own {fr : Tri} {F H F2 H2 : Hp} (a : FrRel fr F H F2 H2) {b : Addr} {o : HO} (t : ¬ IsTbl o) (w : Apart fr b) (h : H b = some o) : H2 b = some o := match fr, a, w with
  | Option.none, a, _ => Grow.hh a b o h
  | some (st, lg, cl), a, w => GM.fr a b o (Ow.a w) (Ow.b w) t h
theorem Apart.new {fr : Tri} {b : Nat} {F H : Hp} (h : FrOk fr b F H) {a : Addr} (n : H a = Option.none) : Apart fr a := match fr, h with
  | Option.none, _ => True.intro
  | some (_, _, _), h => Off.ow h n
/-- an own object changes -/
theorem FrOk.mut {fr : Tri} {b : Nat} {F H : Hp} {a : Addr} {o : HO} (h : FrOk fr b F H) (w : Apart fr a) (n : F a = Option.none) (hc : ∀ q, H a ≠ some (LamX.CodeO a q)) : FrOk fr b F (upd H a o) := match fr, h, w with
  | Option.none, h, _ => Evl.Ex.mut h n
  | some (_, _, _), h, w => Off.own h w n hc
theorem FrRel.mut {fr : Tri} {F H F2 H2 : Hp} {a : Addr} {o : HO} (g : FrRel fr F H F2 H2) (w : Apart fr a) (n : F2 a = Option.none) (m : N0 fr H a) : FrRel fr F H F2 (upd H2 a o) := match fr, g, w, m with
  | Option.none, g, _, m => ⟨(Grow.ff g), Evl.Ex.mut (Grow.fh g) n, Evl.Ex.mut (Grow.hh g) m, (Grow.nw g), (Grow.nt g)⟩
  | some (st, lg, cl), g, w, m => GM.own g w n m
theorem ex_frz {F H : Hp} {a : Addr} {o : HO} (z : Ex F H) (h : H a = some o) : Ex (upd F a o) H := fun b u e => by
  by_cases c : b = a
  · subst c
    rw [upd_same] at e
    rw [← e]
    exact h
  · rw [upd_ne c] at e
    exact z b u e
theorem nt_frz {F : Hp} {a : Addr} {o : HO} (t : ¬ IsTbl o) (h : ∀ b ps, F b ≠ some (.tbl ps)) : ∀ b ps, upd F a o b ≠ some (.tbl ps) := fun b ps e => by
  by_cases c : b = a
  · subst c
    rw [upd_same] at e
    exact t ⟨ps, Option.some.inj e⟩
  · rw [upd_ne c] at e
    exact h b ps e
/-- an own object is frozen -/
theorem FrRel.frz {fr : Tri} {F H F2 H2 : Hp} {a : Addr} {o : HO} (g : FrRel fr F H F2 H2) (w : Apart fr a) (n : F2 a = Option.none) (m : N0 fr H a) (t0 : ¬ IsTbl o) (h : H2 a = some o) : FrRel fr F H (upd F2 a o) H2 := match fr, g, w, m with
  | Option.none, g, _, m => ⟨(Grow.ff g).trans (Evl.Ex.new n), ex_frz (Grow.fh g) h, (Grow.hh g), fun b u e q => by rw [upd_ne (ne_of_none e m)]; exact (Grow.nw g) b u e q, fun hn => nt_frz t0 ((Grow.nt g) hn)⟩
  | some (st, lg, cl), g, w, m => ⟨(GM.ff g).trans (Evl.Ex.new n), ex_frz (GM.fh g) h, (GM.fr g), fun b u t e q => by
    have ne : b ≠ a := fun z => t (m u (z ▸ e))
    rw [upd_ne ne]
    exact (GM.nw g) b u t e q, (GM.kp g), fun p hp q => ⟨(GM.tk g p hp q).1, fun q2 => by rw [upd_ne (Ow.d w p hp).symm]; exact (GM.tk g p hp q).2 q2⟩, fun hn => nt_frz t0 ((GM.nt g) hn)⟩
theorem FrOk.frz {fr : Tri} {b : Nat} {F H : Hp} {a : Addr} {o : HO} (g : FrOk fr b F H) (w : Apart fr a) (t0 : ¬ IsTbl o) (h : H a = some o) : FrOk fr b (upd F a o) H := match fr, g, w with
  | Option.none, g, _ => ex_frz g h
  | some (st, lg, cl), g, w => ⟨ex_frz (Off.z g) h, by rw [upd_ne (Ne.symm (Ow.a w))]; exact Off.s g, by rw [upd_ne (Ne.symm (Ow.b w))]; exact Off.l g, Off.ok g, Off.tb g, fun p hp => by rw [upd_ne (Ow.d w p hp).symm]; exact Off.tf g p hp, nt_frz t0 (Off.nt g)⟩
end Dw
set_option Elab.async false
set_option linter.all false
set_option maxRecDepth 100000
set_option maxHeartbeats 4000000
/-! Data-level wp: the world of a run, expressions. -/
namespace Dw
open PySem PySem.Spec PyProof.Rows L2 Cn

/-- what a slot holds: frozen data, an object of one's own, the state of the draws -/
inductive Sv
  | sh (d : Dt)
  | ow (d : Dt)
  | st
  | sc (n : Nat)
abbrev Rho := List (Option Sv)
def at_ : Rho → Nat → Option Sv
  | [], _ => none
  | s :: _, 0 => s
  | _ :: ρ, n + 1 => at_ ρ n
def put : Rho → Nat → Option Sv → Rho
  | [], _, _ => []
  | _ :: ρ, 0, x => x :: ρ
  | s :: ρ, n + 1, x => s :: put ρ n x
theorem put_len : ∀ (ρ : Rho) (i : Nat) (x : Option Sv), (put ρ i x).length = ρ.length
  | [], _, _ => rfl
  | _ :: _, 0, _ => rfl
  | _ :: ρ, n + 1, x => by
    show (put ρ n x).length + 1 = ρ.length + 1
    rw [put_len ρ n x]
theorem at_put : ∀ {ρ : Rho} {i j : Nat} {x : Option Sv} {s : Sv}, at_ (put ρ i x) j = some s → (j = i ∧ i < ρ.length ∧ x = some s) ∨ (j ≠ i ∧ at_ ρ j = some s)
  | [], _, _, _, _, h => by cases h
  | _ :: ρ, 0, 0, x, s, h => .inl ⟨rfl, Nat.zero_lt_succ _, h⟩
  | _ :: ρ, 0, j + 1, x, s, h => .inr ⟨Nat.succ_ne_zero _, h⟩
  | _ :: ρ, i + 1, 0, x, s, h => .inr ⟨(Nat.succ_ne_zero _).symm, h⟩
  | _ :: ρ, i + 1, j + 1, x, s, h => by
    rcases at_put (ρ := ρ) (i := i) (j := j) h with ⟨a, b, c⟩ | ⟨a, b⟩
    · exact .inl ⟨by omega, Nat.succ_lt_succ b, c⟩
    · exact .inr ⟨by omega, b⟩
theorem at_lt : ∀ {ρ : Rho} {i : Nat} {s : Sv}, at_ ρ i = some s → i < ρ.length
  | [], _, _, h => by cases h
  | _ :: _, 0, _, _ => Nat.zero_lt_succ _
  | _ :: ρ, i + 1, s, h => Nat.succ_lt_succ (at_lt (ρ := ρ) h)
/-- the object at a, one's own, as data -/
def OwAt (c : Cd) (F H : Hp) (a : Addr) : Dt → Prop
  | .list ds => ds.length ≤ 100000 ∧ ∃ vs, H a = some (.lst vs) ∧ RzAll c.K c.mg F vs ds
  | .dict ds => ds.length ≤ 100000 ∧ ∃ kv, H a = some (.dK kv) ∧ RzKV c.K c.mg F kv ds
  | .obj n ds => ∃ C dx fs, c.mg n = some (.ref C) ∧ H a = some (.ins C dx fs) ∧ RzFs c.K c.mg F fs ds
  | _ => False
structure Own (c : Cd) (H0 F : Hp) (a : Addr) : Prop where
  nf : F a = Option.none
  n0 : N0 c.fr H0 a
  ap : Apart c.fr a
def SvOk (c : Cd) (H0 F H : Hp) (σ : L2.St) (i : Nat) : Sv → Prop
  | .sh d => ∃ v, σ[i]? = some (some v) ∧ Rz c.K c.mg F v d
  | .ow d => ∃ a, σ[i]? = some (some (.ref a)) ∧ OwAt c F H a d ∧ Own c H0 F a
  | .st => ∃ st lg cl, c.fr = some (st, lg, cl) ∧ σ[i]? = some (some (.ref st))
  | .sc n => ∃ a xs, σ[i]? = some (some (.ref a)) ∧ SqL c.K F a xs ∧ xs.length = n
structure Wd (c : Cd) (F0 H0 : Hp) (ρ : Rho) (b : Nat) (F H : Hp) (σ : L2.St) : Prop where
  ok : FrOk c.fr b F H
  rel : FrRel c.fr F0 H0 F H
  len : σ.length = ρ.length
  sl : ∀ i s, at_ ρ i = some s → SvOk c H0 F H σ i s
  dj : ∀ i j d e, i ≠ j → at_ ρ i = some (.ow d) → at_ ρ j = some (.ow e) → σ[i]? ≠ σ[j]?
/-- an object that is neither a table nor a code object -/
def Plain (a : Addr) (o : HO) : Prop := ¬ IsTbl o ∧ ∀ q, o ≠ LamX.CodeO a q
theorem plain_lst {a : Addr} {xs : List V} : Plain a (.lst xs) := ⟨tbl_lst, fun q e => by unfold LamX.CodeO at e; cases e⟩
theorem plain_dK {a : Addr} {xs : List (Key × V)} : Plain a (.dK xs) := ⟨tbl_dK, fun q e => by unfold LamX.CodeO at e; cases e⟩
theorem plain_ins {a C dx : Addr} {fs : List (Str × V)} : Plain a (.ins C dx fs) := ⟨tbl_ins, fun q e => by unfold LamX.CodeO at e; cases e⟩
theorem OwAt.some {c : Cd} {F H : Hp} {a : Addr} {d : Dt} (h : OwAt c F H a d) : ∃ o, H a = some o ∧ Plain a o := by
  cases d with
  | list ds => obtain ⟨_, vs, h, _⟩ := h; exact ⟨_, h, plain_lst⟩
  | dict ds => obtain ⟨_, vs, h, _⟩ := h; exact ⟨_, h, plain_dK⟩
  | obj n ds => obtain ⟨C, dx, fs, _, h, _⟩ := h; exact ⟨_, h, plain_ins⟩
  | _ => exact h.elim
theorem OwAt.code {c : Cd} {F H : Hp} {a : Addr} {d : Dt} (h : OwAt c F H a d) (q : Str) : H a ≠ Option.some (LamX.CodeO a q) := fun e => by
  obtain ⟨o, h1, _, h2⟩ := h.some
  rw [h1] at e
  exact h2 q (Option.some.inj e)
theorem OwAt.mono {c : Cd} {F H F2 H2 : Hp} {a : Addr} {d : Dt} (h : OwAt c F H a d) (e : Ex F F2) (k : ∀ o, ¬ IsTbl o → H a = Option.some o → H2 a = Option.some o) : OwAt c F2 H2 a d := by
  cases d with
  | list ds => obtain ⟨l, vs, h, r⟩ := h; exact ⟨l, vs, k _ tbl_lst h, rza_ex e r⟩
  | dict ds => obtain ⟨l, vs, h, r⟩ := h; exact ⟨l, vs, k _ tbl_dK h, rzk_ex e r⟩
  | obj n ds => obtain ⟨C, dx, fs, m, h, r⟩ := h; exact ⟨C, dx, fs, m, k _ tbl_ins h, rzf_ex e r⟩
  | _ => exact h.elim
/-- its frozen copy -/
theorem OwAt.rz {c : Cd} {F H G : Hp} {a : Addr} {d : Dt} (h : OwAt c F H a d) (e : Ex F G) (k : ∀ o, H a = Option.some o → G a = Option.some o) : Rz c.K c.mg G (.ref a) d := by
  cases d with
  | list ds => obtain ⟨l, vs, h, r⟩ := h; exact .lst l (k _ h) (rza_ex e r)
  | dict ds => obtain ⟨l, vs, h, r⟩ := h; exact .dct l (k _ h) (rzk_ex e r)
  | obj n ds => obtain ⟨C, dx, fs, m, h, r⟩ := h; exact .obj m (k _ h) (rzf_ex e r)
  | _ => exact h.elim
section
variable {c : Cd} {F0 H0 F H F2 H2 : Hp} {ρ : Rho} {b b2 : Nat} {σ : L2.St}
theorem Wd.z (w : Wd c F0 H0 ρ b F H σ) : Ex F H := w.ok.z
theorem Wd.step (w : Wd c F0 H0 ρ b F H σ) (g : FrRel c.fr F H F2 H2) (k : FrOk c.fr b2 F2 H2) : Wd c F0 H0 ρ b2 F2 H2 σ := by
  refine ⟨k, w.rel.trans g, w.len, fun i s h => ?_, w.dj⟩
  have q := w.sl i s h
  cases s with
  | sh d => obtain ⟨v, a, r⟩ := q; exact ⟨v, a, rz_ex g.ff r⟩
  | ow d =>
    obtain ⟨a, e, o, n⟩ := q
    obtain ⟨x, hx, px⟩ := o.some
    exact ⟨a, e, o.mono g.ff fun x t hx => g.own t n.ap hx, g.nw px.1 hx n.nf, n.n0, n.ap⟩
  | st => exact q
  | sc n => obtain ⟨a, xs, e1, e2, e3⟩ := q; exact ⟨a, xs, e1, Evl.ex_l g.ff e2, e3⟩
theorem Wd.grow (w : Wd c F0 H0 ρ b F H σ) (g : Grow F H F2 H2) : Wd c F0 H0 ρ b F2 H2 σ := w.step (FrRel.of g) (w.ok.grow g)
/-- a slot gets frozen data -/
theorem Wd.set (w : Wd c F0 H0 ρ b F H σ) {i : Nat} {v : V} {d : Dt} (r : Rz c.K c.mg F v d) : Wd c F0 H0 (put ρ i (some (.sh d))) b F H (σ.set i (some v)) := by
  refine ⟨w.ok, w.rel, by rw [List.length_set, put_len]; exact w.len, fun j s h => ?_, fun j k d1 d2 n h1 h2 => ?_⟩
  · rcases at_put h with ⟨a, l, e⟩ | ⟨a, h⟩
    · injection e with e
      subst e a
      exact ⟨v, List.getElem?_set_self (by rw [w.len]; exact l), r⟩
    · have q := w.sl j s h
      have eq : (σ.set i (some v))[j]? = σ[j]? := List.getElem?_set_ne (Ne.symm a)
      cases s with
      | sh d => obtain ⟨v, a, r⟩ := q; exact ⟨v, by rw [eq]; exact a, r⟩
      | ow d => obtain ⟨a, e, o⟩ := q; exact ⟨a, by rw [eq]; exact e, o⟩
      | st => obtain ⟨st, lg, cl, e1, e2⟩ := q; exact ⟨st, lg, cl, e1, by rw [eq]; exact e2⟩
      | sc n => obtain ⟨a, xs, e1, e2, e3⟩ := q; exact ⟨a, xs, by rw [eq]; exact e1, e2, e3⟩
  · rcases at_put h1 with ⟨_, _, e⟩ | ⟨a1, h1⟩
    · cases e
    · rcases at_put h2 with ⟨_, _, e⟩ | ⟨a2, h2⟩
      · cases e
      · rw [List.getElem?_set_ne (Ne.symm a1), List.getElem?_set_ne (Ne.symm a2)]
        exact w.dj j k d1 d2 n h1 h2
/-- a slot gets a new object of one's own -/
theorem Wd.setOw (w : Wd c F0 H0 ρ b F H σ) {i : Nat} {a : Addr} {d : Dt} (o : OwAt c F H a d) (n : Own c H0 F a) (nw : ∀ j e, at_ ρ j = some (.ow e) → σ[j]? ≠ some (some (.ref a))) : Wd c F0 H0 (put ρ i (some (.ow d))) b F H (σ.set i (some (.ref a))) := by
  refine ⟨w.ok, w.rel, by rw [List.length_set, put_len]; exact w.len, fun j s h => ?_, fun j k d1 d2 ne h1 h2 => ?_⟩
  · rcases at_put h with ⟨a1, l, e⟩ | ⟨a1, h⟩
    · injection e with e
      subst e a1
      exact ⟨a, List.getElem?_set_self (by rw [w.len]; exact l), o, n⟩
    · have q := w.sl j s h
      have eq : (σ.set i (some (.ref a)))[j]? = σ[j]? := List.getElem?_set_ne (Ne.symm a1)
      cases s with
      | sh d => obtain ⟨v, a, r⟩ := q; exact ⟨v, by rw [eq]; exact a, r⟩
      | ow d => obtain ⟨a, e, o⟩ := q; exact ⟨a, by rw [eq]; exact e, o⟩
      | st => obtain ⟨st, lg, cl, e1, e2⟩ := q; exact ⟨st, lg, cl, e1, by rw [eq]; exact e2⟩
      | sc n => obtain ⟨a, xs, e1, e2, e3⟩ := q; exact ⟨a, xs, by rw [eq]; exact e1, e2, e3⟩
  · rcases at_put h1 with ⟨e1, l1, e⟩ | ⟨a1, h1⟩
    · rcases at_put h2 with ⟨e2, _, _⟩ | ⟨a2, h2⟩
      · exact absurd (e1.trans e2.symm) ne
      · rw [e1, List.getElem?_set_self (by rw [w.len]; exact l1), List.getElem?_set_ne (Ne.symm a2)]
        exact fun z => nw k d2 h2 z.symm
    · rcases at_put h2 with ⟨e2, l2, e⟩ | ⟨a2, h2⟩
      · rw [e2, List.getElem?_set_self (by rw [w.len]; exact l2), List.getElem?_set_ne (Ne.symm a1)]
        exact fun z => nw j d1 h1 z
      · rw [List.getElem?_set_ne (Ne.symm a1), List.getElem?_set_ne (Ne.symm a2)]
        exact w.dj j k d1 d2 ne h1 h2
/-- a slot is forgotten -/
theorem Wd.wipe1 (w : Wd c F0 H0 ρ b F H σ) {i : Nat} {v : Option V} : Wd c F0 H0 (put ρ i none) b F H (σ.set i v) := by
  refine ⟨w.ok, w.rel, by rw [List.length_set, put_len]; exact w.len, fun j s h => ?_, fun j k d1 d2 n h1 h2 => ?_⟩
  · rcases at_put h with ⟨a, l, e⟩ | ⟨a, h⟩
    · cases e
    · have q := w.sl j s h
      have eq : (σ.set i v)[j]? = σ[j]? := List.getElem?_set_ne (Ne.symm a)
      cases s with
      | sh d => obtain ⟨v, a, r⟩ := q; exact ⟨v, by rw [eq]; exact a, r⟩
      | ow d => obtain ⟨a, e, o⟩ := q; exact ⟨a, by rw [eq]; exact e, o⟩
      | st => obtain ⟨st, lg, cl, e1, e2⟩ := q; exact ⟨st, lg, cl, e1, by rw [eq]; exact e2⟩
      | sc n => obtain ⟨a, xs, e1, e2, e3⟩ := q; exact ⟨a, xs, by rw [eq]; exact e1, e2, e3⟩
  · rcases at_put h1 with ⟨_, _, e⟩ | ⟨a1, h1⟩
    · cases e
    · rcases at_put h2 with ⟨_, _, e⟩ | ⟨a2, h2⟩
      · cases e
      · rw [List.getElem?_set_ne (Ne.symm a1), List.getElem?_set_ne (Ne.symm a2)]
        exact w.dj j k d1 d2 n h1 h2
/-- an object of one's own changes -/
theorem Wd.mut (w : Wd c F0 H0 ρ b F H σ) {i : Nat} {a : Addr} {d e : Dt} {o : HO} (h : at_ ρ i = some (.ow d)) (hv : σ[i]? = some (some (.ref a))) (q : OwAt c F (upd H a o) a e) : Wd c F0 H0 (put ρ i (some (.ow e))) b F (upd H a o) σ := by
  obtain ⟨a', e', ow, n⟩ := w.sl i _ h
  rw [hv] at e'
  injection e' with e'
  injection e' with e'
  injection e' with e'
  subst e'
  refine ⟨w.ok.mut n.ap n.nf ow.code, w.rel.mut n.ap n.nf n.n0, by rw [put_len]; exact w.len, fun j s hj => ?_, fun j k d1 d2 ne h1 h2 => ?_⟩
  · rcases at_put hj with ⟨a1, l, e1⟩ | ⟨a1, hj⟩
    · injection e1 with e1
      subst e1 a1
      exact ⟨a, hv, q, n⟩
    · have qj := w.sl j s hj
      cases s with
      | sh d => exact qj
      | ow d2 =>
        obtain ⟨a2, e2, o2, n2⟩ := qj
        have na : a2 ≠ a := fun z => w.dj j i d2 d a1 hj h (by rw [e2, hv, z])
        exact ⟨a2, e2, o2.mono (Evl.Ex.refl _) fun x _ hx => by rw [upd_ne na]; exact hx, n2⟩
      | st => exact qj
      | sc n => exact qj
  · have back : ∀ {j : Nat} {d1 : Dt}, at_ (put ρ i (some (.ow e))) j = some (.ow d1) → ∃ d', at_ ρ j = some (.ow d') := fun {j d1} z => by
      rcases at_put z with ⟨a1, _, _⟩ | ⟨_, z⟩
      · exact ⟨d, by rw [a1]; exact h⟩
      · exact ⟨d1, z⟩
    obtain ⟨d1', h1⟩ := back h1
    obtain ⟨d2', h2⟩ := back h2
    exact w.dj j k d1' d2' ne h1 h2
/-- an object of one's own is frozen -/
theorem Wd.frz (w : Wd c F0 H0 ρ b F H σ) {i : Nat} {d : Dt} (h : at_ ρ i = some (.ow d)) : ∃ a F2, σ[i]? = some (some (.ref a)) ∧ Ex F F2 ∧ Rz c.K c.mg F2 (.ref a) d ∧ Wd c F0 H0 (put ρ i (some (.sh d))) b F2 H σ := by
  obtain ⟨a, e, ow, n⟩ := w.sl i _ h
  obtain ⟨o, ho, po⟩ := ow.some
  have x : Ex F (upd F a o) := Evl.Ex.new n.nf
  have r : Rz c.K c.mg (upd F a o) (.ref a) d := ow.rz x fun u hu => by
    rw [upd_same, ← hu, ho]
  refine ⟨a, upd F a o, e, x, r, w.ok.frz n.ap po.1 ho, w.rel.frz n.ap n.nf n.n0 po.1 ho, by rw [put_len]; exact w.len, fun j s hj => ?_, fun j k d1 d2 ne h1 h2 => ?_⟩
  · rcases at_put hj with ⟨a1, l, e1⟩ | ⟨a1, hj⟩
    · injection e1 with e1
      subst e1 a1
      exact ⟨_, e, r⟩
    · have qj := w.sl j s hj
      cases s with
      | sh d => obtain ⟨v, a, r⟩ := qj; exact ⟨v, a, rz_ex x r⟩
      | ow d2 =>
        obtain ⟨a2, e2, o2, n2⟩ := qj
        have na : a2 ≠ a := fun z => w.dj j i d2 d a1 hj h (by rw [e2, e, z])
        exact ⟨a2, e2, o2.mono x fun _ _ hx => hx, by rw [upd_ne na]; exact n2.nf, n2.n0, n2.ap⟩
      | st => exact qj
      | sc n => obtain ⟨a, xs, e1, e2, e3⟩ := qj; exact ⟨a, xs, e1, Evl.ex_l x e2, e3⟩
  · rcases at_put h1 with ⟨_, _, e⟩ | ⟨a1, h1⟩
    · cases e
    · rcases at_put h2 with ⟨_, _, e⟩ | ⟨a2, h2⟩
      · cases e
      · exact w.dj j k d1 d2 ne h1 h2
/-- a new object is one's own -/
theorem Wd.fresh (w : Wd c F0 H0 ρ b F H σ) {a : Addr} (h : H a = none) : Own c H0 F a ∧ ∀ j e, at_ ρ j = some (.ow e) → σ[j]? ≠ some (some (.ref a)) := by
  refine ⟨⟨Evl.fresh_back w.z h, w.rel.back (N0.of h), Apart.new w.ok h⟩, fun j e hj z => ?_⟩
  obtain ⟨a2, e2, o2, n2⟩ := w.sl j _ hj
  rw [z] at e2
  injection e2 with e2
  injection e2 with e2
  injection e2 with e2
  subst e2
  obtain ⟨o, ho, _⟩ := o2.some
  rw [h] at ho
  cases ho
end

/-! ### readings over data -/
structure Xv where
  c : Str
  fs : List (Str × Dt) := []
abbrev QD := Dt → Nat → Prop
abbrev QX := Xv → Nat → Prop
abbrev WE := Rho → Nat → QD → QX → Prop
abbrev WT := Rho → Nat → (Bool → Nat → Prop) → QX → Prop
abbrev WA := Rho → Nat → (List Dt → Nat → Prop) → QX → Prop
structure WEnds where
  nx : Rho → Nat → Prop
  rt : QD
  ex : QX
  bk : Rho → Nat → Prop := fun _ _ => False
  ct : Rho → Nat → Prop := fun _ _ => False
abbrev WS := WEnds → Rho → Nat → Prop
/-- an error as the machine has it -/
def XRel (c : Cd) (H0 F H : Hp) (x : Xv) (cls : Value) (dd : Option Addr) : Prop := ∃ C, c.mg x.c = some (.ref C) ∧ cls = .ref C ∧ ((x.fs = [] ∧ dd = Option.none) ∨
  ∃ d vs, dd = some d ∧ H d = some (.xd vs) ∧ RzFs c.K c.mg F vs x.fs ∧ Own c H0 F d)
section
variable (c : Cd) (F0 H0 : Hp) (F H : Hp)
def LkX (qx : QX) : Prop := ∀ x b F2 H2 cls dd, qx x b → Ex F F2 → FrOk c.fr b F2 H2 → FrRel c.fr F0 H0 F2 H2 → XRel c H0 F2 H2 x cls dd → c.E cls dd H2
def LkE (ρ : Rho) (σ : L2.St) (q : QD) (Q : VK) : Prop := ∀ v d b F2 H2, q d b → FrRel c.fr F H F2 H2 → Wd c F0 H0 ρ b F2 H2 σ → Rz c.K c.mg F2 v d → Q v H2
/-- a value that is valid as long as nothing of one's own changes -/
def Pb (F H : Hp) (v : V) (d : Dt) : Prop := Rz c.K c.mg F v d ∨ ∃ a, v = .ref a ∧ OwAt c F H a d ∧ Apart c.fr a
def LkB (ρ : Rho) (σ : L2.St) (q : QD) (Q : VK) : Prop := ∀ v d b F2 H2, q d b → FrRel c.fr F H F2 H2 → Wd c F0 H0 ρ b F2 H2 σ → Pb c F2 H2 v d → Q v H2
def LkT (ρ : Rho) (σ : L2.St) (q : Bool → Nat → Prop) (Q : Bool → Hp → Prop) : Prop := ∀ k b F2 H2, q k b → FrRel c.fr F H F2 H2 → Wd c F0 H0 ρ b F2 H2 σ → Q k H2
def PbAll (F H : Hp) (vs : List V) (ds : List Dt) : Prop := Paired (Pb c F H) vs ds
def LkA (ρ : Rho) (σ : L2.St) (q : List Dt → Nat → Prop) (Q : List V → Hp → Prop) : Prop := ∀ vs ds b F2 H2, q ds b → FrRel c.fr F H F2 H2 → Wd c F0 H0 ρ b F2 H2 σ → PbAll c F2 H2 vs ds → Q vs H2
def LkR (n : Nat) (ρ : Rho) (σ : L2.St) (q : List Dt → Nat → Prop) (Q : List V → Hp → Prop) : Prop := ∀ vs ds b F2 H2, q ds b → ds.length = n → FrRel c.fr F H F2 H2 → Wd c F0 H0 ρ b F2 H2 σ → RzAll c.K c.mg F2 vs ds → Q vs H2
structure LkS (D : WEnds) (E : Ends) : Prop where
  nx : ∀ ρ b F2 H2 σ, D.nx ρ b → Ex F F2 → Wd c F0 H0 ρ b F2 H2 σ → E.nx σ H2
  rt : ∀ v d b F2 H2, D.rt d b → Ex F F2 → FrOk c.fr b F2 H2 → FrRel c.fr F0 H0 F2 H2 → Rz c.K c.mg F2 v d → E.rt v H2
  bk : ∀ ρ b F2 H2 σ, D.bk ρ b → Ex F F2 → Wd c F0 H0 ρ b F2 H2 σ → E.bk σ H2
  ct : ∀ ρ b F2 H2 σ, D.ct ρ b → Ex F F2 → Wd c F0 H0 ρ b F2 H2 σ → E.ct σ H2
  x : LkX c F0 H0 F D.ex
end
section
variable (c : Cd)
def SndE (t : TE) (w : WE) : Prop := ∀ F0 H0 ρ b F H σ, Wd c F0 H0 ρ b F H σ → ∀ q qx Q, w ρ b q qx → LkX c F0 H0 F qx → LkE c F0 H0 F H ρ σ q Q → t σ H Q
def SndB (t : TE) (w : WE) : Prop := ∀ F0 H0 ρ b F H σ, Wd c F0 H0 ρ b F H σ → ∀ q qx Q, w ρ b q qx → LkX c F0 H0 F qx → LkB c F0 H0 F H ρ σ q Q → t σ H Q
def SndT (t : TT) (w : WT) : Prop := ∀ F0 H0 ρ b F H σ, Wd c F0 H0 ρ b F H σ → ∀ q qx Q, w ρ b q qx → LkX c F0 H0 F qx → LkT c F0 H0 F H ρ σ q Q → t σ H Q
def SndA (t : TA) (w : WA) : Prop := ∀ F0 H0 ρ b F H σ, Wd c F0 H0 ρ b F H σ → ∀ q qx Q, w ρ b q qx → LkX c F0 H0 F qx → LkA c F0 H0 F H ρ σ q Q → t σ H Q
def SndR (t : TA) (w : WA) (n : Nat) : Prop := ∀ F0 H0 ρ b F H σ, Wd c F0 H0 ρ b F H σ → ∀ q qx Q, w ρ b q qx → LkX c F0 H0 F qx → LkR c F0 H0 F H n ρ σ q Q → t σ H Q
def SndS (t : TS) (w : WS) : Prop := ∀ F0 H0 ρ b F H σ, Wd c F0 H0 ρ b F H σ → ∀ D E, w D ρ b → LkS c F0 H0 F D E → t E σ H
end
section
variable {c : Cd} {F0 H0 F F2 H H2 : Hp} {ρ : Rho} {σ : L2.St} {q q2 : QD} {qx : QX} {Q : VK}
theorem LkX.mono (l : LkX c F0 H0 F qx) (e : Ex F F2) : LkX c F0 H0 F2 qx := fun x b F3 H3 cls dd h z => l x b F3 H3 cls dd h (e.trans z)
theorem LkE.mono (l : LkE c F0 H0 F H ρ σ q Q) (g : FrRel c.fr F H F2 H2) : LkE c F0 H0 F2 H2 ρ σ q Q := fun v d b F3 H3 h z => l v d b F3 H3 h (g.trans z)
theorem LkB.mono (l : LkB c F0 H0 F H ρ σ q Q) (g : FrRel c.fr F H F2 H2) : LkB c F0 H0 F2 H2 ρ σ q Q := fun v d b F3 H3 h z => l v d b F3 H3 h (g.trans z)
theorem LkT.mono {q : Bool → Nat → Prop} {Q : Bool → Hp → Prop} (l : LkT c F0 H0 F H ρ σ q Q) (g : FrRel c.fr F H F2 H2) : LkT c F0 H0 F2 H2 ρ σ q Q := fun v b F3 H3 h z => l v b F3 H3 h (g.trans z)
theorem LkS.mono {D : WEnds} {E : Ends} (l : LkS c F0 H0 F D E) (e : Ex F F2) : LkS c F0 H0 F2 D E :=
  ⟨fun r b F3 H3 s h z => l.nx r b F3 H3 s h (e.trans z), fun v d b F3 H3 h z => l.rt v d b F3 H3 h (e.trans z), fun r b F3 H3 s h z => l.bk r b F3 H3 s h (e.trans z), fun r b F3 H3 s h z => l.ct r b F3 H3 s h (e.trans z), l.x.mono e⟩
theorem Pb.of {v : V} {d : Dt} (r : Rz c.K c.mg F v d) : Pb c F H v d := .inl r
theorem Pb.own {a : Addr} {d : Dt} (o : OwAt c F H a d) (n : Own c H0 F a) : Pb c F H (.ref a) d := .inr ⟨a, rfl, o, n.ap⟩
theorem Pb.step {v : V} {d : Dt} (p : Pb c F H v d) (g : FrRel c.fr F H F2 H2) : Pb c F2 H2 v d := by
  rcases p with r | ⟨a, e, o, n⟩
  · exact .inl (rz_ex g.ff r)
  · exact .inr ⟨a, e, o.mono g.ff fun _ t h => g.own t n h, n⟩
theorem Pb.now {v : V} {d : Dt} (p : Pb c F H v d) (z : Ex F H) : Rz c.K c.mg F v d ∨ ∃ a, v = .ref a ∧ OwAt c F H a d := by
  rcases p with r | ⟨a, e, o, n⟩
  · exact .inl r
  · exact .inr ⟨a, e, o⟩
theorem PbAll.step : ∀ {vs : List V} {ds : List Dt}, PbAll c F H vs ds → FrRel c.fr F H F2 H2 → PbAll c F2 H2 vs ds
  | _, _, .nil, _ => .nil
  | _, _, .cons h t, g => .cons (Pb.step h g) (PbAll.step t g)
end
end Dw
set_option Elab.async false
set_option linter.all false
set_option maxRecDepth 100000
set_option maxHeartbeats 4000000
/-! Data-level wp: expressions. -/
namespace Dw
open PySem PySem.Spec PyProof.Rows L2 Cn
section
variable {c : Cd} {ta tb te : TE} {tt tu : TT} {tas tbs : TA} {wa wb we : WE} {wt wu : WT} {was : WA}
/-! ### what stands at hand -/
def wVar (i : Nat) : WE := fun ρ b q _ => match at_ ρ i with
  | some (.sh d) => q d b
  | _ => False
def wVarB (i : Nat) : WE := fun ρ b q _ => match at_ ρ i with
  | some (.sh d) => q d b
  | some (.ow d) => q d b
  | _ => False
def wC (d : Dt) : WE := fun _ b q _ => q d b
theorem sn_var {i : Nat} : SndE c (tVar i) (wVar i) := fun F0 H0 ρ b F H σ W q qx Q h _ l => by
  unfold wVar at h
  cases hs : at_ ρ i with
  | none => rw [hs] at h; exact h.elim
  | some s =>
    rw [hs] at h
    cases s with
    | sh d =>
      obtain ⟨v, e, r⟩ := W.sl i _ hs
      exact ⟨v, e, l v d b F H h (FrRel.refl W.z) W r⟩
    | ow d => exact h.elim
    | st => exact h.elim
    | sc n => exact h.elim
theorem sn_varB {i : Nat} : SndB c (tVar i) (wVarB i) := fun F0 H0 ρ b F H σ W q qx Q h _ l => by
  unfold wVarB at h
  cases hs : at_ ρ i with
  | none => rw [hs] at h; exact h.elim
  | some s =>
    rw [hs] at h
    cases s with
    | sh d =>
      obtain ⟨v, e, r⟩ := W.sl i _ hs
      exact ⟨v, e, l v d b F H h (FrRel.refl W.z) W (Pb.of r)⟩
    | ow d =>
      obtain ⟨a, e, o, n⟩ := W.sl i _ hs
      exact ⟨_, e, l _ d b F H h (FrRel.refl W.z) W (Pb.own o n)⟩
    | st => exact h.elim
    | sc n => exact h.elim
theorem SndE.b (h : SndE c te we) : SndB c te we := fun F0 H0 ρ b F H σ W q qx Q hw lx l => h F0 H0 ρ b F H σ W q qx Q hw lx fun v d b2 F2 H2 hq g W2 r => l v d b2 F2 H2 hq g W2 (Pb.of r)
theorem sn_c {v : V} {d : Dt} (r : ∀ F, Rz c.K c.mg F v d) : SndE c (tC v) (wC d) := fun F0 H0 ρ b F H σ W q qx Q h _ l => l v d b F H h (FrRel.refl W.z) W (r F)
theorem sn_non : SndE c (tC .non) (wC .none) := sn_c fun _ => .non
theorem sn_int {i : Int} : SndE c (tC (.int i)) (wC (.int i)) := sn_c fun _ => .int i
theorem sn_bl {k : Bool} : SndE c (tC (.bl k)) (wC (.bool k)) := sn_c fun _ => .bl k
theorem sn_str {x : Str} (h : x.length ≤ 100000) : SndE c (tC (.str x)) (wC (.str x)) := sn_c fun _ => .str x h
/-! ### operators -/
abbrev Op2 := Dt → Dt → (Dt → Prop) → Prop
def ROk (c : Cd) (r : R2) (f : Op2) : Prop := ∀ x y d e F H, Ex F H → Pb c F H x d → Pb c F H y e → ∀ (q : Dt → Prop) (Q : VK), f d e q → (∀ v k F2 H2, q k → Grow F H F2 H2 → Rz c.K c.mg F2 v k → Q v H2) → r x y H Q
def wOp (f : Op2) (wa wb : WE) : WE := fun ρ b q qx => wa ρ b (fun x b1 => wb ρ b1 (fun y b2 => f x y fun z => q z b2) qx) qx
theorem sn_op {r : R2} {f : Op2} (hr : ROk c r f) (ha : SndB c ta wa) (hb : SndB c tb wb) : SndE c (tOp r ta tb) (wOp f wa wb) := fun F0 H0 ρ b F H σ W q qx Q h lx l =>
  ha F0 H0 ρ b F H σ W _ qx _ h lx fun x d b1 F1 H1 h1 g1 W1 p1 => hb F0 H0 ρ b1 F1 H1 σ W1 _ qx _ h1 (lx.mono g1.ff) fun y e b2 F2 H2 h2 g2 W2 p2 =>
    hr x y d e F2 H2 W2.z (p1.step g2) p2 _ Q h2 fun v k F3 H3 hq g3 r3 => l v k b2 F3 H3 hq ((g1.trans g2).trans (FrRel.of g3)) (W2.grow g3) r3
abbrev Op1 := Dt → (Dt → Prop) → Prop
def UOk (c : Cd) (r : V → Hp → VK → Prop) (f : Op1) : Prop := ∀ x d F H, Ex F H → Pb c F H x d → ∀ (q : Dt → Prop) (Q : VK), f d q → (∀ v k F2 H2, q k → Grow F H F2 H2 → Rz c.K c.mg F2 v k → Q v H2) → r x H Q
def wUn (f : Op1) (wa : WE) : WE := fun ρ b q qx => wa ρ b (fun x b1 => f x fun z => q z b1) qx
theorem sn_un {r : V → Hp → VK → Prop} {f : Op1} (hr : UOk c r f) (ha : SndB c ta wa) : SndE c (tUn r ta) (wUn f wa) := fun F0 H0 ρ b F H σ W q qx Q h lx l =>
  ha F0 H0 ρ b F H σ W _ qx _ h lx fun x d b1 F1 H1 h1 g1 W1 p1 => hr x d F1 H1 W1.z p1 _ Q h1 fun v k F3 H3 hq g3 r3 => l v k b1 F3 H3 hq (g1.trans (FrRel.of g3)) (W1.grow g3) r3
/-! ### tests -/
def isB (d : Dt) (q : Bool → Prop) : Prop := match d with
  | .bool k => q k
  | _ => False
def wTest (w : WE) : WT := fun ρ b q qx => w ρ b (fun d b1 => isB d fun k => q k b1) qx
theorem sn_test (h : SndE c te we) : SndT c (tTest te) (wTest we) := fun F0 H0 ρ b F H σ W q qx Q hw lx l => h F0 H0 ρ b F H σ W _ qx _ hw lx fun v d b1 F1 H1 h1 g1 W1 r => by
  cases r with
  | bl k => exact ⟨k, rfl, l k b1 F1 H1 h1 g1 W1⟩
  | _ => exact h1.elim
theorem sn_tb (h : SndE c te we) : SndT c (tB te) (wTest we) := fun F0 H0 ρ b F H σ W q qx Q hw lx l => h F0 H0 ρ b F H σ W _ qx _ hw lx fun v d b1 F1 H1 h1 g1 W1 r => by
  cases r with
  | bl k => exact ⟨k, rfl, l k b1 F1 H1 h1 g1 W1⟩
  | _ => exact h1.elim
def wNot (w : WT) : WT := fun ρ b q qx => w ρ b (fun k b1 => q (!k) b1) qx
def wAnd (w u : WT) : WT := fun ρ b q qx => w ρ b (fun k b1 => br k (u ρ b1 q qx) (q false b1)) qx
def wOr (w u : WT) : WT := fun ρ b q qx => w ρ b (fun k b1 => br k (q true b1) (u ρ b1 q qx)) qx
theorem sn_not (h : SndT c tt wt) : SndT c (tNot tt) (wNot wt) := fun F0 H0 ρ b F H σ W q qx Q hw lx l => h F0 H0 ρ b F H σ W _ qx _ hw lx fun k b1 F1 H1 h1 g1 W1 => l _ b1 F1 H1 h1 g1 W1
theorem sn_and (h : SndT c tt wt) (k : SndT c tu wu) : SndT c (tAnd tt tu) (wAnd wt wu) := fun F0 H0 ρ b F H σ W q qx Q hw lx l => h F0 H0 ρ b F H σ W _ qx _ hw lx fun j b1 F1 H1 h1 g1 W1 => by
  cases j with
  | true => exact iteT (k F0 H0 ρ b1 F1 H1 σ W1 q qx Q h1 (lx.mono g1.ff) (l.mono g1))
  | false => exact iteF (l _ b1 F1 H1 h1 g1 W1)
theorem sn_or (h : SndT c tt wt) (k : SndT c tu wu) : SndT c (tOr tt tu) (wOr wt wu) := fun F0 H0 ρ b F H σ W q qx Q hw lx l => h F0 H0 ρ b F H σ W _ qx _ hw lx fun j b1 F1 H1 h1 g1 W1 => by
  cases j with
  | true => exact iteT (l _ b1 F1 H1 h1 g1 W1)
  | false => exact iteF (k F0 H0 ρ b1 F1 H1 σ W1 q qx Q h1 (lx.mono g1.ff) (l.mono g1))
def wYes : WT := fun _ b q _ => q true b
theorem sn_yes : SndT c tYes wYes := fun F0 H0 ρ b F H σ W q qx Q hw lx l => l _ b F H hw (FrRel.refl W.z) W
/-! truth values -/
def wNotV (w : WE) : WE := fun ρ b q qx => w ρ b (fun d b1 => isB d fun k => q (.bool (!k)) b1) qx
def wAndV (w u : WE) : WE := fun ρ b q qx => w ρ b (fun d b1 => isB d fun k => br k (u ρ b1 q qx) (q (.bool false) b1)) qx
def wOrV (w u : WE) : WE := fun ρ b q qx => w ρ b (fun d b1 => isB d fun k => br k (q (.bool true) b1) (u ρ b1 q qx)) qx
theorem sn_notV (h : SndE c ta wa) : SndE c (tNotV ta) (wNotV wa) := fun F0 H0 ρ b F H σ W q qx Q hw lx l => h F0 H0 ρ b F H σ W _ qx _ hw lx fun v d b1 F1 H1 h1 g1 W1 r => by
  cases r with
  | bl k => exact ⟨k, rfl, l _ _ b1 F1 H1 h1 g1 W1 (.bl _)⟩
  | _ => exact h1.elim
theorem sn_andV (h : SndE c ta wa) (k : SndE c tb wb) : SndE c (tAndV ta tb) (wAndV wa wb) := fun F0 H0 ρ b F H σ W q qx Q hw lx l => h F0 H0 ρ b F H σ W _ qx _ hw lx fun v d b1 F1 H1 h1 g1 W1 r => by
  cases r with
  | bl j =>
    refine ⟨j, rfl, ?_⟩
    cases j with
    | true => exact iteT (k F0 H0 ρ b1 F1 H1 σ W1 q qx Q h1 (lx.mono g1.ff) (l.mono g1))
    | false => exact iteF (l _ _ b1 F1 H1 h1 g1 W1 (.bl _))
  | _ => exact h1.elim
theorem sn_orV (h : SndE c ta wa) (k : SndE c tb wb) : SndE c (tOrV ta tb) (wOrV wa wb) := fun F0 H0 ρ b F H σ W q qx Q hw lx l => h F0 H0 ρ b F H σ W _ qx _ hw lx fun v d b1 F1 H1 h1 g1 W1 r => by
  cases r with
  | bl j =>
    refine ⟨j, rfl, ?_⟩
    cases j with
    | true => exact iteT (l _ _ b1 F1 H1 h1 g1 W1 (.bl _))
    | false => exact iteF (k F0 H0 ρ b1 F1 H1 σ W1 q qx Q h1 (lx.mono g1.ff) (l.mono g1))
  | _ => exact h1.elim
def wIf (wt : WT) (wa wb : WE) : WE := fun ρ b q qx => wt ρ b (fun k b1 => br k (wa ρ b1 q qx) (wb ρ b1 q qx)) qx
theorem sn_if (h : SndT c tt wt) (ka : SndE c ta wa) (kb : SndE c tb wb) : SndE c (tIf tt ta tb) (wIf wt wa wb) := fun F0 H0 ρ b F H σ W q qx Q hw lx l => h F0 H0 ρ b F H σ W _ qx _ hw lx fun j b1 F1 H1 h1 g1 W1 => by
  cases j with
  | true => exact iteT (ka F0 H0 ρ b1 F1 H1 σ W1 q qx Q h1 (lx.mono g1.ff) (l.mono g1))
  | false => exact iteF (kb F0 H0 ρ b1 F1 H1 σ W1 q qx Q h1 (lx.mono g1.ff) (l.mono g1))
/-! a < b < c -/
def wChain (f g : Op2) (wa wb wc : WE) : WE := fun ρ b q qx => wa ρ b (fun x b1 => wb ρ b1 (fun y b2 => f x y fun z => isB z fun k => br k (wc ρ b2 (fun w b3 => g y w fun z => q z b3) qx) (q (.bool false) b2)) qx) qx
theorem sn_chain {r r' : R2} {f g : Op2} {tc : TE} {wc : WE} (hr : ROk c r f) (hr' : ROk c r' g) (ha : SndB c ta wa) (hb : SndB c tb wb) (hc : SndB c tc wc) : SndE c (tChain r r' ta tb tc) (wChain f g wa wb wc) := fun F0 H0 ρ b F H σ W q qx Q h lx l =>
  ha F0 H0 ρ b F H σ W _ qx _ h lx fun x d b1 F1 H1 h1 g1 W1 p1 => hb F0 H0 ρ b1 F1 H1 σ W1 _ qx _ h1 (lx.mono g1.ff) fun y e b2 F2 H2 h2 g2 W2 p2 => by
    refine hr x y d e F2 H2 W2.z (p1.step g2) p2 _ _ h2 fun v k F3 H3 hq g3 r3 => ?_
    have g13 := (g1.trans g2).trans (FrRel.of g3)
    cases r3 with
    | bl j =>
      refine ⟨j, rfl, ?_⟩
      cases j with
      | true =>
        refine iteT (hc F0 H0 ρ b2 F3 H3 σ (W2.grow g3) _ qx _ hq (lx.mono g13.ff) fun z m b4 F4 H4 h4 g4 W4 p4 => ?_)
        exact hr' y z e m F4 H4 W4.z ((p2.step (FrRel.of g3)).step g4) p4 _ Q h4 fun v k F5 H5 hq g5 r5 => l v k b4 F5 H5 hq ((g13.trans g4).trans (FrRel.of g5)) (W4.grow g5) r5
      | false => exact iteF (l _ _ b2 F3 H3 hq g13 (W2.grow g3) (.bl _))
    | _ => exact hq.elim
/-! ### arguments -/
def wNil : WA := fun _ b q _ => q [] b
def wCons (w : WE) (ws : WA) : WA := fun ρ b q qx => w ρ b (fun d b1 => ws ρ b1 (fun ds b2 => q (d :: ds) b2) qx) qx
theorem sn_nil : SndA c tNil wNil := fun F0 H0 ρ b F H σ W q qx Q hw lx l => l _ _ b F H hw (FrRel.refl W.z) W .nil
theorem sn_cons (h : SndB c te we) (k : SndA c tas was) : SndA c (tCons te tas) (wCons we was) := fun F0 H0 ρ b F H σ W q qx Q hw lx l => h F0 H0 ρ b F H σ W _ qx _ hw lx fun v d b1 F1 H1 h1 g1 W1 r1 =>
  k F0 H0 ρ b1 F1 H1 σ W1 _ qx _ h1 (lx.mono g1.ff) fun vs ds b2 F2 H2 h2 g2 W2 r2 => l _ _ b2 F2 H2 h2 (g1.trans g2) W2 (.cons (r1.step g2) r2)
theorem snr_nil : SndR c tNil wNil 0 := fun F0 H0 ρ b F H σ W q qx Q hw lx l => l _ _ b F H hw rfl (FrRel.refl W.z) W .nil
theorem snr_cons {n : Nat} (h : SndE c te we) (k : SndR c tas was n) : SndR c (tCons te tas) (wCons we was) (n + 1) := fun F0 H0 ρ b F H σ W q qx Q hw lx l => h F0 H0 ρ b F H σ W _ qx _ hw lx fun v d b1 F1 H1 h1 g1 W1 r1 =>
  k F0 H0 ρ b1 F1 H1 σ W1 _ qx _ h1 (lx.mono g1.ff) fun vs ds b2 F2 H2 h2 e g2 W2 r2 => l _ _ b2 F2 H2 h2 (by rw [List.length_cons, e]) (g1.trans g2) W2 (.cons (rz_ex g2.ff r1) r2)
/-! ### calls of built-ins -/
def COk (c : Cd) (r : List V → Hp → VK → Prop) (f : List Dt → (Dt → Prop) → Prop) : Prop := ∀ xs ds F H, Ex F H → PbAll c F H xs ds → ∀ (q : Dt → Prop) (Q : VK), f ds q → (∀ v k F2 H2, q k → Grow F H F2 H2 → Rz c.K c.mg F2 v k → Q v H2) → r xs H Q
def wCB (f : List Dt → (Dt → Prop) → Prop) (ws : WA) : WE := fun ρ b q qx => ws ρ b (fun ds b1 => f ds fun z => q z b1) qx
theorem sn_cb {r : List V → Hp → VK → Prop} {f : List Dt → (Dt → Prop) → Prop} (hr : COk c r f) (ha : SndA c tas was) : SndE c (tCB r tas) (wCB f was) := fun F0 H0 ρ b F H σ W q qx Q h lx l =>
  ha F0 H0 ρ b F H σ W _ qx _ h lx fun xs ds b1 F1 H1 h1 g1 W1 p1 => hr xs ds F1 H1 W1.z p1 _ Q h1 fun v k F3 H3 hq g3 r3 => l v k b1 F3 H3 hq (g1.trans (FrRel.of g3)) (W1.grow g3) r3
/-! ### new tuples and lists -/
def wTup (ws : WA) : WE := fun ρ b q qx => ws ρ b (fun ds b1 => q (.tuple ds) b1) qx
def wLst (ws : WA) : WE := fun ρ b q qx => ws ρ b (fun ds b1 => q (.list ds) b1) qx
theorem sn_tup {n : Nat} (h : SndR c tas was n) (hn : n ≤ 100000) : SndE c (tTupZ tas) (wTup was) := fun F0 H0 ρ b F H σ W q qx Q hw lx l => h F0 H0 ρ b F H σ W _ qx _ hw lx fun vs ds b1 F1 H1 h1 e g1 W1 r1 => by
  refine ⟨Evl.sz_of (by rw [rza_len r1, e]; exact hn), fun p o hp hd => ?_⟩
  have G := Grow.new (o := .frz o (.tup vs)) W1.z hp
  exact l _ _ b1 _ _ h1 (g1.trans (FrRel.of G)) (W1.grow G) (.tup (by rw [e]; exact hn) (TupZ.of upd_same hd) (rza_ex G.ff r1))
theorem sn_lst {n : Nat} (h : SndR c tas was n) (hn : n ≤ 100000) : SndE c (tLst tas) (wLst was) := fun F0 H0 ρ b F H σ W q qx Q hw lx l => h F0 H0 ρ b F H σ W _ qx _ hw lx fun vs ds b1 F1 H1 h1 e g1 W1 r1 => by
  refine ⟨Evl.sz_of (by rw [rza_len r1, e]; exact hn), fun p hp => ?_⟩
  have G := Grow.new (o := .lst vs) W1.z hp
  exact l _ _ b1 _ _ h1 (g1.trans (FrRel.of G)) (W1.grow G) (.lst (by rw [e]; exact hn) upd_same (rza_ex G.ff r1))
end
end Dw
set_option Elab.async false
set_option linter.all false
set_option maxRecDepth 100000
set_option maxHeartbeats 4000000
/-! Data-level wp: the operators and built-ins over data. -/
namespace Dw
open PySem PySem.Spec PyProof.Rows L2 Cn
section
variable {c : Cd} {F H : Hp} {v : V}
theorem pb_int {i : Int} (p : Pb c F H v (.int i)) (z : Ex F H) : v = .int i := by
  rcases p.now z with r | ⟨a, _, o⟩
  · cases r; rfl
  · exact o.elim
theorem pb_str {i : Str} (p : Pb c F H v (.str i)) (z : Ex F H) : v = .str i := by
  rcases p.now z with r | ⟨a, _, o⟩
  · cases r; rfl
  · exact o.elim
theorem pb_bl {i : Bool} (p : Pb c F H v (.bool i)) (z : Ex F H) : v = .bl i := by
  rcases p.now z with r | ⟨a, _, o⟩
  · cases r; rfl
  · exact o.elim
theorem pb_non (p : Pb c F H v .none) (z : Ex F H) : v = .non := by
  rcases p.now z with r | ⟨a, _, o⟩
  · cases r; rfl
  · exact o.elim
theorem pb_lst {ds : List Dt} (p : Pb c F H v (.list ds)) (z : Ex F H) : ∃ a xs, v = .ref a ∧ H a = some (.lst xs) ∧ RzAll c.K c.mg F xs ds ∧ ds.length ≤ 100000 := by
  rcases p.now z with r | ⟨a, e, o⟩
  · cases r with
    | lst l h t => exact ⟨_, _, rfl, z _ _ h, t, l⟩
  · obtain ⟨l, vs, h, t⟩ := o
    exact ⟨a, vs, e, h, t, l⟩
theorem pb_slen {x : Str} (p : Pb c F H v (.str x)) (z : Ex F H) : x.length ≤ 100000 := by
  rcases p.now z with r | ⟨a, _, o⟩
  · cases r; assumption
  · exact o.elim
theorem pb_tup {ds : List Dt} (p : Pb c F H v (.tuple ds)) (z : Ex F H) : ∃ a xs, v = .ref a ∧ TupZ c.K F a xs ∧ RzAll c.K c.mg F xs ds ∧ ds.length ≤ 100000 := by
  rcases p.now z with r | ⟨a, e, o⟩
  · cases r with
    | tup l h t => exact ⟨_, _, rfl, h, t, l⟩
  · exact o.elim
theorem pb_dct {ds : List (Key × Dt)} (p : Pb c F H v (.dict ds)) (z : Ex F H) : ∃ a xs, v = .ref a ∧ H a = some (.dK xs) ∧ RzKV c.K c.mg F xs ds ∧ ds.length ≤ 100000 := by
  rcases p.now z with r | ⟨a, e, o⟩
  · cases r with
    | dct l h t => exact ⟨_, _, rfl, z _ _ h, t, l⟩
  · obtain ⟨l, vs, h, t⟩ := o
    exact ⟨a, vs, e, h, t, l⟩
theorem pb_obj {n : Str} {ds : List (Str × Dt)} (p : Pb c F H v (.obj n ds)) (z : Ex F H) : ∃ C a dx xs, c.mg n = some (.ref C) ∧ v = .ref a ∧ H a = some (.ins C dx xs) ∧ RzFs c.K c.mg F xs ds := by
  rcases p.now z with r | ⟨a, e, o⟩
  · cases r with
    | obj m h t => exact ⟨_, _, _, _, m, rfl, z _ _ h, t⟩
  · obtain ⟨C, dx, vs, m, h, t⟩ := o
    exact ⟨C, a, dx, vs, m, e, h, t⟩
/-- as the library reads it -/
theorem pb_dz {d : Dt} {e : PyData} (p : Pb c F H v d) (z : Ex F H) (h : d.pl = some e) : Dz c.K H v e ∧ e.plain = true := by
  rcases p.now z with r | ⟨a, ea, o⟩
  · obtain ⟨r1, r2⟩ := rz_dz r h
    exact ⟨dp_ex z r1, r2⟩
  · cases d with
    | list ds =>
      obtain ⟨_, vs, h1, t⟩ := o
      unfold Dt.pl at h
      obtain ⟨ys, h2, h3⟩ := Option.map_eq_some_iff.mp h
      subst h3 ea
      obtain ⟨r1, r2⟩ := rza_dz t h2
      exact ⟨.lst (SqL.of h1) (dpa_ex z r1), by simpa [PyData.plain] using r2⟩
    | dict ds => simp [Dt.pl] at h
    | obj n ds => simp [Dt.pl] at h
    | _ => exact o.elim
def isNone : Dt → Bool
  | .none => true
  | _ => false
theorem pb_isN {d : Dt} (p : Pb c F H v d) (z : Ex F H) : decide (v = .non) = isNone d := by
  rcases p.now z with r | ⟨a, ea, o⟩
  · cases r <;> first | rfl | exact decide_eq_false (fun z => nomatch z)
  · subst ea
    cases d <;> first | exact o.elim | exact decide_eq_false (fun z => nomatch z)
end
section
variable {X : Cx} {K : PySem.W.Frag} {c : Cd}
/-! ### a + b -/
def rAddA (K : PySem.W.Frag) : R2 := fun x y H Q => (∃ i j, x = .int i ∧ y = .int j ∧ Q (.int (i + j)) H) ∨ (∃ i j, x = .str i ∧ y = .str j ∧ i.length + j.length ≤ sizeLine ∧ Q (.str (i ++ j)) H) ∨ rCat x y H Q ∨ rCatZ K x y H Q
theorem op_addA (hK : X.K = K) : OpR X (binaryOp .Add) (rAddA K) := by
  intro pins s σ H x y v u Q I rx ry h
  rcases h with h | h | h | h
  · exact op_add pins s σ H x y v u Q I rx ry h
  · exact op_add_str pins s σ H x y v u Q I rx ry h
  · exact op_cat pins s σ H x y v u Q I rx ry h
  · exact op_catZ hK pins s σ H x y v u Q I rx ry h
def addD : Op2
  | .int i, .int j, q => q (.int (i + j))
  | .str x, .str y, q => x.length + y.length ≤ 100000 ∧ q (.str (x ++ y))
  | .list x, .list y, q => x.length + y.length ≤ 100000 ∧ q (.list (x ++ y))
  | .tuple x, .tuple y, q => x.length + y.length ≤ 100000 ∧ q (.tuple (x ++ y))
  | _, _, _ => False
theorem ro_add : ROk c (rAddA c.K) addD := fun x y d e F H z px py q Q hq k => by
  unfold addD at hq
  split at hq
  · rw [pb_int px z, pb_int py z]
    exact .inl ⟨_, _, rfl, rfl, k _ _ F H hq (Grow.refl z) (.int _)⟩
  · rw [pb_str px z, pb_str py z]
    exact .inr (.inl ⟨_, _, rfl, rfl, Evl.sz_of hq.1, k _ _ F H hq.2 (Grow.refl z) (.str _ (by rw [Str.length_append]; exact hq.1))⟩)
  · obtain ⟨a, xs, rfl, ha, ra, la⟩ := pb_lst px z
    obtain ⟨b, ys, rfl, hb, rb, lb⟩ := pb_lst py z
    refine .inr (.inr (.inl ⟨a, b, xs, ys, rfl, rfl, ha, hb, Evl.sz_of (by rw [rza_len ra, rza_len rb]; exact hq.1), fun p hp => ?_⟩))
    have G := Grow.new (o := .lst (xs ++ ys)) z hp
    exact k _ _ _ _ hq.2 G (.lst (by rw [List.length_append]; exact hq.1) upd_same (rza_ex G.ff (rza_app ra rb)))
  · obtain ⟨a, xs, rfl, ha, ra, la⟩ := pb_tup px z
    obtain ⟨b, ys, rfl, hb, rb, lb⟩ := pb_tup py z
    refine .inr (.inr (.inr ⟨a, b, xs, ys, rfl, rfl, ha.ex z, hb.ex z, Evl.sz_of (by rw [rza_len ra, rza_len rb]; exact hq.1), fun e => ?_, fun e1 e2 => ?_, fun _ _ p o hp hd => ?_⟩))
    · subst e
      cases ra
      exact k _ _ F H hq.2 (Grow.refl z) (.tup lb hb rb)
    · subst e2
      cases rb
      refine k _ _ F H hq.2 (Grow.refl z) ?_
      rw [List.append_nil]
      exact .tup la ha ra
    · have G := Grow.new (o := .frz o (.tup (xs ++ ys))) z hp
      exact k _ _ _ _ hq.2 G (.tup (by rw [List.length_append]; exact hq.1) (TupZ.of upd_same hd) (rza_ex G.ff (rza_app ra rb)))
  · exact hq.elim
/-! ### whole numbers -/
def intD (g : Int → Int → Dt) : Op2
  | .int i, .int j, q => q (g i j)
  | _, _, _ => False
theorem ro_int {g : Int → Int → V} {gd : Int → Int → Dt} (hg : ∀ i j F, Rz c.K c.mg F (g i j) (gd i j)) : ROk c (rI0 g) (intD gd) := fun x y d e F H z px py q Q hq k => by
  unfold intD at hq
  split at hq
  · rw [pb_int px z, pb_int py z]
    exact ⟨_, _, rfl, rfl, k _ _ F H hq (Grow.refl z) (hg _ _ _)⟩
  · exact hq.elim
def intC (C : Int → Int → Prop) (g : Int → Int → Dt) : Op2
  | .int i, .int j, q => C i j ∧ q (g i j)
  | _, _, _ => False
theorem ro_intC {C : Int → Int → Prop} {g : Int → Int → V} {gd : Int → Int → Dt} (hg : ∀ i j F, Rz c.K c.mg F (g i j) (gd i j)) : ROk c (rI C g) (intC C gd) := fun x y d e F H z px py q Q hq k => by
  unfold intC at hq
  split at hq
  · rw [pb_int px z, pb_int py z]
    exact ⟨_, _, rfl, rfl, hq.1, k _ _ F H hq.2 (Grow.refl z) (hg _ _ _)⟩
  · exact hq.elim
def subD : Op2 := intD fun i j => .int (i - j)
theorem ro_sub : ROk c (rI0 fun i j => .int (i - j)) subD := ro_int fun _ _ _ => .int _
def mulD : Op2 := intC CMul fun i j => .int (i * j)
theorem ro_mul : ROk c (rI CMul fun i j => .int (i * j)) mulD := ro_intC fun _ _ _ => .int _
def modD : Op2 := intC (fun _ j => 0 < j) fun i j => .int (i % j)
theorem ro_mod : ROk c (rI (fun _ j => 0 < j) fun i j => .int (i % j)) modD := ro_intC fun _ _ _ => .int _
def fdivD : Op2 := intC CDiv fun i j => .int (i / j)
theorem ro_fdiv : ROk c (rI CDiv fun i j => .int (i / j)) fdivD := ro_intC fun _ _ _ => .int _
def powD : Op2 := intC CPow fun i j => .int (i ^ j.toNat)
theorem ro_pow : ROk c (rI CPow fun i j => .int (i ^ j.toNat)) powD := ro_intC fun _ _ _ => .int _
/-- xs * k -/
def repD : Op2
  | .list x, .int k, q => (-(2 ^ 63) ≤ k ∧ k < 2 ^ 63 ∧ x.length * k.toNat ≤ 100000) ∧ q (.list (List.replicate k.toNat x).flatten)
  | _, _, _ => False
theorem rza_rep {xs : List V} {ds : List Dt} {mg : Str → Option Value} {F : Hp} (r : RzAll K mg F xs ds) : ∀ n, RzAll K mg F (List.replicate n xs).flatten (List.replicate n ds).flatten
  | 0 => .nil
  | n + 1 => by
    rw [List.replicate_succ, List.replicate_succ, List.flatten_cons, List.flatten_cons]
    exact rza_app r (rza_rep r n)
theorem rep_len {α : Type} (l : List α) : ∀ n : Nat, (List.replicate n l).flatten.length = n * l.length
  | 0 => by simp
  | n + 1 => by rw [List.replicate_succ, List.flatten_cons, List.length_append, rep_len l n, Nat.succ_mul, Nat.add_comm]
theorem ro_rep : ROk c rRep repD := fun x y d e F H z px py q Q hq k => by
  unfold repD at hq
  split at hq
  · rename_i j
    obtain ⟨a, xs, rfl, ha, ra, la⟩ := pb_lst px z
    rw [pb_int py z]
    refine ⟨a, _, xs, rfl, rfl, ha, hq.1.1, hq.1.2.1, Evl.sz_of (by rw [rza_len ra]; exact hq.1.2.2), fun p hp => ?_⟩
    have G := Grow.new (o := .lst (List.replicate (Int.toNat j) xs).flatten) z hp
    exact k _ _ _ _ hq.2 G (.lst (by rw [rep_len, Nat.mul_comm]; exact hq.1.2.2) upd_same (rza_ex G.ff (rza_rep ra _)))
  · exact hq.elim
/-! ### order -/
def rCmpA (p : Int → Int → Bool) (s : Str → Str → Bool) : R2 := fun x y H Q => (∃ i j, x = .int i ∧ y = .int j ∧ Q (.bl (p i j)) H) ∨ ∃ i j, x = .str i ∧ y = .str j ∧ Q (.bl (s i j)) H
def strLt (i j : Str) : Bool := decide (i.cps.toList < j.cps.toList)
theorem op_ltB : OpR X (compareOp .Lt) (rCmpA (fun i j => decide (i < j)) strLt) := by
  intro pins s σ H x y v u Q I rx ry h
  rcases h with h | h
  · exact op_lt pins s σ H x y v u Q I rx ry h
  · exact op_lt_str pins s σ H x y v u Q I rx ry h
theorem op_leB : OpR X (compareOp .LtE) (rCmpA (fun i j => decide (i ≤ j)) fun i j => !strLt j i) := by
  intro pins s σ H x y v u Q I rx ry h
  rcases h with h | h
  · exact op_le pins s σ H x y v u Q I rx ry h
  · exact op_le_str pins s σ H x y v u Q I rx ry h
theorem op_gtB : OpR X (compareOp .Gt) (rCmpA (fun i j => decide (j < i)) fun i j => strLt j i) := by
  intro pins s σ H x y v u Q I rx ry h
  rcases h with h | h
  · exact op_gt pins s σ H x y v u Q I rx ry h
  · exact op_gt_str pins s σ H x y v u Q I rx ry h
theorem op_geB : OpR X (compareOp .GtE) (rCmpA (fun i j => decide (j ≤ i)) fun i j => !strLt i j) := by
  intro pins s σ H x y v u Q I rx ry h
  rcases h with h | h
  · exact op_ge pins s σ H x y v u Q I rx ry h
  · exact op_ge_str pins s σ H x y v u Q I rx ry h
def cmpD (p : Int → Int → Bool) (s : Str → Str → Bool) : Op2
  | .int i, .int j, q => q (.bool (p i j))
  | .str i, .str j, q => q (.bool (s i j))
  | _, _, _ => False
theorem ro_cmp {p : Int → Int → Bool} {s : Str → Str → Bool} : ROk c (rCmpA p s) (cmpD p s) := fun x y d e F H z px py q Q hq k => by
  unfold cmpD at hq
  split at hq
  · rw [pb_int px z, pb_int py z]
    exact .inl ⟨_, _, rfl, rfl, k _ _ F H hq (Grow.refl z) (.bl _)⟩
  · rw [pb_str px z, pb_str py z]
    exact .inr ⟨_, _, rfl, rfl, k _ _ F H hq (Grow.refl z) (.bl _)⟩
  · exact hq.elim
def ltD : Op2 := cmpD (fun i j => decide (i < j)) strLt
def leD : Op2 := cmpD (fun i j => decide (i ≤ j)) fun i j => !strLt j i
def gtD : Op2 := cmpD (fun i j => decide (j < i)) fun i j => strLt j i
def geD : Op2 := cmpD (fun i j => decide (j ≤ i)) fun i j => !strLt i j
theorem ro_lt : ROk c (rCmpA (fun i j => decide (i < j)) strLt) ltD := ro_cmp
theorem ro_le : ROk c (rCmpA (fun i j => decide (i ≤ j)) fun i j => !strLt j i) leD := ro_cmp
theorem ro_gt : ROk c (rCmpA (fun i j => decide (j < i)) fun i j => strLt j i) gtD := ro_cmp
theorem ro_ge : ROk c (rCmpA (fun i j => decide (j ≤ i)) fun i j => !strLt i j) geD := ro_cmp
/-! ### == of plain data -/
def eqD : Op2 := fun d e q => match d.pl, e.pl with
  | some x, some y => x.depth ≤ 60 ∧ q (.bool (PyData.eqv x y))
  | _, _ => False
def neD : Op2 := fun d e q => match d.pl, e.pl with
  | some x, some y => x.depth ≤ 60 ∧ q (.bool (!PyData.eqv x y))
  | _, _ => False
theorem ro_eq : ROk c (rEqP c.K) eqD := fun x y d e F H z px py q Q hq k => by
  unfold eqD at hq
  split at hq
  · rename_i a b ha hb
    obtain ⟨r1, r2⟩ := pb_dz px z ha
    obtain ⟨r3, r4⟩ := pb_dz py z hb
    exact ⟨a, b, r1, r3, r2, r4, hq.1, k _ _ F H hq.2 (Grow.refl z) (.bl _)⟩
  · exact hq.elim
theorem ro_ne : ROk c (rNeP c.K) neD := fun x y d e F H z px py q Q hq k => by
  unfold neD at hq
  split at hq
  · rename_i a b ha hb
    obtain ⟨r1, r2⟩ := pb_dz px z ha
    obtain ⟨r3, r4⟩ := pb_dz py z hb
    exact ⟨a, b, r1, r3, r2, r4, hq.1, k _ _ F H hq.2 (Grow.refl z) (.bl _)⟩
  · exact hq.elim
/-! ### is None -/
def isND : Op2 := fun d e q => match e with
  | .none => q (.bool (isNone d))
  | _ => False
def notND : Op2 := fun d e q => match e with
  | .none => q (.bool (!isNone d))
  | _ => False
theorem ro_isN : ROk c (fun x y H Q => y = .non ∧ Q (.bl (decide (x = .non))) H) isND := fun x y d e F H z px py q Q hq k => by
  unfold isND at hq
  split at hq
  · rw [pb_non py z]
    refine ⟨rfl, ?_⟩
    rw [pb_isN px z]
    exact k _ _ F H hq (Grow.refl z) (.bl _)
  · exact hq.elim
theorem ro_notN : ROk c (fun x y H Q => y = .non ∧ Q (.bl (!decide (x = .non))) H) notND := fun x y d e F H z px py q Q hq k => by
  unfold notND at hq
  split at hq
  · rw [pb_non py z]
    refine ⟨rfl, ?_⟩
    rw [pb_isN px z]
    exact k _ _ F H hq (Grow.refl z) (.bl _)
  · exact hq.elim
/-! ### x in xs, of flat items -/
def toV : Dt → V
  | .none => .non
  | .bool b => .bl b
  | .int i => .int i
  | .str s => .str s
  | _ => .ref 0
def flatD : Dt → Bool
  | .none => true
  | .bool _ => true
  | .int _ => true
  | .str _ => true
  | _ => false
theorem rz_flat {mg : Str → Option Value} {F : Hp} {v : V} {d : Dt} (r : Rz K mg F v d) (f : flatD d = true) : v = toV d ∧ flatV v = true := by
  cases r <;> first | exact ⟨rfl, rfl⟩ | cases f
theorem pb_flat {F H : Hp} {v : V} {d : Dt} (p : Pb c F H v d) (z : Ex F H) (f : flatD d = true) : v = toV d ∧ flatV v = true := by
  rcases p.now z with r | ⟨a, _, o⟩
  · exact rz_flat r f
  · cases d <;> first | exact o.elim | cases f
theorem rza_flat {mg : Str → Option Value} {F : Hp} : ∀ {vs : List V} {ds : List Dt}, RzAll K mg F vs ds → ds.all flatD = true → vs = ds.map toV ∧ vs.all flatV = true
  | _, _, .nil, _ => ⟨rfl, rfl⟩
  | _, _, .cons r t, h => by
    rw [List.all_cons, Bool.and_eq_true] at h
    obtain ⟨a1, a2⟩ := rz_flat r h.1
    obtain ⟨b1, b2⟩ := rza_flat t h.2
    exact ⟨by rw [List.map_cons, ← a1, ← b1], by rw [List.all_cons, a2, b2]; rfl⟩
def itemsOf : Dt → Option (List Dt)
  | .list xs => some xs
  | .tuple xs => some xs
  | _ => Option.none
def inD (neg : Bool) : Op2 := fun d e q => match itemsOf e with
  | some ds => (flatD d = true ∧ ds.all flatD = true) ∧ q (.bool (if neg then !inV (toV d) (ds.map toV) else inV (toV d) (ds.map toV)))
  | _ => False
theorem pb_items {F H : Hp} {v : V} {e : Dt} {ds : List Dt} (p : Pb c F H v e) (z : Ex F H) (h : itemsOf e = some ds) : ∃ a xs, v = .ref a ∧ (SqL c.K H a xs ∨ SqT c.K H a xs) ∧ RzAll c.K c.mg F xs ds := by
  cases e <;> first | cases h | skip
  · obtain ⟨a, xs, e, h1, h2, _⟩ := pb_lst p z
    exact ⟨a, xs, e, .inl (SqL.of h1), h2⟩
  · obtain ⟨a, xs, e, h1, h2, _⟩ := pb_tup p z
    exact ⟨a, xs, e, .inr ((h1.ex z).sq), h2⟩
theorem ro_in {neg : Bool} : ROk c (rIn c.K neg) (inD neg) := fun x y d e F H z px py q Q hq k => by
  unfold inD at hq
  split at hq
  · rename_i ds hi
    obtain ⟨a, xs, rfl, hs, ra⟩ := pb_items py z hi
    obtain ⟨e1, e2⟩ := pb_flat px z hq.1.1
    obtain ⟨e3, e4⟩ := rza_flat ra hq.1.2
    refine ⟨a, xs, rfl, hs, e2, e4, ?_⟩
    rw [e1, e3]
    exact k _ _ F H hq.2 (Grow.refl z) (.bl _)
  · exact hq.elim
/-- a sign in a text -/
def inSD (neg : Bool) : Op2
  | .str x, .str z, q => match x.cps.toList with
    | [k] => q (.bool (if neg then !decide (k ∈ z.cps.toList) else decide (k ∈ z.cps.toList)))
    | _ => False
  | _, _, _ => False
theorem one_sign {x : Str} {k : Nat} (h : x.cps.toList = [k]) : x = ⟨#[k]⟩ := by
  cases x with
  | mk a =>
    have h : a.toList = [k] := h
    rw [show a = #[k] from Array.toList_inj.mp h]
theorem ro_inS : ROk c (fun x y H Q => ∃ (k : Nat) (z : Str), x = .str ⟨#[k]⟩ ∧ y = .str z ∧ Q (.bl (decide (k ∈ z.cps.toList))) H) (inSD false) := fun x y d e F H z px py q Q hq k => by
  unfold inSD at hq
  split at hq
  · split at hq
    · rename_i he
      rw [pb_str px z, pb_str py z]
      exact ⟨_, _, by rw [one_sign he], rfl, k _ _ F H hq (Grow.refl z) (.bl _)⟩
    · exact hq.elim
  · exact hq.elim
theorem ro_notInS : ROk c (fun x y H Q => ∃ (k : Nat) (z : Str), x = .str ⟨#[k]⟩ ∧ y = .str z ∧ Q (.bl (!decide (k ∈ z.cps.toList))) H) (inSD true) := fun x y d e F H z px py q Q hq k => by
  unfold inSD at hq
  split at hq
  · split at hq
    · rename_i he
      rw [pb_str px z, pb_str py z]
      exact ⟨_, _, by rw [one_sign he], rfl, k _ _ F H hq (Grow.refl z) (.bl _)⟩
    · exact hq.elim
  · exact hq.elim
/-! ### xs[i] -/
def ixD : Op2
  | .list ds, .int i, q => match atI ds i with | some d => q d | Option.none => False
  | .tuple ds, .int i, q => match atI ds i with | some d => q d | Option.none => False
  | .str x, .int i, q => match atI x.cps.toList i with | some k => q (.str ⟨#[k]⟩) | Option.none => False
  | _, _, _ => False
theorem rza_atI {mg : Str → Option Value} {F : Hp} {vs : List V} {ds : List Dt} {i : Int} {d : Dt} (r : RzAll K mg F vs ds) (h : atI ds i = some d) : ∃ v, atI vs i = some v ∧ Rz K mg F v d := by
  unfold atI at h ⊢
  rw [← rza_len r] at h
  obtain ⟨j, h1, h2⟩ := Option.bind_eq_some_iff.mp h
  obtain ⟨v, h3, h4⟩ := rza_get' r h2
  exact ⟨v, by rw [h1]; exact h3, h4⟩
theorem ro_ix : ROk c (rIx c.K) ixD := fun x y d e F H z px py q Q hq k => by
  unfold ixD at hq
  split at hq
  · split at hq
    · rename_i d hd
      obtain ⟨a, xs, rfl, h, t, _⟩ := pb_lst px z
      obtain ⟨v, e1, e2⟩ := rza_atI t hd
      rw [pb_int py z]
      exact .inl ⟨a, xs, _, v, rfl, rfl, SqL.of h, e1, k v d F H hq (Grow.refl z) e2⟩
    · exact hq.elim
  · split at hq
    · rename_i d hd
      obtain ⟨a, xs, rfl, h, t, _⟩ := pb_tup px z
      obtain ⟨v, e1, e2⟩ := rza_atI t hd
      rw [pb_int py z]
      exact .inr (.inl ⟨a, xs, _, v, rfl, rfl, (h.ex z).sq, e1, k v d F H hq (Grow.refl z) e2⟩)
    · exact hq.elim
  · have hl := pb_slen px z
    split at hq
    · rename_i j hd
      rw [pb_int py z, pb_str px z]
      exact .inr (.inr ⟨_, _, j, rfl, rfl, Evl.sz_of hl, hd, k _ _ F H hq (Grow.refl z) (.str _ (by show 1 ≤ 100000; decide))⟩)
    · exact hq.elim
  · exact hq.elim
end
end Dw
set_option Elab.async false
set_option linter.all false
set_option maxRecDepth 100000
set_option maxHeartbeats 4000000
/-! Data-level wp: targets, what is walked, comprehensions. -/
namespace Dw
open PySem PySem.Spec PyProof.Rows L2 Cn
section
variable {c : Cd} {ta tb te : TE} {tt tu : TT} {tas tbs : TA} {wa wb we : WE} {wt wu : WT} {was : WA} {F H F2 H2 : Hp}
/-! ### targets -/
/-- an item: frozen data, or (pr) a new tuple of such -/
def Rt (c : Cd) (pr : Bool) (F H : Hp) (v : V) (d : Dt) : Prop := Rz c.K c.mg F v d ∨ pr = true ∧ ∃ T vs ds, v = .ref T ∧ d = .tuple ds ∧ H T = some (.tup vs) ∧ RzAll c.K c.mg F vs ds
theorem Rt.seq {pr : Bool} {v : V} {ds : List Dt} (r : Rt c pr F H v (.tuple ds)) (z : Ex F H) : ∃ a xs, v = .ref a ∧ SqT c.K H a xs ∧ RzAll c.K c.mg F xs ds := by
  rcases r with r | ⟨_, T, vs, ds', e1, e2, h, r⟩
  · cases r with
    | tup l h t => exact ⟨_, _, rfl, (h.ex z).sq, t⟩
  · cases e2
    exact ⟨T, vs, e1, .inl (.inl h), r⟩
abbrev WG := Dt → Rho → (Rho → Prop) → Prop
abbrev WGs := List Dt → Rho → (Rho → Prop) → Prop
def wgName (i : Nat) : WG := fun d ρ k => k (put ρ i (some (.sh d)))
def wgNil : WGs := fun ds ρ k => match ds with
  | [] => k ρ
  | _ => False
def wgCons (g : WG) (gs : WGs) : WGs := fun ds ρ k => match ds with
  | d :: ds => g d ρ fun ρ2 => gs ds ρ2 k
  | [] => False
def wgTup (n : Nat) (gs : WGs) : WG := fun d ρ k => match d with
  | .tuple ds => match ds.length == n with
    | true => gs ds ρ k
    | false => False
  | _ => False
def SndG (c : Cd) (pr : Bool) (g : TG) (w : WG) (is : List Nat) : Prop := ∀ F0 H0 ρ b F H σ, Wd c F0 H0 ρ b F H σ → ∀ v d k R, Rt c pr F H v d → w d ρ k → (∀ ρ2 σ2, k ρ2 → Wd c F0 H0 ρ2 b F H σ2 → (∀ vs, (∀ i ∈ is, i ∈ vs) → wipe σ2 vs = wipe σ vs) → R σ2 H) → g v σ H R
def SndGs (c : Cd) (g : TGs) (w : WGs) (is : List Nat) (n : Nat) : Prop := ∀ F0 H0 ρ b F H σ, Wd c F0 H0 ρ b F H σ → ∀ vs ds k R, RzAll c.K c.mg F vs ds → ds.length = n → w ds ρ k → (∀ ρ2 σ2, k ρ2 → Wd c F0 H0 ρ2 b F H σ2 → (∀ vs, (∀ i ∈ is, i ∈ vs) → wipe σ2 vs = wipe σ vs) → R σ2 H) → g vs σ H R
theorem wipe_set {σ : L2.St} {i : Nat} {x : Option V} : ∀ {vs : List Nat}, i ∈ vs → wipe (σ.set i x) vs = wipe σ vs
  | v :: vs, h => by
    unfold wipe
    by_cases e : i ∈ vs
    · rw [wipe_set e]
    · have hv : i = v := (List.mem_cons.mp h).resolve_right e
      subst hv
      have q : ∀ (ws : List Nat), (wipe (σ.set i x) ws).set i none = (wipe σ ws).set i none := fun ws => by
        induction ws with
        | nil => exact List.set_set ..
        | cons w ws ih =>
          unfold wipe
          by_cases hw : w = i
          · rw [hw, List.set_set, List.set_set]
            exact ih
          · rw [List.set_comm _ _ hw, List.set_comm _ _ hw, ih]
      exact q vs
theorem sg_name {i : Nat} : SndG c false (gName i) (wgName i) [i] := fun F0 H0 ρ b F H σ W v d k R r hk l => by
  rcases r with r | ⟨e, _⟩
  · exact l _ _ hk (W.set r) fun vs hv => wipe_set (hv i (List.mem_singleton.mpr rfl))
  · cases e
theorem sg_nil : SndGs c gNil wgNil [] 0 := fun F0 H0 ρ b F H σ W vs ds k R r _ hk l => by
  cases r with
  | nil => exact ⟨rfl, l _ _ hk W fun _ _ => rfl⟩
  | cons _ _ => exact hk.elim
theorem sg_cons {n : Nat} {g : TG} {wg : WG} {gs : TGs} {ws : WGs} {is js : List Nat} (hg : SndG c false g wg js) (h : SndGs c gs ws is n) : SndGs c (gCons g gs) (wgCons wg ws) (js ++ is) (n + 1) := fun F0 H0 ρ b F H σ W vs ds k R r hn hk l => by
  cases r with
  | nil => exact hk.elim
  | @cons v d vs ds r t =>
    refine ⟨_, _, rfl, hg F0 H0 ρ b F H σ W _ _ _ _ (.inl r) hk fun ρ1 σ1 h1 W1 hw1 => h F0 H0 ρ1 b F H σ1 W1 _ _ k R t (by rw [List.length_cons] at hn; exact Nat.succ.inj hn) h1 fun ρ2 σ2 h2 W2 hw => l ρ2 σ2 h2 W2 fun vs hv => ?_⟩
    rw [hw vs fun j hj => hv j (List.mem_append_right _ hj), hw1 vs fun j hj => hv j (List.mem_append_left _ hj)]
theorem sg_tup {pr : Bool} {n : Nat} {gs : TGs} {ws : WGs} {is : List Nat} (h : SndGs c gs ws is n) : SndG c pr (gTup c.K n gs) (wgTup n ws) is := fun F0 H0 ρ b F H σ W v d k R r hk l => by
  unfold wgTup at hk
  split at hk
  · split at hk
    · rename_i hl
      have hn := beq_iff_eq.mp hl
      obtain ⟨a, xs, rfl, hs, t⟩ := r.seq W.z
      exact ⟨a, xs, rfl, hs, by rw [rza_len t, hn], h F0 H0 ρ b F H σ W xs _ k R t hn hk l⟩
    · exact hk.elim
  · exact hk.elim
theorem SndG.pr {g : TG} {w : WG} {is : List Nat} (h : SndG c true g w is) : SndG c false g w is := fun F0 H0 ρ b F H σ W v d k R r => h F0 H0 ρ b F H σ W v d k R (by
  rcases r with r | ⟨e, _⟩
  · exact .inl r
  · cases e)
/-! ### what is walked -/
def SFz (F : Hp) : Hp → Hp → Prop := fun F2 H2 => Ex F F2 ∧ Ex F2 H2
def ItOk (c : Cd) (pr : Bool) (S : Hp → Hp → Prop) (J : It) (ds : List Dt) : Prop := ds.length ≤ 100000 ∧ ∃ (G : Hp → Prop) (Y : Nat → Hp → V → Hp → Prop), Walk J ds.length G Y ∧ (∀ F2 H2, S F2 H2 → G H2) ∧
  ∀ i d, ds[i]? = some d → ∀ F2 H2 v H3, S F2 H2 → Ex F2 H2 → Y i H2 v H3 → ∃ F3, Grow F2 H2 F3 H3 ∧ Rt c pr F3 H3 v d
theorem ItOk.sub {pr : Bool} {S S2 : Hp → Hp → Prop} {J : It} {ds : List Dt} (h : ItOk c pr S J ds) (k : ∀ F H, S2 F H → S F H) : ItOk c pr S2 J ds := by
  obtain ⟨l, G, Y, w, a, b⟩ := h
  exact ⟨l, G, Y, w, fun F2 H2 s => a F2 H2 (k _ _ s), fun i d hd F2 H2 v H3 s => b i d hd F2 H2 v H3 (k _ _ s)⟩
/-- walked while nothing of one's own changes -/
def SndI (c : Cd) (pr : Bool) (wi : TI) (w : WA) : Prop := ∀ F0 H0 ρ b F H σ, Wd c F0 H0 ρ b F H σ → ∀ q qx R, w ρ b q qx → LkX c F0 H0 F qx →
  (∀ J ds b2 F2 H2, q ds b2 → FrRel c.fr F H F2 H2 → Wd c F0 H0 ρ b2 F2 H2 σ → ItOk c pr (fun F3 H3 => FrRel c.fr F2 H2 F3 H3) J ds → R J H2) → wi σ H R
/-- walked whatever changes -/
def SndF (c : Cd) (pr : Bool) (wi : TI) (w : WA) : Prop := ∀ F0 H0 ρ b F H σ, Wd c F0 H0 ρ b F H σ → ∀ q qx R, w ρ b q qx → LkX c F0 H0 F qx →
  (∀ J ds b2 F2 H2, q ds b2 → FrRel c.fr F H F2 H2 → Wd c F0 H0 ρ b2 F2 H2 σ → ItOk c pr (SFz F2) J ds → R J H2) → wi σ H R
theorem SndF.i {pr : Bool} {wi : TI} {w : WA} (h : SndF c pr wi w) : SndI c pr wi w := fun F0 H0 ρ b F H σ W q qx R hw lx l => h F0 H0 ρ b F H σ W q qx R hw lx fun J ds b2 F2 H2 hq g W2 i => l J ds b2 F2 H2 hq g W2 (i.sub fun F3 H3 s => ⟨s.ff, s.fh⟩)
end
/-! a list, a tuple or a text -/
def iSeqA (K : PySem.W.Frag) (tl : TE) : TI := fun σ H R => tl σ H fun x H1 => (∃ a, x = .ref a ∧ (∃ xs, SqL K H1 a xs) ∧ R (Itl K a) H1) ∨ (∃ a, x = .ref a ∧ (∃ xs, SqT K H1 a xs) ∧ R (Itt K a) H1) ∨ ∃ z, x = .str z ∧ R (Its z) H1
theorem pi_seqA {X : Cx} {K : PySem.W.Frag} {tg l : Expr} {tl : TE} (hK : X.K = K) (hl : PE X l tl) : PI X tg l (iSeqA K tl) := by
  subst hK
  refine ⟨fun pins s σ H R I h => ?_⟩
  refine thn (hl.run pins s σ H _ I h) fun v s1 ⟨x, H1, I1, r1, q1⟩ => ?_
  rcases q1 with ⟨a, e, ⟨xs, hq⟩, q⟩ | ⟨a, e, ⟨xs, hq⟩, q⟩ | ⟨x, ex, q⟩
  · subst e
    cases r1
    obtain ⟨its, rv, p, hz⟩ := I1.list hq
    refine wpAny_pyIter_list p.isList ?_
    refine ⟨s1.heap.objs.size, [s1.heap.objs.size], _, _, H1, rfl, I1.kept (t' := s1.toks) fun b o e => Heap.get?_push_of_some _ e, turn_list a _, ⟨_, Heap.get?_push_size _ rfl, rfl, rfl⟩, fun b hb => ?_, q⟩
    have e : b = s1.heap.objs.size := by simpa using hb
    subst e
    exact I1.fpOk (Nat.le_refl _) (I1.hok.fresh (Nat.le_refl _))
  · subst e
    cases r1
    obtain ⟨its, rv, p, hz⟩ := I1.tuple hq
    refine wpAny_pyIter_tuple (show s1.heap.IsTuple a its.toArray from p) ?_
    refine ⟨s1.heap.objs.size, [s1.heap.objs.size], _, _, H1, rfl, I1.kept (t' := s1.toks) fun b o e => Heap.get?_push_of_some _ e, turn_tuple a _, ⟨_, Heap.get?_push_size _ rfl, rfl, rfl⟩, fun b hb => ?_, q⟩
    have e : b = s1.heap.objs.size := by simpa using hb
    subst e
    exact I1.fpOk (Nat.le_refl _) (I1.hok.fresh (Nat.le_refl _))
  · subst ex
    obtain ⟨t, rfl⟩ := r1
    cases ha : x.cps.all (· < 128)
    · exact wpAny_pyIter_wide ha (pi_one (tk := s1.toks) I1 _ (turn_str _ x t "str_iterator" (.inr rfl)) ⟨_, Heap.get?_push_size _ rfl, rfl, rfl⟩ q)
    · exact wpAny_pyIter_ascii ha (pi_one (tk := s1.toks) I1 _ (turn_str _ x t "str_ascii_iterator" (.inl rfl)) ⟨_, Heap.get?_push_size _ rfl, rfl, rfl⟩ q)
section
variable {c : Cd} {ta tb te : TE} {tt tu : TT} {tas tbs : TA} {wa wb we : WE} {wt wu : WT} {was : WA} {F H F2 H2 : Hp}
def signs (x : Str) : List Dt := x.cps.toList.map fun k => .str ⟨#[k]⟩
def walkOf : Dt → Option (List Dt)
  | .list xs => some xs
  | .tuple xs => some xs
  | .str x => some (signs x)
  | _ => Option.none
def wiSeq (w : WE) : WA := fun ρ b q qx => w ρ b (fun d b1 => match walkOf d with | some ds => q ds b1 | Option.none => False) qx
theorem it_str {S : Hp → Hp → Prop} {x : Str} (h : x.length ≤ 100000) : ItOk c false S (Its x) (signs x) := by
  have e : (signs x).length = x.cps.size := by unfold signs; rw [List.length_map, Array.length_toList]
  refine ⟨by rw [e]; exact h, _, _, by rw [e]; exact walk_str, fun _ _ _ => True.intro, fun i d hd F2 H2 v H3 s z y => ?_⟩
  obtain ⟨rfl, k, hk, rfl⟩ := y
  refine ⟨F2, Grow.refl z, .inl ?_⟩
  unfold signs at hd
  rw [List.getElem?_map, Array.getElem?_toList, hk] at hd
  cases hd
  exact .str _ (by show 1 ≤ 100000; decide)
theorem it_list {S : Hp → Hp → Prop} {a : Addr} {xs : List V} {ds : List Dt} {F : Hp} (hl : ds.length ≤ 100000) (hs : ∀ F2 H2, S F2 H2 → SqL c.K H2 a xs) (r : RzAll c.K c.mg F xs ds) (hF : ∀ F2 H2, S F2 H2 → Ex F F2) : ItOk c false S (Itl c.K a) ds := by
  refine ⟨hl, _, _, by rw [← rza_len r]; exact walk_list, hs, fun i d hd F2 H2 v H3 s z y => ?_⟩
  obtain ⟨rfl, hv⟩ := y
  obtain ⟨d', e1, e2⟩ := rza_get r hv
  rw [hd] at e1
  cases e1
  exact ⟨F2, Grow.refl z, .inl (rz_ex (hF _ _ s) e2)⟩
theorem it_tup {S : Hp → Hp → Prop} {a : Addr} {xs : List V} {ds : List Dt} {F : Hp} (hl : ds.length ≤ 100000) (hs : ∀ F2 H2, S F2 H2 → SqT c.K H2 a xs) (r : RzAll c.K c.mg F xs ds) (hF : ∀ F2 H2, S F2 H2 → Ex F F2) : ItOk c false S (Itt c.K a) ds := by
  refine ⟨hl, _, _, by rw [← rza_len r]; exact walk_tup, hs, fun i d hd F2 H2 v H3 s z y => ?_⟩
  obtain ⟨rfl, hv⟩ := y
  obtain ⟨d', e1, e2⟩ := rza_get r hv
  rw [hd] at e1
  cases e1
  exact ⟨F2, Grow.refl z, .inl (rz_ex (hF _ _ s) e2)⟩
theorem sf_seq (h : SndE c te we) : SndF c false (iSeqA c.K te) (wiSeq we) := fun F0 H0 ρ b F H σ W q qx R hw lx l => h F0 H0 ρ b F H σ W _ qx _ hw lx fun v d b1 F1 H1 h1 g1 W1 r => by
  cases r with
  | lst l1 hs t => exact .inl ⟨_, rfl, ⟨_, SqL.of (W1.z _ _ hs)⟩, l _ _ b1 F1 H1 h1 g1 W1 (it_list l1 (fun F2 H2 s => SqL.of (s.2 _ _ (s.1 _ _ hs))) t fun _ _ s => s.1)⟩
  | tup l1 hs t => exact .inr (.inl ⟨_, rfl, ⟨_, (hs.ex W1.z).sq⟩, l _ _ b1 F1 H1 h1 g1 W1 (it_tup l1 (fun F2 H2 s => (hs.ex (s.1.trans s.2)).sq) t fun _ _ s => s.1)⟩)
  | str x l1 => exact .inr (.inr ⟨x, rfl, l _ _ b1 F1 H1 h1 g1 W1 (it_str l1)⟩)
  | _ => exact h1.elim
theorem si_seqB (h : SndB c te we) : SndI c false (iSeqA c.K te) (wiSeq we) := fun F0 H0 ρ b F H σ W q qx R hw lx l => h F0 H0 ρ b F H σ W _ qx _ hw lx fun v d b1 F1 H1 h1 g1 W1 p => by
  rcases p with r | ⟨a, e, o, n⟩
  · cases r with
    | lst l1 hs t => exact .inl ⟨_, rfl, ⟨_, SqL.of (W1.z _ _ hs)⟩, l _ _ b1 F1 H1 h1 g1 W1 (it_list l1 (fun F2 H2 s => SqL.of (s.fh _ _ (s.ff _ _ hs))) t fun _ _ s => s.ff)⟩
    | tup l1 hs t => exact .inr (.inl ⟨_, rfl, ⟨_, (hs.ex W1.z).sq⟩, l _ _ b1 F1 H1 h1 g1 W1 (it_tup l1 (fun F2 H2 s => (hs.ex (s.ff.trans s.fh)).sq) t fun _ _ s => s.ff)⟩)
    | str x l1 => exact .inr (.inr ⟨x, rfl, l _ _ b1 F1 H1 h1 g1 W1 (it_str l1)⟩)
    | _ => exact h1.elim
  · subst e
    cases d <;> first | exact o.elim | exact h1.elim | skip
    obtain ⟨l1, vs, hs, t⟩ := o
    exact .inl ⟨a, rfl, ⟨_, SqL.of hs⟩, l _ _ b1 F1 H1 h1 g1 W1 (it_list l1 (fun F2 H2 s => SqL.of (s.own tbl_lst n hs)) t fun _ _ s => s.ff)⟩
/-! ranges -/
def natD (lo : Int) (n : Nat) : List Dt := (List.range n).map fun (i : Nat) => Dt.int (lo + i)
theorem it_range {S : Hp → Hp → Prop} {lo : Int} {n : Nat} (h : n ≤ 100000) : ItOk c false S (Itr lo n) (natD lo n) := by
  have e : (natD lo n).length = n := by unfold natD; rw [List.length_map, List.length_range]
  refine ⟨by rw [e]; exact h, _, _, by rw [e]; exact walk_range, fun _ _ _ => True.intro, fun i d hd F2 H2 v H3 s z y => ?_⟩
  obtain ⟨rfl, rfl⟩ := y
  refine ⟨F2, Grow.refl z, .inl ?_⟩
  unfold natD at hd
  rw [List.getElem?_map] at hd
  obtain ⟨k, hk, rfl⟩ := Option.map_eq_some_iff.mp hd
  have hi := (List.getElem?_eq_some_iff.mp hk).1
  rw [List.length_range] at hi
  rw [List.getElem?_range hi] at hk
  cases hk
  exact .int _
def wiR1 (ws : WA) : WA := fun ρ b q qx => ws ρ b (fun ds b1 => match ds with
  | [.int n] => (-100000 ≤ n ∧ n ≤ 100000) ∧ q (natD 0 n.toNat) b1
  | _ => False) qx
def wiR2 (ws : WA) : WA := fun ρ b q qx => ws ρ b (fun ds b1 => match ds with
  | [.int m, .int n] => ((-(2 ^ 62) ≤ m ∧ m < 2 ^ 62 ∧ -(2 ^ 62) ≤ n ∧ n < 2 ^ 62) ∧ n - m ≤ 100000) ∧ q (natD m (n - m).toNat) b1
  | _ => False) qx
theorem sf_range1 (h : SndA c tas was) : SndF c false (iRng1 tas) (wiR1 was) := fun F0 H0 ρ b F H σ W q qx R hw lx l => h F0 H0 ρ b F H σ W _ qx _ hw lx fun vs ds b1 F1 H1 h1 g1 W1 p => by
  split at h1
  · rename_i n
    cases p with
    | cons p t =>
      cases t
      have e := pb_int p W1.z
      subst e
      refine ⟨n, rfl, by omega, by omega, ?_⟩
      exact l _ _ b1 F1 H1 h1.2 g1 W1 (it_range (by omega))
  · exact h1.elim
theorem sf_range2 (h : SndA c tas was) : SndF c false (iRng2 tas) (wiR2 was) := fun F0 H0 ρ b F H σ W q qx R hw lx l => h F0 H0 ρ b F H σ W _ qx _ hw lx fun vs ds b1 F1 H1 h1 g1 W1 p => by
  split at h1
  · rename_i m n
    cases p with
    | cons p t =>
      cases t with
      | cons p2 t =>
        cases t
        have e := pb_int p W1.z
        have e2 := pb_int p2 W1.z
        subst e e2
        exact ⟨m, n, rfl, h1.1.1, l _ _ b1 F1 H1 h1.2 g1 W1 (it_range (by omega))⟩
  · exact h1.elim
/-! pairs -/
def pairsD (f g : Nat → Option Dt) (n : Nat) : List Dt := (List.range n).map fun i => .tuple [(f i).getD .none, (g i).getD .none]
def enumD (ds : List Dt) : List Dt := ds.zipIdx.map fun p => .tuple [.int (p.2 : Nat), p.1]
theorem it_enum {S : Hp → Hp → Prop} {a : Addr} {xs : List V} {ds : List Dt} {F : Hp} (hl : ds.length ≤ 100000) (hs : ∀ F2 H2, S F2 H2 → SqL c.K H2 a xs) (r : RzAll c.K c.mg F xs ds) (hF : ∀ F2 H2, S F2 H2 → Ex F F2) : ItOk c true S (Ite c.K a) (enumD ds) := by
  have el : (enumD ds).length = xs.length := by unfold enumD; rw [List.length_map, List.length_zipIdx, rza_len r]
  refine ⟨by rw [el, rza_len r]; exact hl, _, _, by rw [el]; exact walk_enum, hs, fun i d hd F2 H2 v H3 s z y => ?_⟩
  obtain ⟨T, x, y, rfl, hT, rfl, e1, e2⟩ := y
  cases e1
  obtain ⟨d', g1, g2⟩ := rza_get r e2
  unfold enumD at hd
  rw [List.getElem?_map, List.getElem?_zipIdx, g1] at hd
  have hd : some (Dt.tuple [.int ((0 + i : Nat) : Int), d']) = some d := hd
  rw [Nat.zero_add] at hd
  cases hd
  have G := Grow.tmp (o := .tup [.int (i : Nat), y]) z hT
  exact ⟨F2, G, .inr ⟨rfl, T, _, _, rfl, rfl, upd_same, .cons (.int _) (.cons (rz_ex (hF _ _ s) g2) .nil)⟩⟩
def wiEnum (ws : WA) : WA := fun ρ b q qx => ws ρ b (fun ds b1 => match ds with
  | [.list xs] => q (enumD xs) b1
  | _ => False) qx
theorem sf_enum (h : SndR c tas was 1) : SndF c true (iEnum c.K tas) (wiEnum was) := fun F0 H0 ρ b F H σ W q qx R hw lx l => h F0 H0 ρ b F H σ W _ qx _ hw lx fun vs ds b1 F1 H1 h1 _ g1 W1 p => by
  split at h1
  · cases p with
    | cons p t =>
      cases t
      cases p with
      | lst l1 hs t => exact ⟨_, _, rfl, SqL.of (W1.z _ _ hs), l _ _ b1 F1 H1 h1 g1 W1 (it_enum l1 (fun F2 H2 s => SqL.of (s.2 _ _ (s.1 _ _ hs))) t fun _ _ s => s.1)⟩
  · exact h1.elim
def zipD : List Dt → List Dt → List Dt
  | x :: xs, y :: ys => .tuple [x, y] :: zipD xs ys
  | _, _ => []
theorem zipD_get : ∀ {xs ys : List Dt} {i : Nat} {x y : Dt}, xs[i]? = some x → ys[i]? = some y → (zipD xs ys)[i]? = some (.tuple [x, y])
  | x :: xs, y :: ys, 0, _, _, h1, h2 => by cases h1; cases h2; rfl
  | x :: xs, y :: ys, i + 1, _, _, h1, h2 => by
    show (zipD xs ys)[i]? = _
    exact zipD_get (by simpa using h1) (by simpa using h2)
  | [], _, _, _, _, h1, _ => by simp at h1
  | _ :: _, [], _, _, _, _, h2 => by simp at h2
theorem zipD_len : ∀ (xs ys : List Dt), (zipD xs ys).length = min xs.length ys.length
  | x :: xs, y :: ys => by
    show (zipD xs ys).length + 1 = _
    rw [zipD_len xs ys, List.length_cons, List.length_cons]
    omega
  | [], _ => by simp [zipD]
  | _ :: _, [] => by simp [zipD]
theorem it_zip {S : Hp → Hp → Prop} {a b : Addr} {xs ys : List V} {ds es : List Dt} {F : Hp} (hl : ds.length ≤ 100000) (hs : ∀ F2 H2, S F2 H2 → SqL c.K H2 a xs ∧ SqL c.K H2 b ys) (r : RzAll c.K c.mg F xs ds) (r2 : RzAll c.K c.mg F ys es) (hF : ∀ F2 H2, S F2 H2 → Ex F F2) : ItOk c true S (Itz c.K a b) (zipD ds es) := by
  have el := zipD_len ds es
  refine ⟨by rw [el]; omega, _, _, walk_zip (xs := xs) (ys := ys) (by rw [el, rza_len r, rza_len r2]), hs, fun i d hd F2 H2 v H3 s z y => ?_⟩
  obtain ⟨T, x, y, rfl, hT, rfl, e1, e2⟩ := y
  obtain ⟨d1, g1, g2⟩ := rza_get r e1
  obtain ⟨d2, g3, g4⟩ := rza_get r2 e2
  rw [zipD_get g1 g3] at hd
  cases hd
  have G := Grow.tmp (o := .tup [x, y]) z hT
  exact ⟨F2, G, .inr ⟨rfl, T, _, _, rfl, rfl, upd_same, .cons (rz_ex (hF _ _ s) g2) (.cons (rz_ex (hF _ _ s) g4) .nil)⟩⟩
def wiZip (ws : WA) : WA := fun ρ b q qx => ws ρ b (fun ds b1 => match ds with
  | [.list xs, .list ys] => q (zipD xs ys) b1
  | _ => False) qx
theorem sf_zip (h : SndR c tas was 2) : SndF c true (RZ.iZipA c.K tas) (wiZip was) := fun F0 H0 ρ b F H σ W q qx R hw lx l => h F0 H0 ρ b F H σ W _ qx _ hw lx fun vs ds b1 F1 H1 h1 _ g1 W1 p => by
  split at h1
  · cases p with
    | cons p t =>
      cases t with
      | cons p2 t =>
        cases t
        cases p with
        | lst l1 hs t =>
          cases p2 with
          | lst l2 hs2 t2 => exact ⟨_, _, _, _, rfl, .inl ⟨SqL.of (W1.z _ _ hs), SqL.of (W1.z _ _ hs2), l _ _ b1 F1 H1 h1 g1 W1 (it_zip l1 (fun F2 H2 s => ⟨SqL.of (s.2 _ _ (s.1 _ _ hs)), SqL.of (s.2 _ _ (s.1 _ _ hs2))⟩) t t2 fun _ _ s => s.1)⟩⟩
  · exact h1.elim
end
end Dw
set_option Elab.async false
set_option linter.all false
set_option maxRecDepth 100000
set_option maxHeartbeats 4000000
/-! Data-level wp: comprehensions, new objects, statements. -/
namespace Dw
open PySem PySem.Spec PyProof.Rows L2 Cn
section
variable {c : Cd} {ta tb te : TE} {tt tu : TT} {tas tbs : TA} {wa wb we : WE} {wt wu : WT} {was : WA} {F H F2 H2 F0 H0 : Hp} {ρ : Rho} {b : Nat} {σ : L2.St} {a : Addr} {o : HO}
/-! ### a further object of one's own, known by no slot -/
structure Far (c : Cd) (H0 : Hp) (ρ : Rho) (F : Hp) (σ : L2.St) (a : Addr) : Prop where
  own : Own c H0 F a
  nw : ∀ j e, at_ ρ j = some (.ow e) → σ[j]? ≠ some (some (.ref a))
theorem Wd.far (w : Wd c F0 H0 ρ b F H σ) (h : H a = none) : Far c H0 ρ F σ a := ⟨(w.fresh h).1, (w.fresh h).2⟩
theorem Far.step (f : Far c H0 ρ F σ a) (g : FrRel c.fr F H F2 H2) (t : ¬ IsTbl o) (h : H a = some o) : Far c H0 ρ F2 σ a := ⟨⟨g.nw t h f.own.nf, f.own.n0, f.own.ap⟩, f.nw⟩
theorem Wd.mutX (w : Wd c F0 H0 ρ b F H σ) (f : Far c H0 ρ F σ a) (hc : ∀ q, H a ≠ some (LamX.CodeO a q)) : Wd c F0 H0 ρ b F (upd H a o) σ := by
  refine ⟨w.ok.mut f.own.ap f.own.nf hc, w.rel.mut f.own.ap f.own.nf f.own.n0, w.len, fun i s h => ?_, w.dj⟩
  have q := w.sl i s h
  cases s with
  | sh d => exact q
  | st => exact q
  | sc n => exact q
  | ow d =>
    obtain ⟨a2, e2, o2, n2⟩ := q
    have na : a2 ≠ a := fun z => f.nw i d h (by rw [e2, z])
    exact ⟨a2, e2, o2.mono (Evl.Ex.refl _) fun x _ hx => by rw [upd_ne na]; exact hx, n2⟩
theorem Wd.frzX (w : Wd c F0 H0 ρ b F H σ) (f : Far c H0 ρ F σ a) (t0 : ¬ IsTbl o) (h : H a = some o) : Wd c F0 H0 ρ b (upd F a o) H σ := by
  have x : Ex F (upd F a o) := Evl.Ex.new f.own.nf
  refine ⟨w.ok.frz f.own.ap t0 h, w.rel.frz f.own.ap f.own.nf f.own.n0 t0 h, w.len, fun i s hs => ?_, w.dj⟩
  have q := w.sl i s hs
  cases s with
  | sh d => obtain ⟨v, a, r⟩ := q; exact ⟨v, a, rz_ex x r⟩
  | st => exact q
  | sc n => obtain ⟨a, xs, e1, e2, e3⟩ := q; exact ⟨a, xs, e1, Evl.ex_l x e2, e3⟩
  | ow d =>
    obtain ⟨a2, e2, o2, n2⟩ := q
    have na : a2 ≠ a := fun z => f.nw i d hs (by rw [e2, z])
    exact ⟨a2, e2, o2.mono x fun _ _ hx => hx, by rw [upd_ne na]; exact n2.nf, n2.n0, n2.ap⟩
/-! ### expressions that make a list of one's own -/
def LkN (c : Cd) (F0 H0 F H : Hp) (ρ : Rho) (σ : L2.St) (q : QD) (Q : VK) : Prop := ∀ p d b F2 H2, q d b → FrRel c.fr F H F2 H2 → Wd c F0 H0 ρ b F2 H2 σ → N0 c.fr H p → Far c H0 ρ F2 σ p → OwAt c F2 H2 p d → Q (.ref p) H2
def SndN (c : Cd) (t : TE) (w : WE) : Prop := ∀ F0 H0 ρ b F H σ, Wd c F0 H0 ρ b F H σ → ∀ q qx Q, w ρ b q qx → LkX c F0 H0 F qx → LkN c F0 H0 F H ρ σ q Q → t σ H Q
theorem owAt_frz {p : Addr} {d : Dt} (h : OwAt c F H p d) (n : F p = none) : ∃ o, ¬ IsTbl o ∧ H p = some o ∧ Rz c.K c.mg (upd F p o) (.ref p) d := by
  obtain ⟨o, ho, po⟩ := h.some
  refine ⟨o, po.1, ho, h.rz (Evl.Ex.new n) fun u hu => ?_⟩
  rw [upd_same, ← hu, ho]
theorem SndN.e (h : SndN c te we) : SndE c te we := fun F0 H0 ρ b F H σ W q qx Q hw lx l => h F0 H0 ρ b F H σ W q qx Q hw lx fun p d b2 F2 H2 hq g W2 hp f ow => by
  obtain ⟨o, t0, ho, r⟩ := owAt_frz ow f.own.nf
  exact l _ d b2 _ H2 hq (g.frz f.own.ap f.own.nf hp t0 ho) (W2.frzX f t0 ho) r
theorem snn_lst {n : Nat} (h : SndR c tas was n) (hn : n ≤ 100000) : SndN c (tLst tas) (wLst was) := fun F0 H0 ρ b F H σ W q qx Q hw lx l => h F0 H0 ρ b F H σ W _ qx _ hw lx fun vs ds b1 F1 H1 h1 e g1 W1 r1 => by
  refine ⟨Evl.sz_of (by rw [rza_len r1, e]; exact hn), fun p hp => ?_⟩
  have f := W1.far hp
  have G : Grow F1 H1 F1 (upd H1 p (.lst vs)) := Grow.tmp W1.z hp
  exact l p _ b1 F1 _ h1 (g1.trans (FrRel.of G)) (W1.grow G) (g1.back (N0.of hp)) f ⟨by rw [e]; exact hn, vs, upd_same, r1⟩
def wD0 : WE := fun _ b q _ => q (.dict []) b
theorem snn_d0 : SndN c tDNewK wD0 := fun F0 H0 ρ b F H σ W q qx Q hw lx l p hp => by
  have G : Grow F H F (upd H p (.dK [])) := Grow.tmp W.z hp
  exact l p _ b F _ hw (FrRel.of G) (W.grow G) (N0.of hp) (W.far hp) ⟨Nat.zero_le _, [], upd_same, .nil⟩
/-! ### [e for x in xs if t] -/
def wipeR (ρ : Rho) : List Nat → Rho
  | [] => ρ
  | v :: vs => put (wipeR ρ vs) v none
theorem Wd.wipes (w : Wd c F0 H0 ρ b F H σ) : ∀ vs : List Nat, Wd c F0 H0 (wipeR ρ vs) b F H (wipe σ vs)
  | [] => w
  | v :: vs => (Wd.wipes w vs).wipe1
def lcW (g : WG) (wt : WT) (we : WE) (ρ : Rho) : List Dt → Nat → (List Dt → Nat → Prop) → Prop
  | [], b, q => q [] b
  | d :: ds, b, q => g d ρ fun ρ2 => wt ρ2 b (fun k b1 => br k (we ρ2 b1 (fun y b2 => lcW g wt we ρ ds b2 fun r b3 => q (y :: r) b3) fun _ _ => False) (lcW g wt we ρ ds b1 q)) fun _ _ => False
def wLc (wi : WA) (g : WG) (wt : WT) (we : WE) (vs : List Nat) : WE := fun ρ b q qx => wi ρ b (fun ds b1 => lcW g wt we (wipeR ρ vs) ds b1 fun r b2 => q (.list r) b2) qx
theorem lkx_no : LkX c F0 H0 F fun _ _ => False := fun _ _ _ _ _ _ h => h.elim
theorem drop_at {α : Type} {l : List α} {i : Nat} (h : i < l.length) : ∃ x, l[i]? = some x ∧ l.drop i = x :: l.drop (i + 1) := ⟨l[i], List.getElem?_eq_getElem h, List.drop_eq_getElem_cons h⟩
theorem wipe_wipe (σ : L2.St) (vs : List Nat) : wipe (wipe σ vs) vs = wipe σ vs := by
  have ww : ∀ us : List Nat, (∀ u ∈ us, u ∈ vs) → wipe (wipe σ us) vs = wipe σ vs := fun us => by
    induction us with
    | nil => exact fun _ => rfl
    | cons u us ih =>
      intro h
      show wipe ((wipe σ us).set u none) vs = _
      rw [wipe_set (h u List.mem_cons_self), ih fun x hx => h x (List.mem_cons_of_mem _ hx)]
  exact ww vs fun _ h => h
theorem at_wipe {i : Nat} {d : Dt} : ∀ {vs : List Nat}, at_ (wipeR ρ vs) i = some (.ow d) → at_ ρ i = some (.ow d) ∧ i ∉ vs
  | [], h => ⟨h, List.not_mem_nil⟩
  | v :: vs, h => by
    rcases at_put h with ⟨_, _, e⟩ | ⟨n, h⟩
    · cases e
    · obtain ⟨h1, h2⟩ := at_wipe h
      exact ⟨h1, fun m => (List.mem_cons.mp m).elim n h2⟩
theorem Far.wipes (f : Far c H0 ρ F σ a) (vs : List Nat) : Far c H0 (wipeR ρ vs) F (wipe σ vs) a := ⟨f.own, fun j e h => by
  obtain ⟨h1, h2⟩ := at_wipe h
  rw [wipe_out h2]
  exact f.nw j e h1⟩
/-- where a turn stands: the list made so far at D -/
structure LcP (c : Cd) (F0 H0 : Hp) (ρ : Rho) (σ : L2.St) (F1 H1 : Hp) (D : Addr) (i : Nat) (H : Hp) (b : Nat) (Fi : Hp) (acc : List V) (ds : List Dt) : Prop where
  w : Wd c F0 H0 ρ b Fi H σ
  g : FrRel c.fr F1 H1 Fi H
  f : Far c H0 ρ Fi σ D
  n1 : N0 c.fr H1 D
  at_ : H D = some (.lst acc)
  r : RzAll c.K c.mg Fi acc ds
  l : ds.length ≤ i
theorem code_lst {H : Hp} {a : Addr} {xs : List V} (h : H a = some (.lst xs)) (q : Str) : H a ≠ some (LamX.CodeO a q) := fun e => by
  rw [h] at e
  exact plain_lst.2 q (Option.some.inj e)
theorem snn_lc {pr : Bool} {wi : TI} {wiw : WA} {g : TG} {wg : WG} {is vs : List Nat} (hi : SndI c pr wi wiw) (hg : SndG c pr g wg is) (hs : ∀ i ∈ is, i ∈ vs) (ht : SndT c tt wt) (he : SndE c te we) : SndN c (tLc wi g tt te vs) (wLc wiw wg wt we vs) :=
  fun F0 H0 ρ b F H σ W q qx Q hw lx l => hi F0 H0 ρ b F H σ W _ qx _ hw lx fun J ds b1 F1 H1 h1 g1 W1 it D hD => by
    obtain ⟨hl, G, Y, wk, hG, hY⟩ := it
    have fD := W1.far hD
    have G0 : Grow F1 H1 F1 (upd H1 D (.lst [])) := Grow.tmp W1.z hD
    refine lc_it wk (fun i H => ∃ b' Fi acc accd, LcP c F0 H0 ρ σ F1 H1 D i H b' Fi acc accd ∧ lcW wg wt we (wipeR ρ vs) (ds.drop i) b' fun r b2 => q (.list (accd ++ r)) b2)
      ⟨b1, F1, [], [], ⟨W1.grow G0, FrRel.of G0, fD, N0.of hD, upd_same, .nil, Nat.le_refl _⟩, h1⟩ (fun i H2 _ ⟨_, Fi, _, _, P, _⟩ => hG _ _ P.g) (fun i v H2 H3 hi ⟨b2, Fi, acc, accd, P, hq⟩ y => ?_) (fun H2 ⟨b2, Fi, acc, accd, P, hq⟩ => ?_)
    · obtain ⟨d, hd, e⟩ := drop_at hi
      rw [e] at hq
      obtain ⟨F3, g3, r3⟩ := hY i d hd Fi H2 v H3 P.g P.w.z y
      have W3 := P.w.grow g3
      have at3 : H3 D = some (.lst acc) := g3.hh _ _ P.at_
      have f3 := P.f.step (FrRel.of g3) tbl_lst P.at_
      have g13 := P.g.trans (FrRel.of g3)
      refine hg F0 H0 _ b2 F3 H3 _ (W3.wipes vs) v d _ _ r3 hq fun ρ2 σ2 hk W4 hw2 => ⟨(hw2 vs hs).trans (wipe_wipe σ vs), ?_⟩
      refine ht F0 H0 ρ2 b2 F3 H3 σ2 W4 _ _ _ hk lkx_no fun k b5 F5 H5 h5 g5 W5 => ?_
      have at5 : H5 D = some (.lst acc) := g5.own tbl_lst f3.own.ap at3
      have f5 := f3.step g5 tbl_lst at3
      have W5' : Wd c F0 H0 ρ b5 F5 H5 σ := W3.step g5 W5.ok
      have r5 := rza_ex (g3.ff.trans g5.ff) P.r
      cases k with
      | false =>
        refine iteF ⟨b5, F5, acc, accd, ⟨W5', g13.trans g5, f5, P.n1, at5, r5, Nat.le_succ_of_le P.l⟩, h5⟩
      | true =>
        refine iteT (he F0 H0 ρ2 b5 F5 H5 σ2 W5 _ _ _ h5 lkx_no fun y d6 b6 F6 H6 h6 g6 W6 r6 => ?_)
        have at6 : H6 D = some (.lst acc) := g6.own tbl_lst f5.own.ap at5
        have f6 := f5.step g6 tbl_lst at5
        have W6' : Wd c F0 H0 ρ b6 F6 H6 σ := W5'.step g6 W6.ok
        have ll : accd.length + 1 ≤ 100000 := Nat.le_trans (Nat.succ_le_succ P.l) (Nat.le_trans hi hl)
        refine ⟨acc, at6, Evl.sz_lt (by rw [rza_len P.r]; omega), b6, F6, acc ++ [y], accd ++ [d6], ⟨W6'.mutX f6 (code_lst at6), ((g13.trans g5).trans g6).mut f6.own.ap f6.own.nf P.n1, f6, P.n1, upd_same, rza_app (rza_ex g6.ff r5) (.cons r6 .nil), by rw [List.length_append]; exact Nat.succ_le_succ P.l⟩, ?_⟩
        have ef : (fun r b3 => q (Dt.list ((accd ++ [d6]) ++ r)) b3) = fun r b3 => q (Dt.list (accd ++ d6 :: r)) b3 := by
          funext r b3
          rw [List.append_assoc]
          rfl
        rw [ef]
        exact h6
    · rw [List.drop_length] at hq
      have hq : q (.list (accd ++ [])) b2 := hq
      rw [List.append_nil] at hq
      exact l D _ b2 Fi H2 hq (g1.trans P.g) P.w (g1.back P.n1) P.f ⟨Nat.le_trans P.l hl, acc, P.at_, P.r⟩
/-! ### statements -/
variable {ts tr tbd : TS} {ws wr wbd : WS}
def wSeq (w u : WS) : WS := fun D ρ b => w { D with nx := u D } ρ b
theorem ss_seq (h : SndS c ts ws) (k : SndS c tr wr) : SndS c (tSeq ts tr) (wSeq ws wr) := fun F0 H0 ρ b F H σ W D E hw l => h F0 H0 ρ b F H σ W _ _ hw ⟨fun ρ2 b2 F2 H2 σ2 h2 e W2 => k F0 H0 ρ2 b2 F2 H2 σ2 W2 D E h2 (l.mono e), l.rt, l.bk, l.ct, l.x⟩
def wNext : WS := fun D ρ b => D.nx ρ b
theorem ss_next : SndS c tNext wNext := fun F0 H0 ρ b F H σ W D E hw l => l.nx ρ b F H σ hw (Evl.Ex.refl _) W
def wRet (w : WE) : WS := fun D ρ b => w ρ b D.rt D.ex
theorem ss_ret (h : SndE c te we) : SndS c (tRet te) (wRet we) := fun F0 H0 ρ b F H σ W D E hw l => h F0 H0 ρ b F H σ W _ _ _ hw l.x fun v d b2 F2 H2 hq g W2 r => l.rt v d b2 F2 H2 hq g.ff W2.ok W2.rel r
def wRetN : WS := fun D _ b => D.rt .none b
theorem ss_retN : SndS c tRetN wRetN := fun F0 H0 ρ b F H σ W D E hw l => l.rt .non .none b F H hw (Evl.Ex.refl _) W.ok W.rel .non
def wIfS (wt : WT) (w u : WS) : WS := fun D ρ b => wt ρ b (fun k b1 => br k (w D ρ b1) (u D ρ b1)) D.ex
theorem ss_if (h : SndT c tt wt) (k : SndS c ts ws) (j : SndS c tr wr) : SndS c (tIfS tt ts tr) (wIfS wt ws wr) := fun F0 H0 ρ b F H σ W D E hw l => h F0 H0 ρ b F H σ W _ _ _ hw l.x fun x b1 F1 H1 h1 g1 W1 => by
  cases x with
  | true => exact iteT (k F0 H0 ρ b1 F1 H1 σ W1 D E h1 (l.mono g1.ff))
  | false => exact iteF (j F0 H0 ρ b1 F1 H1 σ W1 D E h1 (l.mono g1.ff))
def wDrop (w : WE) : WS := fun D ρ b => w ρ b (fun _ b1 => D.nx ρ b1) D.ex
theorem ss_drop (h : SndE c te we) : SndS c (tDrop te) (wDrop we) := fun F0 H0 ρ b F H σ W D E hw l => h F0 H0 ρ b F H σ W _ _ _ hw l.x fun v d b2 F2 H2 hq g W2 r => l.nx ρ b2 F2 H2 σ hq g.ff W2
def wNever : WS := fun _ _ _ => False
theorem ss_never : SndS c tNever wNever := fun F0 H0 ρ b F H σ W D E hw l => hw.elim
def wBreak : WS := fun D ρ b => D.bk ρ b
theorem ss_break : SndS c tBreak wBreak := fun F0 H0 ρ b F H σ W D E hw l => l.bk ρ b F H σ hw (Evl.Ex.refl _) W
def wCont : WS := fun D ρ b => D.ct ρ b
theorem ss_cont : SndS c tCont wCont := fun F0 H0 ρ b F H σ W D E hw l => l.ct ρ b F H σ hw (Evl.Ex.refl _) W
/-- x = e, (x, y) = e -/
def wAsg (w : WE) (g : WG) : WS := fun D ρ b => w ρ b (fun d b1 => g d ρ fun ρ2 => D.nx ρ2 b1) D.ex
theorem ss_asg {g : TG} {wg : WG} {is : List Nat} (h : SndE c te we) (hg : SndG c false g wg is) : SndS c (tAsg te g) (wAsg we wg) := fun F0 H0 ρ b F H σ W D E hw l => h F0 H0 ρ b F H σ W _ _ _ hw l.x fun v d b2 F2 H2 hq g2 W2 r =>
  hg F0 H0 ρ b2 F2 H2 σ W2 v d _ _ (.inl r) hq fun ρ2 σ2 hk W3 _ => l.nx ρ2 b2 F2 H2 σ2 hk g2.ff W3
/-- x = a new list of one's own -/
def wAsgN (w : WE) (i : Nat) : WS := fun D ρ b => w ρ b (fun d b1 => D.nx (put ρ i (some (.ow d))) b1) D.ex
theorem ss_asgN {i : Nat} (h : SndN c te we) : SndS c (tAsg te (gName i)) (wAsgN we i) := fun F0 H0 ρ b F H σ W D E hw l => h F0 H0 ρ b F H σ W _ _ _ hw l.x fun p d b2 F2 H2 hq g2 W2 hp f o =>
  l.nx _ b2 F2 H2 _ hq g2.ff (W2.setOw o f.own f.nw)
/-- what is in slot i is one's own no more (a step of thought) -/
def wFrz (i : Nat) (w : WS) : WS := fun D ρ b => match at_ ρ i with
  | some (.ow d) => w D (put ρ i (some (.sh d))) b
  | _ => False
theorem ss_frz {i : Nat} (h : SndS c ts ws) : SndS c ts (wFrz i ws) := fun F0 H0 ρ b F H σ W D E hw l => by
  unfold wFrz at hw
  split at hw
  · rename_i d hd
    obtain ⟨a, F2, e, x, r, W2⟩ := W.frz hd
    exact h F0 H0 _ b F2 H σ W2 D E hw (l.mono x)
  · exact hw.elim
/-- x, y = a, b -/
def wPar (i j : Nat) (ws : WA) : WS := fun D ρ b => ws ρ b (fun ds b1 => match ds with
  | [d, e] => D.nx (put (put ρ i (some (.sh d))) j (some (.sh e))) b1
  | _ => False) D.ex
theorem ss_par {i j : Nat} (h : SndR c tas was 2) : SndS c (tPar i j tas) (wPar i j was) := fun F0 H0 ρ b F H σ W D E hw l => h F0 H0 ρ b F H σ W _ _ _ hw l.x fun vs ds b2 F2 H2 hq _ g2 W2 r => by
  split at hq
  · cases r with
    | cons r1 t =>
      cases t with
      | cons r2 t =>
        cases t
        exact ⟨_, _, rfl, l.nx _ b2 F2 H2 _ hq g2.ff ((W2.set r1).set r2)⟩
  · exact hq.elim
def wPar3 (i j k : Nat) (ws : WA) : WS := fun D ρ b => ws ρ b (fun ds b1 => match ds with
  | [d, e, f] => D.nx (put (put (put ρ i (some (.sh d))) j (some (.sh e))) k (some (.sh f))) b1
  | _ => False) D.ex
theorem ss_par3 {i j k : Nat} (h : SndR c tas was 3) : SndS c (tPar3 i j k tas) (wPar3 i j k was) := fun F0 H0 ρ b F H σ W D E hw l => h F0 H0 ρ b F H σ W _ _ _ hw l.x fun vs ds b2 F2 H2 hq _ g2 W2 r => by
  split at hq
  · cases r with
    | cons r1 t =>
      cases t with
      | cons r2 t =>
        cases t with
        | cons r3 t =>
          cases t
          exact ⟨_, _, _, rfl, l.nx _ b2 F2 H2 _ hq g2.ff (((W2.set r1).set r2).set r3)⟩
  · exact hq.elim
/-- x.append(e), x one's own -/
def wAppend (i : Nat) (w : WE) : WS := fun D ρ b => match at_ ρ i with
  | some (.ow (.list ds)) => w ρ b (fun d b1 => ds.length < 100000 ∧ D.nx (put ρ i (some (.ow (.list (ds ++ [d]))))) b1) D.ex
  | _ => False
theorem ss_append {i : Nat} (h : SndE c te we) : SndS c (tDrop (tBM c.K "list" rAppend (tVar i) (tCons te tNil))) (wAppend i we) := fun F0 H0 ρ b F H σ W D E hw l => by
  unfold wAppend at hw
  split at hw
  · rename_i ds hd
    obtain ⟨a, e, o, n⟩ := W.sl i _ hd
    have o' := o
    obtain ⟨_, vs, hv, rv⟩ := o'
    refine ⟨_, e, .inl ⟨rfl, vs, SqL.of hv⟩, h F0 H0 ρ b F H σ W _ _ _ hw l.x fun v d b1 F1 H1 h1 g1 W1 r => ?_⟩
    have o1 := o.mono g1.ff fun x t hx => g1.own t n.ap hx
    obtain ⟨l1, us, hu, ru⟩ := o1
    refine ⟨a, us, v, rfl, rfl, hu, Evl.sz_lt (by rw [rza_len ru]; exact h1.1), l.nx _ b1 F1 _ σ h1.2 g1.ff (W1.mut hd e ⟨by rw [List.length_append]; exact h1.1, _, upd_same, rza_app ru (.cons r .nil)⟩)⟩
  · exact hw.elim
/-- x[k] = e, x one's own, by place -/
def setAt (ds : List Dt) (i : Int) (d : Dt) : Option (List Dt) := (ixN ds.length i).map fun j => ds.set j d
/-- for x in xs: .. -/
def forW (g : WG) (w : WS) (D : WEnds) : List Dt → Rho → Nat → Prop
  | [], ρ, b => D.nx ρ b
  | d :: ds, ρ, b => g d ρ fun ρ2 => w { D with nx := forW g w D ds, ct := forW g w D ds, bk := D.nx } ρ2 b
def wFor (wi : WA) (g : WG) (w : WS) : WS := fun D ρ b => wi ρ b (fun ds b1 => forW g w D ds ρ b1) D.ex
theorem ss_for {pr : Bool} {wi : TI} {wiw : WA} {g : TG} {wg : WG} {is : List Nat} (hi : SndF c pr wi wiw) (hg : SndG c pr g wg is) (hb : SndS c tbd wbd) : SndS c (tFor wi g tbd) (wFor wiw wg wbd) := fun F0 H0 ρ b F H σ W D E hw l =>
  hi F0 H0 ρ b F H σ W _ _ _ hw l.x fun J ds b1 F1 H1 h1 g1 W1 it => by
    obtain ⟨hl, G, Y, wk, hG, hY⟩ := it
    refine for_it wk (fun i σ H => ∃ ρ' b' Fi, Wd c F0 H0 ρ' b' Fi H σ ∧ Ex F1 Fi ∧ forW wg wbd D (ds.drop i) ρ' b') ⟨ρ, b1, F1, W1, Evl.Ex.refl _, h1⟩ (fun i σ H _ ⟨_, Fi, _, w, e, _⟩ => ?_) (fun i v σ H H' hi ⟨ρ', b', Fi, w, e, hq⟩ y => ?_) (fun σ H ⟨ρ', b', Fi, w, e, hq⟩ => ?_)
    · exact hG _ _ ⟨e, w.z⟩
    · obtain ⟨d, hd, ed⟩ := drop_at hi
      rw [ed] at hq
      obtain ⟨F3, g3, r3⟩ := hY i d hd Fi H v H' ⟨e, w.z⟩ w.z y
      refine hg F0 H0 ρ' b' F3 H' σ (w.grow g3) v d _ _ r3 hq fun ρ2 σ2 hk W2 _ => hb F0 H0 ρ2 b' F3 H' σ2 W2 _ _ hk ?_
      have e3 := e.trans g3.ff
      exact ⟨fun ρ4 b4 F4 H4 σ4 h4 e4 W4 => ⟨ρ4, b4, F4, W4, e3.trans e4, h4⟩, fun v d b4 F4 H4 h4 e4 => l.rt v d b4 F4 H4 h4 (g1.ff.trans (e3.trans e4)), fun ρ4 b4 F4 H4 σ4 h4 e4 W4 => l.nx ρ4 b4 F4 H4 σ4 h4 (g1.ff.trans (e3.trans e4)) W4,
        fun ρ4 b4 F4 H4 σ4 h4 e4 W4 => ⟨ρ4, b4, F4, W4, e3.trans e4, h4⟩, l.x.mono (g1.ff.trans e3)⟩
    · rw [List.drop_length] at hq
      exact l.nx ρ' b' Fi H σ hq (g1.ff.trans e) w
/-- while t: .. -/
def whW (wt : WT) (w : WS) (D : WEnds) : Nat → Rho → Nat → Prop
  | 0, _, _ => False
  | n + 1, ρ, b => wt ρ b (fun k b1 => br k (w { D with nx := whW wt w D n, ct := whW wt w D n, bk := D.nx } ρ b1) (D.nx ρ b1)) D.ex
def wWhile (wt : WT) (w : WS) : WS := fun D ρ b => ∃ n, whW wt w D n ρ b
theorem ss_while (ht : SndT c tt wt) (hb : SndS c tbd wbd) : SndS c (tWhile tt tbd) (wWhile wt wbd) := fun F0 H0 ρ b F H σ W D E ⟨n, hn⟩ l => by
  refine ⟨fun m σ H => ∃ ρ' b' Fi, Wd c F0 H0 ρ' b' Fi H σ ∧ Ex F Fi ∧ whW wt wbd D m ρ' b', ⟨n, ρ, b, F, W, Evl.Ex.refl _, hn⟩, ?_⟩
  rintro m σ H ⟨ρ', b', Fi, w, e, hq⟩
  cases m with
  | zero => exact hq.elim
  | succ m =>
    refine ht F0 H0 ρ' b' Fi H σ w _ _ _ hq (l.x.mono e) fun k b1 F1 H1 h1 g1 W1 => ?_
    cases k with
    | false => exact iteF (l.nx ρ' b1 F1 H1 σ h1 (e.trans g1.ff) W1)
    | true =>
      refine iteT ⟨fun σ H => ∃ ρ' b' Fi, Wd c F0 H0 ρ' b' Fi H σ ∧ Ex F Fi ∧ whW wt wbd D m ρ' b', fun σ' H' h => ⟨m, Nat.lt_succ_self m, h⟩, hb F0 H0 ρ' b1 F1 H1 σ W1 _ _ h1 ?_⟩
      have e3 := e.trans g1.ff
      exact ⟨fun ρ4 b4 F4 H4 σ4 h4 e4 W4 => ⟨ρ4, b4, F4, W4, e3.trans e4, h4⟩, fun v d b4 F4 H4 h4 e4 => l.rt v d b4 F4 H4 h4 (e3.trans e4), fun ρ4 b4 F4 H4 σ4 h4 e4 W4 => l.nx ρ4 b4 F4 H4 σ4 h4 (e3.trans e4) W4,
        fun ρ4 b4 F4 H4 σ4 h4 e4 W4 => ⟨ρ4, b4, F4, W4, e3.trans e4, h4⟩, l.x.mono e3⟩
end
end Dw
set_option Elab.async false
set_option linter.all false
set_option maxRecDepth 100000
set_option maxHeartbeats 4000000
/-! Data-level wp: stores, dicts, isinstance, texts' methods, built-ins. -/
namespace Dw
open PySem PySem.Spec PyProof.Rows L2 Cn
section
variable {c : Cd} {ta tb te tk tv td : TE} {tt tu : TT} {tas tbs : TA} {wa wb we wk wv wd : WE} {wt wu : WT} {was : WA} {F H F2 H2 F0 H0 : Hp} {ρ : Rho} {b : Nat} {σ : L2.St} {a : Addr} {o : HO}
/-! ### x[k] = e, x a list of one's own -/
def wSetL (i : Nat) (wk we : WE) : WS := fun D ρ b => match at_ ρ i with
  | some (.ow (.list ds)) => we ρ b (fun d b1 => wk ρ b1 (fun k b2 => match k with
    | .int n => match setAt ds n d with
      | some ds2 => D.nx (put ρ i (some (.ow (.list ds2)))) b2
      | Option.none => False
    | _ => False) D.ex) D.ex
  | _ => False
theorem rza_set {K : PySem.W.Frag} {mg : Str → Option Value} {F : Hp} {v : V} {d : Dt} (r : Rz K mg F v d) : ∀ {vs : List V} {ds : List Dt} (j : Nat), RzAll K mg F vs ds → RzAll K mg F (vs.set j v) (ds.set j d)
  | _, _, _, .nil => .nil
  | _, _, 0, .cons _ t => .cons r t
  | _, _, j + 1, .cons h t => .cons h (rza_set r j t)
theorem ss_setL {i : Nat} (he : SndE c te we) (hk : SndE c tk wk) : SndS c (tAsg te (gSub (tVar i) tk rSetL)) (wSetL i wk we) := fun F0 H0 ρ b F H σ W D E hw l => by
  unfold wSetL at hw
  split at hw
  · rename_i ds hd
    obtain ⟨a, e, o, n⟩ := W.sl i _ hd
    refine he F0 H0 ρ b F H σ W _ _ _ hw l.x fun v d b1 F1 H1 h1 g1 W1 r => ⟨_, e, hk F0 H0 ρ b1 F1 H1 σ W1 _ _ _ h1 (l.x.mono g1.ff) fun u k b2 F2 H2 h2 g2 W2 rk => ?_⟩
    cases rk with
    | int m =>
      have h2 : (match setAt ds m d with
        | some ds2 => D.nx (put ρ i (some (.ow (.list ds2)))) b2
        | Option.none => False) := h2
      split at h2
      · rename_i ds2 h3
        unfold setAt at h3
        obtain ⟨j, h4, rfl⟩ := Option.map_eq_some_iff.mp h3
        obtain ⟨l1, us, hu, ru⟩ := o.mono (g1.ff.trans g2.ff) fun x t hx => g2.own t n.ap (g1.own t n.ap hx)
        refine ⟨a, us, m, j, rfl, rfl, hu, by rw [rza_len ru]; exact h4, l.nx _ b2 F2 _ σ h2 (g1.ff.trans g2.ff) (W2.mut hd e ⟨by rw [List.length_set]; exact l1, _, upd_same, rza_set (rz_ex g2.ff r) j ru⟩)⟩
      · exact h2.elim
    | _ => exact h2.elim
  · exact hw.elim
/-! ### dicts -/
def keyD : Dt → Option Key
  | .int i => some (.inl i)
  | .str s => some (.inr s)
  | _ => Option.none
def kvGet (kvs : List (Key × Dt)) (k : Key) : Option Dt := (kvs.find? fun kv => decide (kv.1 = k)).map (·.2)
def kvPut (kvs : List (Key × Dt)) (k : Key) (v : Dt) : List (Key × Dt) :=
  if (kvs.any fun kv => decide (kv.1 = k)) = true then kvs.map (fun kv => if kv.1 = k then (kv.1, v) else kv) else kvs ++ [(k, v)]
theorem pb_key {v : V} {d : Dt} {k : Key} (p : Pb c F H v d) (z : Ex F H) (h : keyD d = some k) : v = kV k := by
  cases d <;> first | (cases h; done) | skip
  · cases h; exact pb_int p z
  · cases h; exact pb_str p z
theorem rz_key {v : V} {d : Dt} {k : Key} (p : Rz c.K c.mg F v d) (h : keyD d = some k) : v = kV k := by
  cases p <;> first | (cases h; done) | (cases h; rfl)
theorem rzk_get {K : PySem.W.Frag} {mg : Str → Option Value} {F : Hp} {k : Key} : ∀ {vs : List (Key × V)} {ds : List (Key × Dt)}, RzKV K mg F vs ds → (valV vs k = Option.none ∧ kvGet ds k = Option.none) ∨ ∃ v d, valV vs k = some v ∧ kvGet ds k = some d ∧ Rz K mg F v d
  | _, _, .nil => .inl ⟨rfl, rfl⟩
  | (k1, v) :: vs, (_, d) :: ds, .cons r t => by
    by_cases e : k1 = k
    · exact .inr ⟨v, d, valV_pos e, by unfold kvGet; rw [List.find?_cons_of_pos (by simpa using e)]; rfl, r⟩
    · have e2 : kvGet ((k1, d) :: ds) k = kvGet ds k := by unfold kvGet; rw [List.find?_cons_of_neg (by simpa using e)]
      rw [valV_neg (p := (k1, v)) e, e2]
      exact rzk_get t
theorem rzk_any {K : PySem.W.Frag} {mg : Str → Option Value} {F : Hp} {k : Key} : ∀ {vs : List (Key × V)} {ds : List (Key × Dt)}, RzKV K mg F vs ds → (vs.any fun kv => decide (kv.1 = k)) = ds.any fun kv => decide (kv.1 = k)
  | _, _, .nil => rfl
  | _, _, .cons r t => by rw [List.any_cons, List.any_cons, rzk_any t]
theorem rzk_len {K : PySem.W.Frag} {mg : Str → Option Value} {F : Hp} : ∀ {vs : List (Key × V)} {ds : List (Key × Dt)}, RzKV K mg F vs ds → vs.length = ds.length
  | _, _, .nil => rfl
  | _, _, .cons _ t => by rw [List.length_cons, List.length_cons, rzk_len t]
theorem rzk_app {K : PySem.W.Frag} {mg : Str → Option Value} {F : Hp} {k : Key} {v : V} {d : Dt} (r : Rz K mg F v d) : ∀ {vs : List (Key × V)} {ds : List (Key × Dt)}, RzKV K mg F vs ds → RzKV K mg F (vs ++ [(k, v)]) (ds ++ [(k, d)])
  | _, _, .nil => .cons r .nil
  | _, _, .cons h t => .cons h (rzk_app r t)
theorem rzk_map {K : PySem.W.Frag} {mg : Str → Option Value} {F : Hp} {k : Key} {v : V} {d : Dt} (r : Rz K mg F v d) : ∀ {vs : List (Key × V)} {ds : List (Key × Dt)}, RzKV K mg F vs ds → RzKV K mg F (vs.map fun kv => if kv.1 = k then (kv.1, v) else kv) (ds.map fun kv => if kv.1 = k then (kv.1, d) else kv)
  | _, _, .nil => .nil
  | (k1, v1) :: vs, (_, d1) :: ds, .cons h t => by
    rw [List.map_cons, List.map_cons]
    by_cases e : k1 = k
    · rw [if_pos e, if_pos e]
      exact .cons r (rzk_map r t)
    · rw [if_neg e, if_neg e]
      exact .cons h (rzk_map r t)
theorem rzk_put {K : PySem.W.Frag} {mg : Str → Option Value} {F : Hp} {k : Key} {v : V} {d : Dt} {vs : List (Key × V)} {ds : List (Key × Dt)} (r : Rz K mg F v d) (h : RzKV K mg F vs ds) : RzKV K mg F (putK vs k v) (kvPut ds k d) := by
  unfold putK kvPut
  rw [rzk_any h]
  split
  · exact rzk_map r h
  · exact rzk_app r h
theorem kvPut_len (ds : List (Key × Dt)) (k : Key) (d : Dt) : (kvPut ds k d).length ≤ ds.length + 1 := by
  unfold kvPut
  split
  · rw [List.length_map]; omega
  · rw [List.length_append]; exact Nat.le_refl _
/-- d[k] = e, d one's own -/
def wDPut (i : Nat) (wk we : WE) : WS := fun D ρ b => match at_ ρ i with
  | some (.ow (.dict ds)) => we ρ b (fun d b1 => wk ρ b1 (fun k b2 => match keyD k with
    | some key => ds.length < 100000 ∧ D.nx (put ρ i (some (.ow (.dict (kvPut ds key d))))) b2
    | Option.none => False) D.ex) D.ex
  | _ => False
theorem ss_dput {i : Nat} (he : SndE c te we) (hk : SndE c tk wk) : SndS c (sDPut (tVar i) tk te) (wDPut i wk we) := fun F0 H0 ρ b F H σ W D E hw l => by
  unfold wDPut at hw
  split at hw
  · rename_i ds hd
    obtain ⟨a, e, o, n⟩ := W.sl i _ hd
    refine he F0 H0 ρ b F H σ W _ _ _ hw l.x fun v d b1 F1 H1 h1 g1 W1 r => ⟨_, e, hk F0 H0 ρ b1 F1 H1 σ W1 _ _ _ h1 (l.x.mono g1.ff) fun u k b2 F2 H2 h2 g2 W2 rk => ?_⟩
    split at h2
    · rename_i key hkey
      obtain ⟨l1, us, hu, ru⟩ := o.mono (g1.ff.trans g2.ff) fun x t hx => g2.own t n.ap (g1.own t n.ap hx)
      have ek := rz_key rk hkey
      refine ⟨a, _, rfl, .inl ⟨us, key, hu, ek, Evl.sz_lt (by rw [rzk_len ru]; exact h2.1), rfl⟩, l.nx _ b2 F2 _ σ h2.2 (g1.ff.trans g2.ff) (W2.mut hd e ⟨?_, _, upd_same, rzk_put (rz_ex g2.ff r) ru⟩)⟩
      exact Nat.le_trans (kvPut_len _ _ _) h2.1
    · exact h2.elim
  · exact hw.elim
/-- d[k] -/
def dgetD (d k : Dt) (q : Dt → Prop) : Prop := match d, keyD k with
  | .dict kvs, some key => match kvGet kvs key with
    | some v => q v
    | Option.none => False
  | _, _ => False
def wDGet (wd wk : WE) : WE := wOp dgetD wd wk
theorem sn_dget (hd : SndB c td wd) (hk : SndB c tk wk) : SndE c (tDGet td tk) (wDGet wd wk) := fun F0 H0 ρ b F H σ W q qx Q h lx l =>
  hd F0 H0 ρ b F H σ W _ qx _ h lx fun x d b1 F1 H1 h1 g1 W1 p1 => hk F0 H0 ρ b1 F1 H1 σ W1 _ qx _ h1 (lx.mono g1.ff) fun y e b2 F2 H2 h2 g2 W2 p2 => by
    unfold dgetD at h2
    split at h2
    · rename_i kvs key hkey
      obtain ⟨a, us, rfl, hu, ru, _⟩ := pb_dct (p1.step g2) W2.z
      rcases rzk_get (k := key) ru with ⟨_, e⟩ | ⟨v, d, e1, e2, r⟩
      · rw [e] at h2
        exact h2.elim
      · rw [e2] at h2
        refine ⟨a, v, rfl, ?_, l v d b2 F2 H2 h2 (g1.trans g2) W2 r⟩
        rw [pb_key p2 W2.z hkey, ← e1]
        exact DGet.k hu
    · exact h2.elim
/-- d.get(k), d.get(k, x) -/
def wDGet1 (wd wk : WE) : WE := fun ρ b q qx => wd ρ b (fun d b1 => match d with
  | .dict kvs => wk ρ b1 (fun k b2 => match keyD k with
    | some key => q ((kvGet kvs key).getD .none) b2
    | Option.none => False) qx
  | _ => False) qx
theorem pb_isD {v : V} {ds : List (Key × Dt)} (p : Pb c F H v (.dict ds)) (z : Ex F H) : ∃ a, v = .ref a ∧ IsD H a := by
  obtain ⟨a, us, e, hu, _⟩ := pb_dct p z
  exact ⟨a, e, .inl ⟨us, .inl hu⟩⟩
theorem pb_get {v y : V} {k : Dt} {key : Key} {ds : List (Key × Dt)} (p : Pb c F H v (.dict ds)) (py : Pb c F H y k) (z : Ex F H) (hk : keyD k = some key) : ∃ a r, v = .ref a ∧ DGet H a y r ∧ ((r = Option.none ∧ kvGet ds key = Option.none) ∨ ∃ w d, r = some w ∧ kvGet ds key = some d ∧ Rz c.K c.mg F w d) := by
  obtain ⟨a, us, e, hu, ru, _⟩ := pb_dct p z
  refine ⟨a, valV us key, e, ?_, ?_⟩
  · rw [pb_key py z hk]
    exact DGet.k hu
  · rcases rzk_get (k := key) ru with ⟨e1, e2⟩ | ⟨v, d, e1, e2, r⟩
    · exact .inl ⟨e1, e2⟩
    · exact .inr ⟨v, d, e1, e2, r⟩
theorem sn_dget1 (hd : SndB c td wd) (hk : SndE c tk wk) : SndE c (tDGet1 td tk) (wDGet1 wd wk) := fun F0 H0 ρ b F H σ W q qx Q h lx l =>
  hd F0 H0 ρ b F H σ W _ qx _ h lx fun x d b1 F1 H1 h1 g1 W1 p1 => by
    split at h1
    · obtain ⟨a, e, isd⟩ := pb_isD p1 W1.z
      refine ⟨a, e, isd, hk F0 H0 ρ b1 F1 H1 σ W1 _ qx _ h1 (lx.mono g1.ff) fun y k b2 F2 H2 h2 g2 W2 r2 => ?_⟩
      split at h2
      · rename_i key hkey
        obtain ⟨a', r, e', hg, hr⟩ := pb_get (p1.step g2) (Pb.of r2) W2.z hkey
        rw [e] at e'
        cases e'
        refine ⟨r, hg, ?_⟩
        rcases hr with ⟨rfl, e2⟩ | ⟨w, d, rfl, e2, rw'⟩
        · rw [e2] at h2
          exact l _ _ b2 F2 H2 h2 (g1.trans g2) W2 .non
        · rw [e2] at h2
          exact l _ _ b2 F2 H2 h2 (g1.trans g2) W2 rw'
      · exact h2.elim
    · exact h1.elim
def wDGet2 (wd wk we : WE) : WE := fun ρ b q qx => wd ρ b (fun d b1 => match d with
  | .dict kvs => wk ρ b1 (fun k b2 => we ρ b2 (fun x b3 => match keyD k with
    | some key => q ((kvGet kvs key).getD x) b3
    | Option.none => False) qx) qx
  | _ => False) qx
theorem sn_dget2 (hd : SndB c td wd) (hk : SndE c tk wk) (he : SndE c te we) : SndE c (tDGet2 td tk te) (wDGet2 wd wk we) := fun F0 H0 ρ b F H σ W q qx Q h lx l =>
  hd F0 H0 ρ b F H σ W _ qx _ h lx fun x d b1 F1 H1 h1 g1 W1 p1 => by
    split at h1
    · obtain ⟨a, e, isd⟩ := pb_isD p1 W1.z
      refine ⟨a, e, isd, hk F0 H0 ρ b1 F1 H1 σ W1 _ qx _ h1 (lx.mono g1.ff) fun y k b2 F2 H2 h2 g2 W2 r2 => he F0 H0 ρ b2 F2 H2 σ W2 _ qx _ h2 (lx.mono (g1.ff.trans g2.ff)) fun u m b3 F3 H3 h3 g3 W3 r3 => ?_⟩
      split at h3
      · rename_i key hkey
        obtain ⟨a', r, e', hg, hr⟩ := pb_get ((p1.step g2).step g3) ((Pb.of r2 : Pb c F2 H2 y k).step g3) W3.z hkey
        rw [e] at e'
        cases e'
        refine ⟨r, hg, ?_⟩
        rcases hr with ⟨rfl, e2⟩ | ⟨w, d, rfl, e2, rw'⟩
        · rw [e2] at h3
          exact l _ _ b3 F3 H3 h3 ((g1.trans g2).trans g3) W3 r3
        · rw [e2] at h3
          exact l _ _ b3 F3 H3 h3 ((g1.trans g2).trans g3) W3 rw'
      · exact h3.elim
    · exact h1.elim
/-- k in d -/
def dinD (neg : Bool) : Op2 := fun k d q => match d, keyD k with
  | .dict kvs, some key => q (.bool (if neg then !(kvGet kvs key).isSome else (kvGet kvs key).isSome))
  | _, _ => False
theorem sn_din (hk : SndB c tk wk) (hd : SndB c td wd) : SndE c (tDIn tk td) (wOp (dinD false) wk wd) := fun F0 H0 ρ b F H σ W q qx Q h lx l =>
  hk F0 H0 ρ b F H σ W _ qx _ h lx fun y k b1 F1 H1 h1 g1 W1 p1 => hd F0 H0 ρ b1 F1 H1 σ W1 _ qx _ h1 (lx.mono g1.ff) fun x d b2 F2 H2 h2 g2 W2 p2 => by
    unfold dinD at h2
    split at h2
    · rename_i key hkey
      obtain ⟨a', r, e', hg, hr⟩ := pb_get p2 (p1.step g2) W2.z hkey
      refine ⟨a', r, e', hg, ?_⟩
      rcases hr with ⟨rfl, e2⟩ | ⟨w, d, rfl, e2, rw'⟩
      · rw [e2] at h2
        exact l _ _ b2 F2 H2 h2 (g1.trans g2) W2 (.bl _)
      · rw [e2] at h2
        exact l _ _ b2 F2 H2 h2 (g1.trans g2) W2 (.bl _)
    · exact h2.elim
theorem sn_dnotin (hk : SndB c tk wk) (hd : SndB c td wd) : SndE c (tDNotIn tk td) (wOp (dinD true) wk wd) := fun F0 H0 ρ b F H σ W q qx Q h lx l =>
  hk F0 H0 ρ b F H σ W _ qx _ h lx fun y k b1 F1 H1 h1 g1 W1 p1 => hd F0 H0 ρ b1 F1 H1 σ W1 _ qx _ h1 (lx.mono g1.ff) fun x d b2 F2 H2 h2 g2 W2 p2 => by
    unfold dinD at h2
    split at h2
    · rename_i key hkey
      obtain ⟨a', r, e', hg, hr⟩ := pb_get p2 (p1.step g2) W2.z hkey
      refine ⟨a', r, e', hg, ?_⟩
      rcases hr with ⟨rfl, e2⟩ | ⟨w, d, rfl, e2, rw'⟩
      · rw [e2] at h2
        exact l _ _ b2 F2 H2 h2 (g1.trans g2) W2 (.bl _)
      · rw [e2] at h2
        exact l _ _ b2 F2 H2 h2 (g1.trans g2) W2 (.bl _)
    · exact h2.elim
/-! ### isinstance of built-in types -/
inductive Bt | int | bool | str | list | tuple | dict
def Bt.nm : Bt → String
  | .int => "int" | .bool => "bool" | .str => "str" | .list => "list" | .tuple => "tuple" | .dict => "dict"
def isiD : Bt → Dt → Option Bool
  | _, .obj _ _ => Option.none
  | _, .err _ _ => Option.none
  | .int, .int _ => some true
  | .int, .bool _ => some true
  | .bool, .bool _ => some true
  | .str, .str _ => some true
  | .list, .list _ => some true
  | .tuple, .tuple _ => some true
  | .dict, .dict _ => some true
  | _, _ => some false
def tyN : Dt → String
  | .none => "NoneType"
  | .bool _ => "bool"
  | .int _ => "int"
  | .str _ => "str"
  | .list _ => "list"
  | .tuple _ => "tuple"
  | _ => "dict"
theorem kit_isi {T : Bt} {d : Dt} {k : Bool} (h : isiD T d = some k) : kitB (tyN d) T.nm = some k := by
  cases d <;> cases T <;> cases h <;> (simp only [tyN, Bt.nm]; decide +kernel)
theorem pb_ty {v : V} {d : Dt} {T : Bt} {k : Bool} (p : Pb c F H v d) (z : Ex F H) (h : isiD T d = some k) : TyX c.K H v (.type (tyN d)) := by
  cases d <;> first | (cases T <;> cases h; done) | skip
  · rw [pb_non p z]; exact .base .non
  · rw [pb_bl p z]; exact .base (.bl _)
  · rw [pb_int p z]; exact .base (.int _)
  · rw [pb_str p z]; exact .base (.str _)
  · obtain ⟨a, xs, rfl, hx, _⟩ := pb_lst p z
    exact .base (.lst hx)
  · obtain ⟨a, xs, rfl, hx, _⟩ := pb_tup p z
    rcases hx.ex z with ⟨o, h, _⟩ | ⟨o, its, n, h, k, _⟩
    · exact .fTuple h
    · exact .kTuple h k
  · obtain ⟨a, xs, rfl, hx, _⟩ := pb_dct p z
    exact .base (.dK hx)
def wIsi (T : Bt) (w : WE) : WE := fun ρ b q qx => w ρ b (fun d b1 => match isiD T d with
  | some k => q (.bool k) b1
  | Option.none => False) qx
theorem sn_isi (T : Bt) (h : SndB c te we) : SndE c (tCB (rIsi c.K) (tCons te (tCons (tC (.ty T.nm)) tNil))) (wIsi T we) := fun F0 H0 ρ b F H σ W q qx Q hw lx l => h F0 H0 ρ b F H σ W _ qx _ hw lx fun v d b1 F1 H1 h1 g1 W1 p1 => by
  split at h1
  · rename_i k hk
    exact ⟨v, .ty T.nm, .type (tyN d), .type T.nm, k, rfl, .ty T.nm, pb_ty p1 W1.z hk, kit_ty (kit_isi hk), l _ _ b1 F1 H1 h1 g1 W1 (.bl k)⟩
  · exact h1.elim
def wIsi2 (T S : Bt) (w : WE) : WE := fun ρ b q qx => w ρ b (fun d b1 => match isiD T d, isiD S d with
  | some k, some j => q (.bool (k || j)) b1
  | _, _ => False) qx
theorem sn_isi2 (T S : Bt) (h : SndB c te we) : SndE c (tCB (rIsiT c.K) (tCons te (tCons (tTup (tCons (tC (.ty T.nm)) (tCons (tC (.ty S.nm)) tNil))) tNil))) (wIsi2 T S we) := fun F0 H0 ρ b F H σ W q qx Q hw lx l => h F0 H0 ρ b F H σ W _ qx _ hw lx fun v d b1 F1 H1 h1 g1 W1 p1 => by
  split at h1
  · rename_i k j hk hj
    refine ⟨Evl.sz_of (show 2 ≤ 100000 by decide), fun p hp => ?_⟩
    have G := Grow.tmp (o := .tup [.ty T.nm, .ty S.nm]) W1.z hp
    have W2 := W1.grow G
    have p2 := p1.step (FrRel.of G)
    refine ⟨v, p, [.ty T.nm, .ty S.nm], .type (tyN d), [.type T.nm, .type S.nm], k || j, rfl, upd_same, .cons (.ty _) (.cons (.ty _) .nil), pb_ty p2 W2.z hk, ?_, l _ _ b1 F1 _ h1 (g1.trans (FrRel.of G)) W2 (.bl _)⟩
    refine kitAny_cons (kit_ty (kit_isi hk)) (fun hb => ?_) (fun hb => by rw [hb]; rfl)
    subst hb
    cases j with
    | true => exact kitAny_cons (kit_ty (kit_isi hj)) (fun z => nomatch z) (fun _ => rfl)
    | false => exact kitAny_cons (kit_ty (kit_isi hj)) (fun _ => kitAny_nil) (fun z => nomatch z)
  · exact h1.elim
/-! ### texts' methods without arguments -/
def wM0 (g : Str → Bool) (w : WE) : WE := fun ρ b q qx => w ρ b (fun d b1 => match d with
  | .str x => q (.bool (g x)) b1
  | _ => False) qx
theorem sn_m0 {g : Str → Bool} (h : SndE c te we) : SndE c (tM0 (fun x xs H Q => ∃ a, x = .str a ∧ xs = [] ∧ True ∧ Q (.bl (g a)) H) te) (wM0 g we) := fun F0 H0 ρ b F H σ W q qx Q hw lx l => h F0 H0 ρ b F H σ W _ qx _ hw lx fun v d b1 F1 H1 h1 g1 W1 r => by
  cases r with
  | str x _ => exact ⟨⟨x, rfl⟩, x, rfl, rfl, True.intro, l _ _ b1 F1 H1 h1 g1 W1 (.bl _)⟩
  | _ => exact h1.elim
/-! ### built-ins -/
def lenO : Dt → Option Nat
  | .str x => some x.length
  | .list xs => some xs.length
  | .tuple xs => some xs.length
  | _ => Option.none
def lenD : List Dt → (Dt → Prop) → Prop
  | [d], q => match lenO d with
    | some n => n ≤ 100000 → q (.int (n : Nat))
    | Option.none => False
  | _, _ => False
theorem co_len : COk c (fun xs H Q => ∃ x n, xs = [x] ∧ LenV c.K x H n ∧ Q (.int n) H) lenD := fun xs ds F H z p q Q hq k => by
  unfold lenD at hq
  split at hq
  · rename_i d
    cases p with
    | cons p t =>
      cases t
      split at hq
      · rename_i n hn
        have hb : n ≤ 100000 := by
          cases d <;> first | (cases hn; done) | skip
          · cases hn
            exact pb_slen p z
          · cases hn
            obtain ⟨_, _, _, _, _, l⟩ := pb_lst p z
            exact l
          · cases hn
            obtain ⟨_, _, _, _, _, l⟩ := pb_tup p z
            exact l
        refine ⟨_, n, rfl, ?_, k _ _ F H (hq hb) (Grow.refl z) (.int _)⟩
        cases d <;> first | (cases hn; done) | skip
        · cases hn
          rw [pb_str p z]
          exact ⟨Evl.sz_of (pb_slen p z), rfl⟩
        · cases hn
          obtain ⟨a, vs, rfl, hx, r, _⟩ := pb_lst p z
          exact .inl ⟨_, SqL.of hx, (rza_len r).symm⟩
        · cases hn
          obtain ⟨a, vs, rfl, hx, r, _⟩ := pb_tup p z
          exact .inr ⟨_, (hx.ex z).sq, (rza_len r).symm⟩
      · exact hq.elim
  · exact hq.elim
def boolsO : List Dt → Option (List Bool)
  | [] => some []
  | .bool k :: ds => (boolsO ds).map (k :: ·)
  | _ => Option.none
theorem boolsO_map : ∀ {ds : List Dt} {bs : List Bool}, boolsO ds = some bs → ds = bs.map .bool
  | [], _, h => by cases h; rfl
  | .bool k :: ds, bs, h => by
    obtain ⟨cs, h1, rfl⟩ := Option.map_eq_some_iff.mp (show (boolsO ds).map (k :: ·) = some bs from h)
    rw [boolsO_map h1]
    rfl
  | .none :: _, _, h => by cases h
  | .int _ :: _, _, h => by cases h
  | .str _ :: _, _, h => by cases h
  | .list _ :: _, _, h => by cases h
  | .tuple _ :: _, _, h => by cases h
  | .dict _ :: _, _, h => by cases h
  | .obj _ _ :: _, _, h => by cases h
  | .err _ _ :: _, _, h => by cases h
def allD : List Dt → (Dt → Prop) → Prop
  | [.list ds], q => match boolsO ds with
    | some bs => q (.bool (bs.all id))
    | Option.none => False
  | _, _ => False
def anyD : List Dt → (Dt → Prop) → Prop
  | [.list ds], q => match boolsO ds with
    | some bs => q (.bool (bs.any id))
    | Option.none => False
  | _, _ => False
theorem co_all : COk c (rAll c.K) allD := fun xs ds F H z p q Q hq k => by
  unfold allD at hq
  split at hq
  · cases p with
    | cons p t =>
      cases t
      split at hq
      · rename_i bs hb
        rw [boolsO_map hb] at p
        obtain ⟨a, vs, rfl, hx, r, _⟩ := pb_lst p z
        rw [rza_bools r] at hx
        exact ⟨a, bs, rfl, SqL.of hx, k _ _ F H hq (Grow.refl z) (.bl _)⟩
      · exact hq.elim
  · exact hq.elim
theorem co_any : COk c (rAny c.K) anyD := fun xs ds F H z p q Q hq k => by
  unfold anyD at hq
  split at hq
  · cases p with
    | cons p t =>
      cases t
      split at hq
      · rename_i bs hb
        rw [boolsO_map hb] at p
        obtain ⟨a, vs, rfl, hx, r, _⟩ := pb_lst p z
        rw [rza_bools r] at hx
        exact ⟨a, bs, rfl, SqL.of hx, k _ _ F H hq (Grow.refl z) (.bl _)⟩
      · exact hq.elim
  · exact hq.elim
def max2D : List Dt → (Dt → Prop) → Prop
  | [.int i, .int j], q => q (.int (if j > i then j else i))
  | _, _ => False
def min2D : List Dt → (Dt → Prop) → Prop
  | [.int i, .int j], q => q (.int (if j < i then j else i))
  | _, _ => False
theorem co_max2 : COk c (fun xs H Q => ∃ i j, xs = [.int i, .int j] ∧ Q (.int (if j > i then j else i)) H) max2D := fun xs ds F H z p q Q hq k => by
  unfold max2D at hq
  split at hq
  · cases p with
    | cons p t =>
      cases t with
      | cons p2 t =>
        cases t
        have e1 := pb_int p z
        have e2 := pb_int p2 z
        subst e1 e2
        exact ⟨_, _, rfl, k _ _ F H hq (Grow.refl z) (.int _)⟩
  · exact hq.elim
theorem co_min2 : COk c (fun xs H Q => ∃ i j, xs = [.int i, .int j] ∧ Q (.int (if j < i then j else i)) H) min2D := fun xs ds F H z p q Q hq k => by
  unfold min2D at hq
  split at hq
  · cases p with
    | cons p t =>
      cases t with
      | cons p2 t =>
        cases t
        have e1 := pb_int p z
        have e2 := pb_int p2 z
        subst e1 e2
        exact ⟨_, _, rfl, k _ _ F H hq (Grow.refl z) (.int _)⟩
  · exact hq.elim
/-- tuple(xs) -/
def tupleD : List Dt → (Dt → Prop) → Prop
  | [.list ds], q => q (.tuple ds)
  | [.tuple ds], q => q (.tuple ds)
  | _, _ => False
theorem co_tuple : COk c (rTupleZ c.K) tupleD := fun xs ds F H z p q Q hq k => by
  unfold tupleD at hq
  split at hq
  · cases p with
    | cons p t =>
      cases t
      obtain ⟨a, vs, rfl, hx, r, l1⟩ := pb_lst p z
      refine ⟨a, vs, rfl, .inl ⟨SqL.of hx, fun l o hl hd => ?_⟩⟩
      have G := Grow.new (o := .frz o (.tup vs)) z hl
      exact k _ _ _ _ hq G (.tup l1 (TupZ.of upd_same hd) (rza_ex G.ff r))
  · cases p with
    | cons p t =>
      cases t
      obtain ⟨a, vs, rfl, hx, r, l1⟩ := pb_tup p z
      exact ⟨a, vs, rfl, .inr ⟨(hx.ex z).sq, k _ _ F H hq (Grow.refl z) (.tup l1 hx r)⟩⟩
  · exact hq.elim
/-- list(xs): one's own -/
def CNOk (c : Cd) (r : List V → Hp → VK → Prop) (f : List Dt → (Dt → Prop) → Prop) : Prop := ∀ xs ds F H, Ex F H → PbAll c F H xs ds → ∀ (q : Dt → Prop) (Q : VK), f ds q →
  (∀ p d F2 H2, q d → Grow F H F2 H2 → H p = Option.none → F2 p = Option.none → OwAt c F2 H2 p d → Q (.ref p) H2) → r xs H Q
theorem snn_cb {r : List V → Hp → VK → Prop} {f : List Dt → (Dt → Prop) → Prop} (hr : CNOk c r f) (ha : SndA c tas was) : SndN c (tCB r tas) (wCB f was) := fun F0 H0 ρ b F H σ W q qx Q h lx l =>
  ha F0 H0 ρ b F H σ W _ qx _ h lx fun xs ds b1 F1 H1 h1 g1 W1 p1 => hr xs ds F1 H1 W1.z p1 _ Q h1 fun p d F3 H3 hq g3 hp hf o =>
    have f1 := W1.far hp
    l p d b1 F3 H3 hq (g1.trans (FrRel.of g3)) (W1.grow g3) (g1.back (N0.of hp)) ⟨⟨hf, f1.own.n0, f1.own.ap⟩, f1.nw⟩ o
def listD : List Dt → (Dt → Prop) → Prop
  | [d], q => match itemsOf d with
    | some es => q (.list es)
    | Option.none => False
  | _, _ => False
theorem cn_list : CNOk c (fun xs H Q => ∃ p ys, xs = [.ref p] ∧ (SqL c.K H p ys ∨ SqT c.K H p ys) ∧ ∀ l, H l = Option.none → Q (.ref l) (upd H l (.lst ys))) listD := fun xs ds F H z p q Q hq k => by
  unfold listD at hq
  split at hq
  · rename_i d
    cases p with
    | cons p t =>
      cases t
      split at hq
      · rename_i es hes
        obtain ⟨a, vs, rfl, hx, r⟩ := pb_items p z hes
        refine ⟨a, vs, rfl, hx, fun l hl => ?_⟩
        have l1 : es.length ≤ 100000 := by
          cases d <;> cases hes
          · obtain ⟨_, _, _, _, _, l1⟩ := pb_lst p z; exact l1
          · obtain ⟨_, _, _, _, _, l1⟩ := pb_tup p z; exact l1
        exact k l _ F _ hq (Grow.tmp z hl) hl (Evl.fresh_back z hl) ⟨l1, vs, upd_same, r⟩
      · exact hq.elim
  · exact hq.elim
end
end Dw
set_option Elab.async false
set_option linter.all false
set_option maxRecDepth 100000
set_option maxHeartbeats 4000000
/-! Data-level wp: defs, calls, errors. -/
namespace Dw
open PySem PySem.Spec PyProof.Rows L2 Cn LamX
/-- what a def does, over data -/
abbrev WF := List Dt → (Dt → Prop) → (Xv → Prop) → Prop
def startR (n : Nat) (ds : List Dt) : Rho := ds.map (fun d => some (.sh d)) ++ List.replicate (n - ds.length) none
/-- from its body -/
def bodyW (w : WS) (n : Nat) : WF := fun ds q qx => w { nx := fun _ _ => q .none, rt := fun d _ => q d, ex := fun x _ => qx x } (startR n ds) 0
/-- the promise of a def that knows nothing of draws -/
def spW (K : PySem.W.Frag) (mg : Str → Option Value) (n : Nat) (W : WF) : Sp := fun vs H Q E => ∃ (ds : List Dt) (F : Hp) (q : Dt → Prop) (qx : Xv → Prop), Ex F H ∧ RzAll K mg F vs ds ∧ ds.length = n ∧ W ds q qx ∧
  (∀ v d F2 H2, q d → Grow F H F2 H2 → Rz K mg F2 v d → Q v H2) ∧ ∀ x F2 H2 cls dd, qx x → Grow F H F2 H2 → XRel ⟨K, mg, Option.none, E⟩ H F2 H2 x cls dd → E cls dd H2
theorem spW_len {K : PySem.W.Frag} {mg : Str → Option Value} {n : Nat} {W : WF} : ∀ vs H Q E, spW K mg n W vs H Q E → vs.length = n := fun vs H Q E ⟨ds, F, q, qx, _, h, hn, _⟩ => by rw [rza_len h, hn]
theorem at_app : ∀ {l m : Rho} {i : Nat} {s : Sv}, at_ (l ++ m) i = some s → at_ l i = some s ∨ at_ m (i - l.length) = some s
  | [], m, i, s, h => .inr (by simpa using h)
  | x :: l, m, 0, s, h => .inl h
  | x :: l, m, i + 1, s, h => by
    rcases at_app (l := l) (m := m) (i := i) h with h | h
    · exact .inl h
    · exact .inr (by rw [List.length_cons, Nat.add_sub_add_right]; exact h)
theorem at_rep : ∀ {n i : Nat} {s : Sv}, at_ (List.replicate n none) i = some s → False
  | n + 1, 0, s, h => by cases h
  | n + 1, i + 1, s, h => at_rep (n := n) (i := i) h
theorem at_args {K : PySem.W.Frag} {mg : Str → Option Value} {F : Hp} : ∀ {vs : List V} {ds : List Dt} {i : Nat} {s : Sv}, RzAll K mg F vs ds → at_ (ds.map fun d => some (.sh d)) i = some s → ∃ v d, s = .sh d ∧ vs[i]? = some v ∧ Rz K mg F v d
  | _, _, 0, s, .cons r t, h => by cases h; exact ⟨_, _, rfl, rfl, r⟩
  | _, _, i + 1, s, .cons r t, h => by
    obtain ⟨v, d, e1, e2, e3⟩ := at_args (i := i) t h
    exact ⟨v, d, e1, by simpa using e2, e3⟩
  | _, _, _, _, .nil, h => by cases h
theorem wd_start {c : Cd} {F H : Hp} {b : Nat} {N : List Str} {vs : List V} {ds : List Dt} (ok : FrOk c.fr b F H) (r : RzAll c.K c.mg F vs ds) : Wd c F H (startR N.length ds) b F H (L2.start N vs) := by
  have l := rza_len r
  refine ⟨ok, FrRel.refl ok.z, ?_, fun i s h => ?_, fun i j d e _ h => ?_⟩
  · unfold L2.start startR
    rw [List.length_append, List.length_append, List.length_map, List.length_map, List.length_replicate, List.length_replicate, l]
  · rcases at_app h with h | h
    · obtain ⟨v, d, rfl, e, r⟩ := at_args r h
      refine ⟨v, ?_, r⟩
      unfold L2.start
      rw [List.getElem?_append_left (by rw [List.length_map]; exact (List.getElem?_eq_some_iff.mp e).1), List.getElem?_map, e]
      rfl
    · exact (at_rep h).elim
  · rcases at_app h with h | h
    · obtain ⟨v, d, e, _⟩ := at_args r h
      cases e
    · exact (at_rep h).elim
section
variable {P : Program} {w : World} {K : PySem.W.Frag} {mg : Str → Option Value} {base : Heap}
abbrev Kw (P : Program) (w : World) (K : PySem.W.Frag) (mg : Str → Option Value) (base : Heap) (k : Nat) (x : Str) (ps : List Str) (W : WF) : Prop := KpG P w K mg base (L2.CX P w) k x ps (spW K mg ps.length W)
/-- a def keeps the promise of its body's wp -/
theorem kw_of {k : Nat} {x : Str} {ps N : List Str} {st : Stmt} {ws : WS} (Fx : Fg K mg x st) (S : FnScope N ps (defScope st)) (hb : ∀ {f : Addr} {fd : FuncData} (_ : Fun K x x st f fd), Binds K fd ps [])
    (body : ∀ (f : Addr) (cdv : Value) (A : Around) (outer : List Env) (s : Shared) (H : Hp) (E : XK), (A.deeper (envOfC x (defScope st) s.heap.objs.size f cdv)).guards = some [] → Room k (A.deeper (envOfC x (defScope st) s.heap.objs.size f cdv)) →
      ∃ t, PSs (cxOf (L2.CX P w) P w K mg base N x (defScope st) f cdv A outer s H E) (defBody st) t ∧ SndS ⟨K, mg, Option.none, E⟩ t ws) : Kw P w K mg base (k + 1) x ps (bodyW ws N.length) := by
  refine kpG_of Fx S hb spW_len fun f cdv A outer s H vs Q E hg hr ⟨ds, F, q, qx, hF, r, hn, hw, lq, lx⟩ => ?_
  obtain ⟨t, h1, h2⟩ := body f cdv A outer s H E hg hr
  refine ⟨t, h1, h2 F H _ 0 F H _ (wd_start (c := ⟨K, mg, Option.none, E⟩) hF r) _ _ hw ⟨fun ρ b F2 H2 σ h e W => ?_, fun v d b F2 H2 h e ok g r => ?_, fun _ _ _ _ _ h => h.elim, fun _ _ _ _ _ h => h.elim, fun x b F2 H2 cls dd h e ok g xr => lx x F2 H2 cls dd h g xr⟩⟩
  · exact lq .non .none F2 H2 h W.rel .non
  · exact lq v d F2 H2 h g r
end
section
variable {c : Cd} {ta tb te : TE} {tas : TA} {wa wb we : WE} {was : WA} {F H F2 H2 F0 H0 : Hp}
def LkA2 : Prop := True
/-- f(a, ..), f without draws, whatever it raises -/
def wCall (W : WF) (ws : WA) : WE := fun ρ b q qx => ws ρ b (fun ds b1 => W ds (fun d => q d b1) fun x => qx x b1) qx
theorem XRel.up {c : Cd} {E : XK} {b : Nat} {F0 H0 F1 H1 F2 H2 : Hp} {x : Xv} {cls : Value} {dd : Option Addr} (h : XRel ⟨c.K, c.mg, Option.none, E⟩ H1 F2 H2 x cls dd) (z : FrOk c.fr b F1 H1) (g : FrRel c.fr F0 H0 F1 H1) (e : c.E = E) : XRel c H0 F2 H2 x cls dd := by
  obtain ⟨C, m, ec, h⟩ := h
  refine ⟨C, m, ec, ?_⟩
  rcases h with h | ⟨d, vs, e1, e2, e3, o⟩
  · exact .inl h
  · exact .inr ⟨d, vs, e1, e2, e3, o.nf, g.back (N0.of o.n0), Apart.new z o.n0⟩
/-- the exceptions that leave are those of the def itself -/
theorem sn_call {n : Nat} {W : WF} (h : SndR c tas was n) : SndE c (tCall (spW c.K c.mg n W) [] c.E tas) (wCall W was) := fun F0 H0 ρ b F H σ Wd0 q qx Q hw lx l => h F0 H0 ρ b F H σ Wd0 _ _ _ hw lx fun vs ds b1 F1 H1 h1 hn g1 W1 r => by
  refine ⟨ds, F1, _, _, W1.z, by rw [List.append_nil]; exact r, hn, h1, fun v d F2 H2 hq g2 r2 => l v d b1 F2 H2 hq (g1.trans (FrRel.of g2)) (W1.grow g2) r2, fun x F2 H2 cls dd hx g2 xr => ?_⟩
  exact lx x b1 F2 H2 cls dd hx (g1.ff.trans g2.ff) (W1.ok.grow g2) (W1.rel.trans (FrRel.of g2)) (xr.up W1.ok W1.rel rfl)
/-- .. one that raises nothing here -/
def wCall0 (W : WF) (ws : WA) : WE := fun ρ b q qx => ws ρ b (fun ds b1 => W ds (fun d => q d b1) fun _ => False) qx
theorem sn_call0 {n : Nat} {W : WF} (h : SndR c tas was n) : SndE c (tCall (spW c.K c.mg n W) [] (fun _ _ _ => False) tas) (wCall0 W was) := fun F0 H0 ρ b F H σ Wd0 q qx Q hw lx l => h F0 H0 ρ b F H σ Wd0 _ _ _ hw lx fun vs ds b1 F1 H1 h1 hn g1 W1 r =>
  ⟨ds, F1, _, _, W1.z, by rw [List.append_nil]; exact r, hn, h1, fun v d F2 H2 hq g2 r2 => l v d b1 F2 H2 hq (g1.trans (FrRel.of g2)) (W1.grow g2) r2, fun x F2 H2 cls dd hx => hx.elim⟩
end
section
variable {X : Cx} {k n : Nat} {x : Str} {ps : List Str} {W : WF} {p pos : Pos} {e : Expr} {es : List Expr} {t : TA}
theorem passF {X : Cx} : Passes (L2.CX X.prog X.w) X (fun _ _ _ => False) := fun _ _ _ _ _ _ _ h => by
  obtain ⟨a, B, H', cls, d, _, _, _, _, _, _, _, f⟩ := h
  exact f.elim
/-- a call whose errors leave this def -/
theorem pe_call {P : Program} {w : World} {K : PySem.W.Frag} {mg : Str → Option Value} {base : Heap} {E : XK} (h : KpG P w K mg base (L2.CX P w) k x ps (spW K mg ps.length W)) (hP : X.prog = P) (hw : X.w = w) (hK : X.K = K) (hm : X.mg = mg) (hb : X.base = base)
    (tk : Takes X fun cls d _ H => E cls d H) (gd : X.A.guards = some []) (hr : Room k X.A) (hg : Gl X x) (ha : PA X (e :: es) t) (hdb : (x == ("__debug__" : Str)) = false := by decide)
    (he : starEach (e :: es) X.env = (false, eval e X.env) :: starEach es X.env := by rfl) (hpl : (backTo pos (starEach es X.env)).any (·.1) = false := by rfl) : PE X (.Call (.Name x p) (e :: es) [] pos) (tCall (spW K mg ps.length W) [] E t) := by
  subst hP hw hK hm hb
  exact pe_kpG h (passes_call tk fun _ _ _ _ h => h) gd hr hg ha hdb he hpl
/-- .. that raises nothing -/
theorem pe_call0 {P : Program} {w : World} {K : PySem.W.Frag} {mg : Str → Option Value} {base : Heap} (h : KpG P w K mg base (L2.CX P w) k x ps (spW K mg ps.length W)) (hP : X.prog = P) (hw : X.w = w) (hK : X.K = K) (hm : X.mg = mg) (hb : X.base = base)
    (gd : X.A.guards = some []) (hr : Room k X.A) (hg : Gl X x) (ha : PA X (e :: es) t) (hdb : (x == ("__debug__" : Str)) = false := by decide)
    (he : starEach (e :: es) X.env = (false, eval e X.env) :: starEach es X.env := by rfl) (hpl : (backTo pos (starEach es X.env)).any (·.1) = false := by rfl) : PE X (.Call (.Name x p) (e :: es) [] pos) (tCall (spW K mg ps.length W) [] (fun _ _ _ => False) t) := by
  subst hP hw hK hm hb
  exact pe_kpG h passF gd hr hg ha hdb he hpl
end
/-! ### raise -/
section
variable {c : Cd} {te : TE} {we : WE}
/-- raise X('..') -/
def wRaiseP (x : Str) : WS := fun D _ b => D.ex ⟨x, []⟩ b
theorem ss_raiseP {x : Str} {C : Addr} (h : c.mg x = some (.ref C)) : SndS c (fun _ σ H => c.E (.ref C) Option.none H) (wRaiseP x) := fun F0 H0 ρ b F H σ W D E hw l =>
  l.x ⟨x, []⟩ b F H (.ref C) Option.none hw (Evl.Ex.refl _) W.ok W.rel ⟨C, h, rfl, .inl ⟨rfl, rfl⟩⟩
/-- raise X(e), the error keeps e in its field f -/
def wRaiseF (x f : Str) (w : WE) : WS := fun D ρ b => w ρ b (fun d b1 => D.ex ⟨x, [(f, d)]⟩ b1) D.ex
theorem ss_raiseF {x f : Str} {C : Addr} (h : c.mg x = some (.ref C)) (he : SndE c te we) : SndS c (fun _ σ H => tMkO C (spIni C f) [] (tCons te tNil) σ H fun cls d H' => c.E cls d H') (wRaiseF x f we) := fun F0 H0 ρ b F H σ W D E hw l =>
  he F0 H0 ρ b F H σ W _ _ _ hw l.x fun v d b1 F1 H1 h1 g1 W1 r => ⟨by show 1 ≤ 1000; decide, fun a ha => ⟨a, v, rfl, upd_same, fun dx hx hne => ⟨rfl, dx, [(f, v)], upd_same, by rw [upd_ne hne, upd_same], by rw [upd_ne hne] at hx; exact hx, by
    rw [fld_new ha hne]
    rw [upd_ne hne] at hx
    have G : Grow F1 H1 F1 (upd H1 dx (.xd [(f, v)])) := Grow.tmp W1.z hx
    have fr := W1.far hx
    exact l.x ⟨x, [(f, d)]⟩ b1 F1 _ (.ref C) (some dx) h1 g1.ff (W1.ok.grow G) (W1.rel.trans (FrRel.of G)) ⟨C, h, rfl, .inr ⟨dx, _, rfl, upd_same, .cons r .nil, fr.own⟩⟩⟩⟩⟩
end
end Dw
set_option Elab.async false
set_option linter.all false
set_option maxRecDepth 100000
set_option maxHeartbeats 4000000
/-! Data-level wp: dict(xs), sorted, slices, join, whole numbers, repr. -/
namespace Dw
open PySem PySem.Spec PyProof.Rows L2 Cn
section
variable {X : Cx} {K : PySem.W.Frag} {mg : Str → Option Value} {c : Cd}
theorem op_inK (hK : X.K = K) : OpR X (compareOp .In) (rIn K false) := hK ▸ op_in_seq
theorem op_notInK (hK : X.K = K) : OpR X (compareOp .NotIn) (rIn K true) := hK ▸ op_notIn_seq
theorem call_lenKK (hK : X.K = K) : CallR X (.builtin "len") (fun xs H Q => ∃ x n, xs = [x] ∧ LenV K x H n ∧ Q (.int n) H) := hK ▸ call_len
/-! ### dict(xs) -/
def rDictA (K : PySem.W.Frag) : List V → Hp → VK → Prop := fun xs H Q => rDictT K xs H Q ∨ ∃ (a : Addr) (ps : List Addr) (kvs : List (Key × V)), xs = [.ref a] ∧ SqL K H a (ps.map V.ref) ∧ Paired (fun p kv => SqT K H p [kV kv.1, kv.2]) ps kvs ∧ ∀ p, H p = none → Q (.ref p) (upd H p (.dK (mergeK [] kvs)))
theorem call_dictA (hK : X.K = K) (hc : X.calm = true) : CallR X (.type "dict") (rDictA K) := by
  intro pins s σ H xs us Q I r q
  rcases q with q | q
  · exact call_dictT hK hc pins s σ H xs us Q I r q
  · subst hK
    exact call_dictP hc pins s σ H xs us Q I r q
def pairO : Dt → Option (Key × Dt)
  | .tuple [k, v] => (keyD k).map fun key => (key, v)
  | _ => Option.none
def pairsO : List Dt → Option (List (Key × Dt))
  | [] => some []
  | d :: ds => match pairO d, pairsO ds with
    | some p, some ps => some (p :: ps)
    | _, _ => Option.none
def kvMerge (kvs more : List (Key × Dt)) : List (Key × Dt) := more.foldl (fun acc kv => kvPut acc kv.1 kv.2) kvs
def dictD : List Dt → (Dt → Prop) → Prop
  | [d], q => match itemsOf d with
    | some ds => match pairsO ds with
      | some ps => q (.dict (kvMerge [] ps))
      | Option.none => False
    | Option.none => False
  | _, _ => False
theorem kvMerge_len : ∀ (more kvs : List (Key × Dt)), (kvMerge kvs more).length ≤ kvs.length + more.length
  | [], kvs => Nat.le_refl _
  | p :: more, kvs => by
    have h1 := kvMerge_len more (kvPut kvs p.1 p.2)
    have h2 := kvPut_len kvs p.1 p.2
    show (kvMerge (kvPut kvs p.1 p.2) more).length ≤ _
    rw [List.length_cons]
    omega
theorem rzk_merge {F : Hp} : ∀ {ws : List (Key × V)} {es : List (Key × Dt)} {vs : List (Key × V)} {ds : List (Key × Dt)}, RzKV K mg F ws es → RzKV K mg F vs ds → RzKV K mg F (mergeK vs ws) (kvMerge ds es)
  | _, _, vs, ds, .nil, h => h
  | (k, v) :: ws, (_, d) :: es, vs, ds, .cons r t, h => by
    show RzKV K mg F (mergeK (putK vs k v) ws) (kvMerge (kvPut ds k d) es)
    exact rzk_merge t (rzk_put r h)
/-- items that are pairs (key, value) -/
theorem rza_pairs {F H : Hp} (z : Ex F H) : ∀ {vs : List V} {ds : List Dt} {ps : List (Key × Dt)}, RzAll K mg F vs ds → pairsO ds = some ps → ∃ (as : List Addr) (kvs : List (Key × V)), vs = as.map V.ref ∧ Paired (fun p kv => SqT K H p [kV kv.1, kv.2]) as kvs ∧ RzKV K mg F kvs ps
  | _, _, ps, .nil, h => by cases h; exact ⟨[], [], rfl, .nil, .nil⟩
  | _, _, ps, .cons (d := d) (ds := ds) r t, h => by
    unfold pairsO at h
    split at h
    · rename_i p qs h1 h2
      cases h
      obtain ⟨as, kvs, e, hp, hr⟩ := rza_pairs z t h2
      unfold pairO at h1
      split at h1
      · obtain ⟨key, hk, rfl⟩ := Option.map_eq_some_iff.mp h1
        cases r with
        | tup l hs ha =>
          cases ha with
          | cons rk t2 =>
            cases t2 with
            | cons rv t3 =>
              cases t3
              have ek := rz_key (c := ⟨K, mg, Option.none, fun _ _ _ => False⟩) rk hk
              subst ek
              rename_i a v
              exact ⟨_ :: as, (key, v) :: kvs, by rw [List.map_cons, ← e], .cons ((hs.ex z).sq) hp, .cons rv hr⟩
      · cases h1
    · cases h
theorem pairsO_len : ∀ {ds : List Dt} {ps : List (Key × Dt)}, pairsO ds = some ps → ps.length = ds.length
  | [], _, h => by cases h; rfl
  | d :: ds, ps, h => by
    unfold pairsO at h
    split at h
    · rename_i h2
      cases h
      rw [List.length_cons, List.length_cons, pairsO_len h2]
    · cases h
theorem cn_dict : CNOk c (rDictA c.K) dictD := fun xs ds F H z p q Q hq k => by
  unfold dictD at hq
  split at hq
  · rename_i d
    cases p with
    | cons p t =>
      cases t
      split at hq
      · rename_i es hes
        split at hq
        · rename_i ps hps
          have len : (kvMerge [] ps).length ≤ 100000 := by
            have h1 := kvMerge_len ps []
            have h2 := pairsO_len hps
            have h3 : es.length ≤ 100000 := by
              cases d <;> cases hes
              · obtain ⟨_, _, _, _, _, l1⟩ := pb_lst p z; exact l1
              · obtain ⟨_, _, _, _, _, l1⟩ := pb_tup p z; exact l1
            rw [List.length_nil] at h1
            omega
          have fin : ∀ (kvs : List (Key × V)) (pp : Addr), RzKV c.K c.mg F kvs ps → H pp = Option.none → Q (.ref pp) (upd H pp (.dK (mergeK [] kvs))) := fun kvs pp hr hp =>
            k pp _ F _ hq (Grow.tmp z hp) hp (Evl.fresh_back z hp) ⟨len, _, upd_same, rzk_merge hr .nil⟩
          cases d <;> cases hes
          · obtain ⟨a, vs, rfl, hx, r, _⟩ := pb_lst p z
            obtain ⟨as, kvs, rfl, h1, h2⟩ := rza_pairs z r hps
            exact .inr ⟨a, as, kvs, rfl, SqL.of hx, h1, fun pp hp => fin kvs pp h2 hp⟩
          · obtain ⟨a, vs, rfl, hx, r, _⟩ := pb_tup p z
            obtain ⟨as, kvs, rfl, h1, h2⟩ := rza_pairs z r hps
            exact .inl ⟨a, as, kvs, rfl, hx.ex z, h1, fun pp hp => fin kvs pp h2 hp⟩
        · exact hq.elim
      · exact hq.elim
  · exact hq.elim
/-! ### sorted(xs) -/
def encD (d : Dt) : PyData := d.pl.getD .none
def leS (d e : Dt) : Bool := PySem.W.dataLe false encD d e
def SortOk (ds : List Dt) : Prop := (∀ d ∈ ds, d.pl.isSome = true ∧ (encD d).depth ≤ 60) ∧ PySem.W.AllAlike (ds.map encD) ∧ PySem.W.Sortable (ds.map encD)
def sortedD : List Dt → (Dt → Prop) → Prop
  | [.list ds], q => SortOk ds ∧ q (.list (ds.mergeSort leS))
  | _, _ => False
def rSortG (K : PySem.W.Frag) (mg : Str → Option Value) : List V → Hp → VK → Prop := fun vs H Q => ∃ (a : Addr) (xs : List V) (ds : List Dt) (F : Hp), vs = [.ref a] ∧ H a = some (.lst xs) ∧ Ex F H ∧ RzAll K mg F xs ds ∧ ds.length ≤ 100000 ∧ SortOk ds ∧
  ∀ (ys : List V) (p : Addr), RzAll K mg F ys (ds.mergeSort leS) → H p = Option.none → Q (.ref p) (upd H p (.lst ys))
theorem each_of {F : Hp} {us : List Value} : ∀ {xs : List V} {ds : List Dt} {us : List Value}, RzAll K mg F xs ds → Vals xs us → PySem.W.EachIs (fun (u : Value) (d : Dt) => ∃ v, RelV v u ∧ Rz K mg F v d) us ds
  | _, _, _, .nil, .nil => .nil
  | _, _, _, .cons r t, .cons h k => .cons ⟨_, h, r⟩ (each_of (us := us) t k)
theorem of_each {F : Hp} : ∀ {ds : List Dt} {us : List Value}, PySem.W.EachIs (fun (u : Value) (d : Dt) => ∃ v, RelV v u ∧ Rz K mg F v d) us ds → ∃ ys, RzAll K mg F ys ds ∧ Vals ys us
  | _, _, .nil => ⟨[], .nil, .nil⟩
  | _, _, .cons ⟨v, h, r⟩ t => by
    obtain ⟨ys, a, b⟩ := of_each t
    exact ⟨v :: ys, .cons r a, .cons h b⟩
theorem each_imp {α β : Type} {R S : α → β → Prop} : ∀ {l : List α} {m : List β}, PySem.W.EachIs R l m → (∀ a b, b ∈ m → R a b → S a b) → PySem.W.EachIs S l m
  | _, _, .nil, _ => .nil
  | _, _, .cons h t, f => .cons (f _ _ List.mem_cons_self h) (each_imp t fun a b hb => f a b (List.mem_cons_of_mem _ hb))
theorem cr_sortedG (hK : X.K = K) (hm : X.mg = X.mg) (hu : X.A.units + 64 < cLine) : CallR X (.builtin "sorted") (rSortG K mg) := by
  subst hK
  intro pins s σ H vs us Q I r h
  obtain ⟨a, xs, ds, F, rfl, ha, z, rz, hl, ⟨h1, h2, h3⟩, q⟩ := h
  obtain ⟨its, rv, pl, _⟩ := I.list (SqL.of (K := X.K) ha)
  rw [Vals.ref1 r]
  have E := each_of (us := us) rz rv
  refine PySem.W.sorted_data (R := fun (u : Value) (d : Dt) => ∃ v, RelV v u ∧ Rz X.K mg F v d) (enc := encD) pl.isList E (each_imp E fun u d hd ⟨v, hv, r⟩ => ?_) h2 h3 (Evl.sz_of hl) (fun d hd => ?_) fun out ho eo => ?_
  · obtain ⟨e1, _⟩ := h1 d hd
    obtain ⟨e, he⟩ := Option.isSome_iff_exists.mp e1
    obtain ⟨r1, r2⟩ := rz_dz r he
    obtain ⟨as, rd⟩ := Dp.reads I e v u ((dp_ex z r1).dp (noDict_plain _ r2)) hv
    refine ⟨as, ?_⟩
    unfold encD
    rw [he]
    exact rd
  · have := (h1 d hd).2
    omega
  · obtain ⟨ys, r1, r2⟩ := of_each eo
    obtain ⟨ep, he'⟩ := PyProof.Rows.sortedAll_at s.heap its out.toArray
    have hlen : ys.length ≤ sizeLine := by
      rw [rza_len r1]
      exact Evl.sz_of (by rw [List.length_mergeSort]; exact hl)
    exact ⟨.ref _, upd H (s.heap.objs.size + 1) (.lst ys), I.laid (t' := s.toks) (fun _ _ => PyProof.Rows.sortedAll_old) (Nat.le_succ _) ⟨hlen, out, ep, r2, he'⟩, rfl, q ys _ r1 (I.hok.fresh (Nat.le_succ _))⟩
theorem cn_sorted : CNOk c (rSortG c.K c.mg) sortedD := fun xs ds F H z p q Q hq k => by
  unfold sortedD at hq
  split at hq
  · rename_i es
    cases p with
    | cons p t =>
      cases t
      obtain ⟨a, vs, rfl, hx, r, l1⟩ := pb_lst p z
      exact ⟨a, vs, es, F, rfl, hx, z, r, l1, hq.1, fun ys pp hr hp => k pp _ F _ hq.2 (Grow.tmp z hp) hp (Evl.fresh_back z hp) ⟨by rw [List.length_mergeSort]; exact l1, ys, upd_same, hr⟩⟩
  · exact hq.elim
/-! ### whole numbers -/
def absI (i : Int) : Int := if i < 0 then -i else i
def absD : List Dt → (Dt → Prop) → Prop
  | [.int i], q => q (.int (absI i))
  | _, _ => False
theorem co_abs : COk c (fun xs H Q => ∃ i, xs = [.int i] ∧ Q (.int (if i < 0 then -i else i)) H) absD := fun xs ds F H z p q Q hq k => by
  unfold absD at hq
  split at hq
  · cases p with
    | cons p t =>
      cases t
      have e := pb_int p z
      subst e
      exact ⟨_, rfl, k _ _ F H hq (Grow.refl z) (.int _)⟩
  · exact hq.elim
def int1D : List Dt → (Dt → Prop) → Prop
  | [.int i], q => q (.int i)
  | [.bool k], q => q (.int (if k then 1 else 0))
  | _, _ => False
theorem co_int1 : COk c (fun xs H Q => (∃ i, xs = [.int i] ∧ Q (.int i) H) ∨ ∃ k, xs = [.bl k] ∧ Q (.int (if k then 1 else 0)) H) int1D := fun xs ds F H z p q Q hq k => by
  unfold int1D at hq
  split at hq
  · cases p with
    | cons p t =>
      cases t
      have e := pb_int p z
      subst e
      exact .inl ⟨_, rfl, k _ _ F H hq (Grow.refl z) (.int _)⟩
  · cases p with
    | cons p t =>
      cases t
      have e := pb_bl p z
      subst e
      exact .inr ⟨_, rfl, k _ _ F H hq (Grow.refl z) (.int _)⟩
  · exact hq.elim
def negD : Op1
  | .int i, q => q (.int (-i))
  | _, _ => False
theorem uo_neg : UOk c (rU fun i => .int (-i)) negD := fun x d F H z p q Q hq k => by
  unfold negD at hq
  split at hq
  · have e := pb_int p z
    subst e
    exact ⟨_, rfl, k _ _ F H hq (Grow.refl z) (.int _)⟩
  · exact hq.elim
/-! ### repr -/
def reprD : List Dt → (Dt → Prop) → Prop
  | [d], q => match d.pl with
    | some e => (e.showable = true ∧ e.depth ≤ 60 ∧ e.shown.length ≤ 100000) ∧ q (.str e.shown)
    | Option.none => False
  | _, _ => False
theorem co_repr : COk c (rRepr c.K) reprD := fun xs ds F H z p q Q hq k => by
  unfold reprD at hq
  split at hq
  · cases p with
    | cons p t =>
      cases t
      split at hq
      · rename_i e he
        obtain ⟨r1, r2⟩ := pb_dz p z he
        exact ⟨_, e, rfl, r1, hq.1.1, noDict_plain _ r2, hq.1.2.1, Evl.sz_of hq.1.2.2, k _ _ F H hq.2 (Grow.refl z) (.str _ hq.1.2.2)⟩
      · exact hq.elim
  · exact hq.elim
end
end Dw
set_option Elab.async false
set_option linter.all false
set_option maxRecDepth 100000
set_option maxHeartbeats 4000000
/-! Data-level wp: defs that draw. -/
namespace Dw
open PySem PySem.Spec PyProof.Rows L2 Cn LamX
/-- what a def does that takes the state of the draws first -/
abbrev WFS := List Dt → Nat → QD → QX → Prop
def startRS (n : Nat) (ds : List Dt) : Rho := some .st :: (ds.map (fun d => some (.sh d)) ++ List.replicate (n - (ds.length + 1)) none)
def bodyWS (w : WS) (n : Nat) : WFS := fun ds b q qx => w { nx := fun _ b1 => q .none b1, rt := q, ex := qx } (startRS n ds) b
/-- the frame has these tables -/
def FrT (T : List (Addr × Str)) (fr : Tri) : Prop := ∃ st lg cl, fr = some (st, lg, cl) ∧ lg.2 = T
def spWS (K : PySem.W.Frag) (mg : Str → Option Value) (T : List (Addr × Str)) (n : Nat) (W : WFS) : Sp := fun vs H Q E => ∃ (st : Addr) (lg : Lg) (cl : Addr) (b : Nat) (vs' : List V) (ds : List Dt) (F : Hp) (q : QD) (qx : QX), lg.2 = T ∧ vs = .ref st :: vs' ∧ Off st lg cl b F H ∧ RzAll K mg F vs' ds ∧ ds.length = n ∧ W ds b q qx ∧
  (∀ v d b2 F2 H2, q d b2 → GM st lg F H F2 H2 → Off st lg cl b2 F2 H2 → Rz K mg F2 v d → Q v H2) ∧
  ∀ x b2 F2 H2 cls dd, qx x b2 → GM st lg F H F2 H2 → Off st lg cl b2 F2 H2 → XRel ⟨K, mg, some (st, lg, cl), E⟩ H F2 H2 x cls dd → E cls dd H2
theorem spWS_len {K : PySem.W.Frag} {mg : Str → Option Value} {T : List (Addr × Str)} {n : Nat} {W : WFS} : ∀ vs H Q E, spWS K mg T n W vs H Q E → vs.length = n + 1 := fun vs H Q E ⟨st, lg, cl, b, vs', ds, F, q, qx, _, e, _, h, hn, _⟩ => by rw [e, List.length_cons, rza_len h, hn]
theorem wd_startS {c : Cd} {F H : Hp} {b : Nat} {N : List Str} {st cl : Addr} {lg : Lg} {vs : List V} {ds : List Dt} (hc : c.fr = some (st, lg, cl)) (ok : Off st lg cl b F H) (r : RzAll c.K c.mg F vs ds) : Wd c F H (startRS N.length ds) b F H (L2.start N (.ref st :: vs)) := by
  have l := rza_len r
  have ok' : FrOk c.fr b F H := by rw [hc]; exact ok
  refine ⟨ok', FrRel.refl ok.z, ?_, fun i s h => ?_, fun i j d e _ h => ?_⟩
  · unfold L2.start startRS
    simp only [List.length_append, List.length_cons, List.length_map, List.length_replicate, l]
    omega
  · cases i with
    | zero =>
      cases h
      exact ⟨st, lg, cl, hc, rfl⟩
    | succ i =>
      have h : at_ (ds.map (fun d => some (.sh d)) ++ List.replicate (N.length - (ds.length + 1)) none) i = some s := h
      rcases at_app h with h | h
      · obtain ⟨v, d, rfl, e, r⟩ := at_args r h
        refine ⟨v, ?_, r⟩
        unfold L2.start
        rw [List.getElem?_append_left (by rw [List.length_map, List.length_cons]; have := (List.getElem?_eq_some_iff.mp e).1; omega), List.getElem?_map, List.getElem?_cons_succ, e]
        rfl
      · exact (at_rep h).elim
  · cases i with
    | zero => cases h
    | succ i =>
      have h : at_ (ds.map (fun d => some (.sh d)) ++ List.replicate (N.length - (ds.length + 1)) none) i = some (.ow d) := h
      rcases at_app h with h | h
      · obtain ⟨v, d, e, _⟩ := at_args r h
        cases e
      · exact (at_rep h).elim
section
variable {P : Program} {w : World} {K : PySem.W.Frag} {mg : Str → Option Value} {base : Heap} {T : List (Addr × Str)}
/-- ps: the parameters behind the state -/
abbrev Kws (P : Program) (w : World) (K : PySem.W.Frag) (mg : Str → Option Value) (base : Heap) (T : List (Addr × Str)) (k : Nat) (x : Str) (s : Str) (ps : List Str) (W : WFS) : Prop := KpG P w K mg base (L2.CX P w) k x (s :: ps) (spWS K mg T ps.length W)
theorem kws_of {k : Nat} {x s0 : Str} {ps N : List Str} {st : Stmt} {ws : WS} (Fx : Fg K mg x st) (S : FnScope N (s0 :: ps) (defScope st)) (hb : ∀ {f : Addr} {fd : FuncData} (_ : Fun K x x st f fd), Binds K fd (s0 :: ps) [])
    (body : ∀ (f : Addr) (cdv : Value) (A : Around) (outer : List Env) (s : Shared) (H : Hp) (E : XK), (A.deeper (envOfC x (defScope st) s.heap.objs.size f cdv)).guards = some [] → Room k (A.deeper (envOfC x (defScope st) s.heap.objs.size f cdv)) →
      ∃ t, PSs (cxOf (L2.CX P w) P w K mg base N x (defScope st) f cdv A outer s H E) (defBody st) t ∧ ∀ fr, FrT T fr → SndS ⟨K, mg, fr, E⟩ t ws) : Kws P w K mg base T (k + 1) x s0 ps (bodyWS ws N.length) := by
  refine kpG_of Fx S hb (fun vs H Q E h => by rw [spWS_len vs H Q E h]; rfl) fun f cdv A outer s H vs Q E hg hr ⟨sa, lg, cl, b, vs', ds, F, q, qx, hT, e, ok, r, hn, hw, lq, lx⟩ => ?_
  subst e
  obtain ⟨t, h1, h2⟩ := body f cdv A outer s H E hg hr
  refine ⟨t, h1, h2 (some (sa, lg, cl)) ⟨sa, lg, cl, rfl, hT⟩ F H _ b F H _ (wd_startS (c := ⟨K, mg, some (sa, lg, cl), E⟩) rfl ok r) _ _ hw ⟨fun ρ b F2 H2 σ h e W => ?_, fun v d b F2 H2 h e ok g r => ?_, fun _ _ _ _ _ h => h.elim, fun _ _ _ _ _ h => h.elim, fun x b F2 H2 cls dd h e ok g xr => lx x b F2 H2 cls dd h g ok xr⟩⟩
  · exact lq .non .none b F2 H2 h W.rel W.ok .non
  · exact lq v d b F2 H2 h g ok r
end
section
variable {c : Cd} {ta tb te : TE} {tas : TA} {wa wb we : WE} {was : WA} {F H F2 H2 F0 H0 : Hp}
theorem XRel.upS {K : PySem.W.Frag} {mg : Str → Option Value} {fr : Tri} {E E2 : XK} {b : Nat} {F0 H0 F1 H1 F2 H2 : Hp} {x : Xv} {cls : Value} {dd : Option Addr} (h : XRel ⟨K, mg, fr, E⟩ H1 F2 H2 x cls dd) (z : FrOk fr b F1 H1) (g : FrRel fr F0 H0 F1 H1) : XRel ⟨K, mg, fr, E2⟩ H0 F2 H2 x cls dd := by
  obtain ⟨C, m, ec, h⟩ := h
  refine ⟨C, m, ec, ?_⟩
  rcases h with h | ⟨d, vs, e1, e2, e3, o⟩
  · exact .inl h
  · exact .inr ⟨d, vs, e1, e2, e3, o.nf, g.back o.n0, o.ap⟩
/-- f(state, ..) -/
def wCallS (i : Nat) (W : WFS) (ws : WA) : WE := fun ρ b q qx => match at_ ρ i with
  | some .st => ws ρ b (fun ds b1 => W ds b1 q qx) qx
  | _ => False
theorem sn_callS {i n : Nat} {W : WFS} {T : List (Addr × Str)} (hT : FrT T c.fr) (h : SndR c tas was n) : SndE c (tCall (spWS c.K c.mg T n W) [] c.E (tCons (tVar i) tas)) (wCallS i W was) := fun F0 H0 ρ b F H σ Wd0 q qx Q hw lx l => by
  unfold wCallS at hw
  split at hw
  · rename_i hi
    obtain ⟨st, lg, cl, hc, hs⟩ := Wd0.sl i _ hi
    have hT2 : lg.2 = T := by
      obtain ⟨_, _, _, e1, e2⟩ := hT
      rw [hc] at e1
      cases e1
      exact e2
    refine ⟨_, hs, h F0 H0 ρ b F H σ Wd0 _ _ _ hw lx fun vs ds b1 F1 H1 h1 hn g1 W1 r => ?_⟩
    have ok1 : Off st lg cl b1 F1 H1 := by
      have := W1.ok
      rw [hc] at this
      exact this
    have up : ∀ {F2 H2 : Hp}, GM st lg F1 H1 F2 H2 → FrRel c.fr F1 H1 F2 H2 := fun g => by rw [hc]; exact g
    have upo : ∀ {b2 : Nat} {F2 H2 : Hp}, Off st lg cl b2 F2 H2 → FrOk c.fr b2 F2 H2 := fun g => by rw [hc]; exact g
    refine ⟨st, lg, cl, b1, vs, ds, F1, q, qx, hT2, by rw [List.append_nil], ok1, r, hn, h1, fun v d b2 F2 H2 hq g2 ok2 r2 => l v d b2 F2 H2 hq (g1.trans (up g2)) (W1.step (up g2) (upo ok2)) r2, fun x b2 F2 H2 cls dd hx g2 ok2 xr => ?_⟩
    exact lx x b2 F2 H2 cls dd hx (g1.ff.trans g2.ff) (upo ok2) (W1.rel.trans (up g2)) (XRel.upS (fr := c.fr) (by rw [hc]; exact xr) W1.ok W1.rel)
  · exact hw.elim
/-- .. that raises nothing here -/
def wCallS0 (i : Nat) (W : WFS) (ws : WA) : WE := fun ρ b q qx => match at_ ρ i with
  | some .st => ws ρ b (fun ds b1 => W ds b1 q fun _ _ => False) qx
  | _ => False
theorem sn_callS0 {i n : Nat} {W : WFS} {T : List (Addr × Str)} (hT : FrT T c.fr) (h : SndR c tas was n) : SndE c (tCall (spWS c.K c.mg T n W) [] (fun _ _ _ => False) (tCons (tVar i) tas)) (wCallS0 i W was) := fun F0 H0 ρ b F H σ Wd0 q qx Q hw lx l => by
  unfold wCallS0 at hw
  split at hw
  · rename_i hi
    obtain ⟨st, lg, cl, hc, hs⟩ := Wd0.sl i _ hi
    have hT2 : lg.2 = T := by
      obtain ⟨_, _, _, e1, e2⟩ := hT
      rw [hc] at e1
      cases e1
      exact e2
    refine ⟨_, hs, h F0 H0 ρ b F H σ Wd0 _ _ _ hw lx fun vs ds b1 F1 H1 h1 hn g1 W1 r => ?_⟩
    have ok1 : Off st lg cl b1 F1 H1 := by
      have := W1.ok
      rw [hc] at this
      exact this
    have up : ∀ {F2 H2 : Hp}, GM st lg F1 H1 F2 H2 → FrRel c.fr F1 H1 F2 H2 := fun g => by rw [hc]; exact g
    have upo : ∀ {b2 : Nat} {F2 H2 : Hp}, Off st lg cl b2 F2 H2 → FrOk c.fr b2 F2 H2 := fun g => by rw [hc]; exact g
    exact ⟨st, lg, cl, b1, vs, ds, F1, q, _, hT2, by rw [List.append_nil], ok1, r, hn, h1, fun v d b2 F2 H2 hq g2 ok2 r2 => l v d b2 F2 H2 hq (g1.trans (up g2)) (W1.step (up g2) (upo ok2)) r2, fun x b2 F2 H2 cls dd hx => hx.elim⟩
  · exact hw.elim
/-! ### a draw -/
def spDraw2 : Sp := fun vs H Q _ => ∃ st lg cl b n, vs = [.ref st, .int n] ∧ 0 < n ∧ n < 1000000000 ∧ StOk st lg cl (b + 1) H ∧ ∀ r H', 0 ≤ r → r < n → StOk st lg cl b H' → Fr st lg H H' → Q (.int r) H'
def wDraw (i : Nat) (w : WE) : WE := fun ρ b q qx => match at_ ρ i with
  | some .st => w ρ b (fun d b1 => match d, b1 with
    | .int n, b2 + 1 => 0 < n ∧ n < 1000000000 ∧ ∀ r, 0 ≤ r → r < n → q (.int r) b2
    | _, _ => False) qx
  | _ => False
theorem sn_draw {i : Nat} {X : XK} (h : SndE c te we) : SndE c (tCall spDraw2 [] X (tCons (tVar i) (tCons te tNil))) (wDraw i we) := fun F0 H0 ρ b F H σ Wd0 q qx Q hw lx l => by
  unfold wDraw at hw
  split at hw
  · rename_i hi
    obtain ⟨st, lg, cl, hc, hs⟩ := Wd0.sl i _ hi
    refine ⟨_, hs, h F0 H0 ρ b F H σ Wd0 _ _ _ hw lx fun v d b1 F1 H1 h1 g1 W1 r => ?_⟩
    have ok1 : Off st lg cl b1 F1 H1 := by
      have := W1.ok
      rw [hc] at this
      exact this
    have up : ∀ {F2 H2 : Hp}, GM st lg F1 H1 F2 H2 → FrRel c.fr F1 H1 F2 H2 := fun g => by rw [hc]; exact g
    have upo : ∀ {b2 : Nat} {F2 H2 : Hp}, Off st lg cl b2 F2 H2 → FrOk c.fr b2 F2 H2 := fun g => by rw [hc]; exact g
    split at h1
    · rename_i n b2
      cases r
      refine ⟨st, lg.1, cl, b2, n, rfl, h1.1, h1.2.1, ok1.ok, fun r H' r0 r1 ok fr => ?_⟩
      have g2 := GM.draw ok1 fr ok
      have ok2 := ok1.draw fr ok
      exact l _ _ b2 F1 H' (h1.2.2 r r0 r1) (g1.trans (up g2)) (W1.step (up g2) (upo ok2)) (.int r)
    · exact h1.elim
  · exact hw.elim
end
section
variable {X : Cx} {k : Nat} {x s0 : Str} {ps : List Str} {W : WFS} {T : List (Addr × Str)} {p pos : Pos} {e : Expr} {es : List Expr} {t : TA}
/-- a call of a def that draws, whose errors leave this def -/
theorem pe_callS {P : Program} {w : World} {K : PySem.W.Frag} {mg : Str → Option Value} {base : Heap} {E : XK} (h : KpG P w K mg base (L2.CX P w) k x (s0 :: ps) (spWS K mg T ps.length W)) (hP : X.prog = P) (hw : X.w = w) (hK : X.K = K) (hm : X.mg = mg) (hb : X.base = base)
    (tk : Takes X fun cls d _ H => E cls d H) (gd : X.A.guards = some []) (hr : Room k X.A) (hg : Gl X x) (ha : PA X (e :: es) t) (hdb : (x == ("__debug__" : Str)) = false := by decide)
    (he : starEach (e :: es) X.env = (false, eval e X.env) :: starEach es X.env := by rfl) (hpl : (backTo pos (starEach es X.env)).any (·.1) = false := by rfl) : PE X (.Call (.Name x p) (e :: es) [] pos) (tCall (spWS K mg T ps.length W) [] E t) := by
  subst hP hw hK hm hb
  exact pe_kpG h (passes_call tk fun _ _ _ _ h => h) gd hr hg ha hdb he hpl
theorem pe_callS0 {P : Program} {w : World} {K : PySem.W.Frag} {mg : Str → Option Value} {base : Heap} (h : KpG P w K mg base (L2.CX P w) k x (s0 :: ps) (spWS K mg T ps.length W)) (hP : X.prog = P) (hw : X.w = w) (hK : X.K = K) (hm : X.mg = mg) (hb : X.base = base)
    (gd : X.A.guards = some []) (hr : Room k X.A) (hg : Gl X x) (ha : PA X (e :: es) t) (hdb : (x == ("__debug__" : Str)) = false := by decide)
    (he : starEach (e :: es) X.env = (false, eval e X.env) :: starEach es X.env := by rfl) (hpl : (backTo pos (starEach es X.env)).any (·.1) = false := by rfl) : PE X (.Call (.Name x p) (e :: es) [] pos) (tCall (spWS K mg T ps.length W) [] (fun _ _ _ => False) t) := by
  subst hP hw hK hm hb
  exact pe_kpG h passF gd hr hg ha hdb he hpl
/-- a def without errors (the draw itself) -/
theorem pe_call00 {P : Program} {w : World} {K : PySem.W.Frag} {mg : Str → Option Value} {base : Heap} {sp : Sp} {qs : List Str} (h : Kp P w K mg base k x qs sp) (hP : X.prog = P) (hw : X.w = w) (hK : X.K = K) (hm : X.mg = mg) (hb : X.base = base)
    (hr : Room k X.A) (hg : Gl X x) (ha : PA X (e :: es) t) (hdb : (x == ("__debug__" : Str)) = false := by decide)
    (he : starEach (e :: es) X.env = (false, eval e X.env) :: starEach es X.env := by rfl) (hpl : (backTo pos (starEach es X.env)).any (·.1) = false := by rfl) : PE X (.Call (.Name x p) (e :: es) [] pos) (tCall sp [] E0 t) := by
  subst hP hw hK hm hb
  exact pe_kp h hr hg ha hdb he hpl
end
end Dw
namespace Dw
open PySem PySem.Spec PyProof.Rows L2 Cn LamX
section
variable {c : Cd}
/-- len(script) -/
def wLenSc (i : Nat) : WE := fun ρ b q _ => match at_ ρ i with
  | some (.sc n) => q (.int (n : Nat)) b
  | _ => False
theorem sn_lenSc {i : Nat} : SndE c (tCB (fun xs H Q => ∃ x n, xs = [x] ∧ LenV c.K x H n ∧ Q (.int n) H) (tCons (tVar i) tNil)) (wLenSc i) := fun F0 H0 ρ b F H σ W q qx Q hw lx l => by
  unfold wLenSc at hw
  split at hw
  · rename_i n hi
    obtain ⟨a, xs, e1, e2, e3⟩ := W.sl i _ hi
    subst e3
    exact ⟨_, e1, _, xs.length, rfl, .inl ⟨xs, Evl.ex_l W.z e2, rfl⟩, l _ _ b F H hw (FrRel.refl W.z) W (.int _)⟩
  · exact hw.elim
/-- a, b, .. = a list of that length -/
def wgLst (n : Nat) (gs : WGs) : WG := fun d ρ k => match d with
  | .list ds => match ds.length == n with
    | true => gs ds ρ k
    | false => False
  | _ => False
theorem sg_lst {n : Nat} {gs : TGs} {ws : WGs} {is : List Nat} (h : SndGs c gs ws is n) : SndG c false (gLst c.K n gs) (wgLst n ws) is := fun F0 H0 ρ b F H σ W v d k R r hk l => by
  unfold wgLst at hk
  split at hk
  · split at hk
    · rename_i hl
      have hn := beq_iff_eq.mp hl
      rcases r with r | ⟨e, _⟩
      · cases r with
        | lst l1 hs t => exact ⟨_, _, rfl, SqL.of (W.z _ _ hs), by rw [rza_len t, hn], h F0 H0 ρ b F H σ W _ _ k R t hn hk l⟩
      · cases e
    · exact hk.elim
  · exact hk.elim
end
end Dw
set_option Elab.async false
set_option linter.all false
set_option maxRecDepth 100000
set_option maxHeartbeats 4000000
/-! Data-level wp: the law's own body; lemmas to go on with. -/
namespace Dw
open PySem PySem.Spec PyProof.Rows L2 Cn LamX
def spBegun2 (K : PySem.W.Frag) : Sp := fun vs H Q _ => ∃ (a : Addr) (ns : List Int), vs = [.ref a] ∧ SqL K H a (ns.map V.int) ∧ ns.length ≤ 63 ∧ ∀ st lg cl H', Ex H H' → H st = none → H lg = none → H cl = none → StOk st lg cl 900000000 H' → Q (.ref st) H'
/-- the law's body behind the making of the state -/
theorem law_in {K : PySem.W.Frag} {mg : Str → Option Value} {X : XK} {t : TS} {w : WS} {k : Nat} {H : Hp} {a : Addr} {ns : List Int} {T : List (Addr × Str)} (hTab : Tabs T H) (hS : SqL K H a (ns.map V.int)) (hl : ns.length ≤ 63) (h : ∀ fr, FrT T fr → SndS ⟨K, mg, fr, fun _ _ _ => False⟩ t w)
    (hD : w { nx := fun _ _ => False, rt := fun d _ => d = .bool true, ex := fun _ _ => False } (some (.sc ns.length) :: some .st :: List.replicate k none) 900000000) :
    tSeq (tAsg (tCall (spBegun2 K) [] X (tCons (tVar 0) tNil)) (gName 1)) t { nx := fun _ H' => V.non = V.bl true, rt := fun v _ => v = .bl true } (some (.ref a) :: none :: List.replicate k none) H := by
  refine ⟨_, rfl, a, ns, rfl, hS, hl, fun st lg cl H1 e1 n1 n2 n3 ok1 => ?_⟩
  obtain ⟨F, hF, hFs, hFl, hFa, hFt, hFn⟩ : ∃ F : Hp, Ex F H1 ∧ F st = none ∧ F lg = none ∧ SqL K F a (ns.map V.int) ∧ (∀ p ∈ T, F p.1 = none) ∧ ∀ b ps, F b ≠ some (.tbl ps) := by
    have f1 : ∀ b o, (match H b with | some (.tbl _) => none | x => x) = some o → H b = some o := fun b o e => by
      split at e
      · cases e
      · exact e
    refine ⟨fun b => match H b with | some (.tbl _) => none | x => x, fun b o hb => e1 _ _ (f1 b o hb), ?_, ?_, ?_, fun p hp => ?_, fun b ps e => ?_⟩
    · show (match H st with | some (.tbl _) => none | x => x) = _
      rw [n1]
    · show (match H lg with | some (.tbl _) => none | x => x) = _
      rw [n2]
    · rcases hS with (h1 | ⟨o, h1⟩) | h1
      · exact .inl (.inl (by show (match H a with | some (.tbl _) => none | x => x) = _; rw [h1]))
      · exact .inl (.inr ⟨o, by show (match H a with | some (.tbl _) => none | x => x) = _; rw [h1]⟩)
      · exact .inr h1
    · obtain ⟨ps, h1, _⟩ := hTab p hp
      show (match H p.1 with | some (.tbl _) => none | x => x) = _
      rw [h1]
    · have e : (match H b with | some (.tbl _) => none | x => x) = some (.tbl ps) := e
      split at e
      · cases e
      · rename_i h
        exact h ps e
  have ok : Off st (lg, T) cl 900000000 F H1 := ⟨hF, hFs, hFl, ok1, hTab.ext e1, hFt, hFn⟩
  refine h (some (st, (lg, T), cl)) ⟨st, (lg, T), cl, rfl, rfl⟩ F H1 (some (.sc ns.length) :: some .st :: List.replicate k none) 900000000 F H1 _ ⟨ok, FrRel.refl hF, ?_, fun i s hs => ?_, fun i j d e _ hs => ?_⟩ _ _ hD ⟨fun _ _ _ _ _ h => h.elim, fun v d b F2 H2 h e ok g r => ?_, fun _ _ _ _ _ h => h.elim, fun _ _ _ _ _ h => h.elim, fun _ _ _ _ _ _ h => h.elim⟩
  · simp
  · match i, hs with
    | 0, hs => cases hs; exact ⟨a, _, rfl, hFa, List.length_map _⟩
    | 1, hs => cases hs; exact ⟨st, (lg, T), cl, rfl, rfl⟩
    | i + 2, hs => exact (at_rep (n := k) (i := i) hs).elim
  · match i, hs with
    | 0, hs => cases hs
    | 1, hs => cases hs
    | i + 2, hs => exact (at_rep (n := k) (i := i) hs).elim
  · subst h
    cases r
    rfl
/-! ### sorted(d.items()), texts to whole numbers -/
def itemsI : List (Key × Dt) → Option (List (Str × Int))
  | [] => some []
  | (.inr x, .int i) :: r => (itemsI r).map ((x, i) :: ·)
  | _ => Option.none
def prT (p : Str × Int) : Dt := .tuple [.str p.1, .int p.2]
def leP : Str × Int → Str × Int → Bool := PySem.W.dataLe false prD
theorem itemsI_kv {K : PySem.W.Frag} {mg : Str → Option Value} {F : Hp} : ∀ {xs : List (Key × V)} {kvs : List (Key × Dt)} {ks : List (Str × Int)}, RzKV K mg F xs kvs → itemsI kvs = some ks → xs = ks.map kvI
  | _, _, _, .nil, h => by cases h; rfl
  | _, _, ks, .cons (k := .inr x) (d := .int i) r t, h => by
    obtain ⟨ks', h1, rfl⟩ := Option.map_eq_some_iff.mp (show (itemsI _).map ((x, i) :: ·) = some ks from h)
    cases r
    rw [itemsI_kv t h1]
    rfl
  | _, _, _, .cons (k := .inl _) _ _, h => by simp [itemsI] at h
  | _, _, _, .cons (k := .inr _) (d := .none) _ _, h => by simp [itemsI] at h
  | _, _, _, .cons (k := .inr _) (d := .bool _) _ _, h => by simp [itemsI] at h
  | _, _, _, .cons (k := .inr _) (d := .str _) _ _, h => by simp [itemsI] at h
  | _, _, _, .cons (k := .inr _) (d := .list _) _ _, h => by simp [itemsI] at h
  | _, _, _, .cons (k := .inr _) (d := .tuple _) _ _, h => by simp [itemsI] at h
  | _, _, _, .cons (k := .inr _) (d := .dict _) _ _, h => by simp [itemsI] at h
  | _, _, _, .cons (k := .inr _) (d := .obj _ _) _ _, h => by simp [itemsI] at h
  | _, _, _, .cons (k := .inr _) (d := .err _ _) _ _, h => by simp [itemsI] at h
theorem paired_left {H2 : Hp} {ts : List Addr} {qs : List (Str × Int)} (h : Paired (fun (t : Addr) (q : Str × Int) => ∃ o : Obj, o.dict = none ∧ H2 t = some (.frz o (.tup [.str q.1, .int q.2]))) ts qs) {c : Addr} (hc : c ∈ ts) : ∃ o u, H2 c = some (.frz o u) := by
  induction h with
  | nil => cases hc
  | cons h _ ih =>
    rcases List.mem_cons.mp hc with rfl | hc
    · obtain ⟨o, _, e⟩ := h
      exact ⟨o, _, e⟩
    · exact ih hc
def wSortIt (w : WE) : WE := fun ρ b q qx => w ρ b (fun d b1 => match d with
  | .dict kvs => (match itemsI kvs with
    | some ks => (ks.length ≤ 1000 ∧ ∀ p ∈ ks, p.1.length ≤ 100000) ∧ q (.list ((ks.mergeSort leP).map prT)) b1
    | Option.none => False)
  | _ => False) qx
theorem sn_sortIt {c : Cd} {te : TE} {we : WE} (h : SndB c te we) : SndE c (tCB rSortItK (tCons (tBM0 c.K "dict" rItemsK te) tNil)) (wSortIt we) := fun F0 H0 ρ b F H σ W q qx Q hw lx lk =>
  h F0 H0 ρ b F H σ W _ qx _ hw lx fun v d b1 F1 H1 h1 g1 W1 p => by
    split at h1
    · rename_i kvs
      split at h1
      · rename_i ks hks
        obtain ⟨⟨hlen, hkl⟩, hq⟩ := h1
        obtain ⟨a, xs, rfl, ha, r, _⟩ := pb_dct p W1.z
        have e := itemsI_kv r hks
        subst e
        refine ⟨.inr (.inr (.inl ⟨rfl, .inl ⟨_, ha⟩⟩)), a, _, rfl, rfl, ha, fun t ht => ?_⟩
        have nat_ : a ≠ t := ne_of_none ha ht
        refine ⟨t, a, ks, rfl, upd_same, by rw [upd_ne nat_]; exact ha, hlen, fun H2 l ts k1 k2 k3 k4 k5 => ?_⟩
        have E1 : Ex H1 (upd H1 t (DX.itemsO t a)) := Evl.Ex.new ht
        have E2 : Ex H1 H2 := E1.trans k1
        have fresh : ∀ c, (c = l ∨ c ∈ ts) → H1 c = none := fun c hc => by
          rcases hc with rfl | hc
          · exact Evl.fresh_back E1 k2
          · exact Evl.fresh_back E1 (k3 c hc)
        have g := Grow.add (F := F1) (H := H1) (H' := H2) (fun c => c = l ∨ c ∈ ts) fresh W1.z E2 (fun c hc ps e => by
          rcases hc with rfl | hc
          · rw [k4] at e
            cases e
          · obtain ⟨o, u, h⟩ := paired_left k5 hc
            rw [h] at e
            cases e)
        have hml : (ks.mergeSort leP).length = ks.length := List.length_mergeSort ..
        refine lk _ _ b1 _ _ hq (g1.trans (FrRel.of g)) (W1.grow g) (.lst (by rw [List.length_map, hml]; omega) (by show (if _ then _ else _) = _; rw [if_pos (.inl rfl)]; exact k4) ?_)
        have conv : ∀ {ts' : List Addr} {qs : List (Str × Int)}, (∀ t ∈ ts', t ∈ ts) → (∀ p ∈ qs, p.1.length ≤ 100000) → Paired (fun (t : Addr) (q : Str × Int) => ∃ o : Obj, o.dict = none ∧ H2 t = some (.frz o (.tup [.str q.1, .int q.2]))) ts' qs →
            RzAll c.K c.mg (fun c => if c = l ∨ c ∈ ts then H2 c else F1 c) (ts'.map V.ref) (qs.map prT) := fun {ts' qs} hm hl h => by
          induction h with
          | nil => exact .nil
          | @cons t qq ts' qs h _ ih =>
            obtain ⟨o2, d2, h2⟩ := h
            have ht2 := hm t List.mem_cons_self
            refine .cons (.tup (show 2 ≤ 100000 by decide) (TupZ.of (o := o2) ?_ d2) (.cons (.str _ (hl _ List.mem_cons_self)) (.cons (.int _) .nil))) (ih (fun c hc => hm c (List.mem_cons_of_mem _ hc)) fun p hp => hl p (List.mem_cons_of_mem _ hp))
            show (if t = l ∨ t ∈ ts then _ else _) = _
            rw [if_pos (.inr ht2)]
            exact h2
        exact conv (fun _ h => h) (fun p hp => hkl p ((List.mergeSort_perm ks leP).mem_iff.mp hp)) k5
      · exact h1.elim
    · exact h1.elim
end Dw
set_option Elab.async false
set_option linter.all false
set_option maxRecDepth 100000
set_option maxHeartbeats 4000000
/-! Data-level wp: slices, join. -/
namespace Dw
open PySem PySem.Spec PyProof.Rows L2 Cn LamX
theorem mergeK_nd : ∀ (more acc : List (Key × V)), ((acc ++ more).map (·.1)).Nodup → mergeK acc more = acc ++ more
  | [], acc, _ => (List.append_nil _).symm
  | p :: more, acc, h => by
    have hn : valV acc p.1 = none := by
      cases e : valV acc p.1 with
      | none => rfl
      | some v =>
        have hm : p.1 ∈ acc.map (·.1) := valV_in e
        rw [List.map_append, List.map_cons] at h
        exact absurd (List.mem_cons_self) ((List.nodup_append.mp h).2.2 _ hm _ · rfl)
    show mergeK (putK acc p.1 p.2) more = _
    rw [putK_new _ hn, mergeK_nd more _ (by rw [List.append_assoc]; exact h), List.append_assoc]
    rfl
section
variable {c : Cd} {ta tb te : TE} {tt tu : TT} {tas tbs : TA} {wa wb we : WE} {wt wu : WT} {was : WA} {F H F2 H2 F0 H0 : Hp}
/-! ### slices -/
abbrev WO := Rho → Nat → (Option Int → Nat → Prop) → QX → Prop
def SndO (c : Cd) (t : TO) (w : WO) : Prop := ∀ F0 H0 ρ b F H σ, Wd c F0 H0 ρ b F H σ → ∀ q qx Q, w ρ b q qx → LkX c F0 H0 F qx → (∀ o b2 F2 H2, q o b2 → FrRel c.fr F H F2 H2 → Wd c F0 H0 ρ b2 F2 H2 σ → Q o H2) → t σ H Q
def wNoPart : WO := fun _ b q _ => q none b
def wPart (w : WE) : WO := fun ρ b q qx => w ρ b (fun d b1 => match d with
  | .int i => q (some i) b1
  | _ => False) qx
theorem sp_none : SndO c tNoPart wNoPart := fun F0 H0 ρ b F H σ W q qx Q hw lx l => l none b F H hw (FrRel.refl W.z) W
theorem sp_some (h : SndE c te we) : SndO c (tPart te) (wPart we) := fun F0 H0 ρ b F H σ W q qx Q hw lx l => h F0 H0 ρ b F H σ W _ qx _ hw lx fun v d b1 F1 H1 h1 g1 W1 r => by
  split at h1
  · cases r
    exact ⟨_, rfl, l _ b1 F1 H1 h1 g1 W1⟩
  · exact h1.elim
abbrev SlOp := Dt → Option Int → Option Int → (Dt → Prop) → Prop
def SOk (c : Cd) (r : V → Option Int → Option Int → Hp → VK → Prop) (f : SlOp) : Prop := ∀ x d lo hi F H, Ex F H → Pb c F H x d → ∀ (q : Dt → Prop) (Q : VK), f d lo hi q → (∀ v k F2 H2, q k → Grow F H F2 H2 → Rz c.K c.mg F2 v k → Q v H2) → r x lo hi H Q
def wSl (f : SlOp) (we : WE) (wl wh : WO) : WE := fun ρ b q qx => we ρ b (fun d b1 => wl ρ b1 (fun l b2 => wh ρ b2 (fun u b3 => f d l u fun z => q z b3) qx) qx) qx
theorem sn_sl {r : V → Option Int → Option Int → Hp → VK → Prop} {f : SlOp} {tl th : TO} {wl wh : WO} (hr : SOk c r f) (he : SndB c te we) (hl : SndO c tl wl) (hh : SndO c th wh) : SndE c (tSl r te tl th) (wSl f we wl wh) := fun F0 H0 ρ b F H σ W q qx Q hw lx l =>
  he F0 H0 ρ b F H σ W _ qx _ hw lx fun x d b1 F1 H1 h1 g1 W1 p1 => hl F0 H0 ρ b1 F1 H1 σ W1 _ qx _ h1 (lx.mono g1.ff) fun lo b2 F2 H2 h2 g2 W2 => hh F0 H0 ρ b2 F2 H2 σ W2 _ qx _ h2 (lx.mono (g1.trans g2).ff) fun hi b3 F3 H3 h3 g3 W3 =>
    hr x d lo hi F3 H3 W3.z ((p1.step g2).step g3) _ Q h3 fun v k F4 H4 hq g4 r4 => l v k b3 F4 H4 hq (((g1.trans g2).trans g3).trans (FrRel.of g4)) (W3.grow g4) r4
def cutD (xs : List Dt) (lo hi : Option Int) : List Dt := (xs.drop (HT.sIx xs.length 0 lo)).take (HT.sIx xs.length xs.length hi - HT.sIx xs.length 0 lo)
theorem rza_cut {K : PySem.W.Frag} {mg : Str → Option Value} {F : Hp} {xs : List V} {ds : List Dt} (r : RzAll K mg F xs ds) (lo hi : Option Int) : RzAll K mg F (cutV xs lo hi) (cutD ds lo hi) := by
  unfold cutV cutD
  rw [rza_len r]
  exact rza_take _ (rza_drop _ r)
theorem cutD_len (xs : List Dt) (lo hi : Option Int) : (cutD xs lo hi).length ≤ xs.length := by
  unfold cutD
  rw [List.length_take, List.length_drop]
  omega
def rSlA (K : PySem.W.Frag) : V → Option Int → Option Int → Hp → VK → Prop := fun x lo hi H Q => rSlS x lo hi H Q ∨ rSlL K x lo hi H Q ∨ rSlZ K x lo hi H Q
theorem sl_any {X : Cx} {K : PySem.W.Frag} (hK : X.K = K) : SlR X (rSlA K) := by
  intro pins s σ H x v vl vu lo hi sl Q I rx hs pl pu h
  rcases h with h | h | h
  · exact sl_str pins s σ H x v vl vu lo hi sl Q I rx hs pl pu h
  · subst hK
    exact sl_list pins s σ H x v vl vu lo hi sl Q I rx hs pl pu h
  · exact sl_tupZ hK pins s σ H x v vl vu lo hi sl Q I rx hs pl pu h
def slA : SlOp := fun d lo hi q => match d with
  | .str z => q (.str (cutS z lo hi))
  | .list ds => q (.list (cutD ds lo hi))
  | .tuple ds => q (.tuple (cutD ds lo hi))
  | _ => False
theorem so_any : SOk c (rSlA c.K) slA := fun x d lo hi F H z p q Q hq k => by
  unfold slA at hq
  split at hq
  · rename_i y
    rw [pb_str p z]
    exact .inl ⟨_, rfl, Evl.sz_of (pb_slen p z), k _ _ F H hq (Grow.refl z) (.str _ (Nat.le_trans (cutS_length y lo hi) (pb_slen p z)))⟩
  · rename_i ds
    obtain ⟨a, xs, rfl, hx, r, hl⟩ := pb_lst p z
    refine .inr (.inl ⟨a, xs, rfl, SqL.of hx, fun pp hp => ?_⟩)
    have G := Grow.new (o := .lst (cutV xs lo hi)) z hp
    exact k _ _ _ _ hq G (.lst (Nat.le_trans (cutD_len ds lo hi) hl) upd_same (rza_ex G.ff (rza_cut r lo hi)))
  · rename_i ds
    obtain ⟨a, xs, rfl, hx, r, hl⟩ := pb_tup p z
    have el := rza_len r
    refine .inr (.inr ⟨a, xs, rfl, hx.ex z, fun hw => ?_, fun _ pp o hp hd => ?_⟩)
    · refine k _ _ F H hq (Grow.refl z) (.tup (Nat.le_trans (cutD_len ds lo hi) hl) hx ?_)
      have e : cutD ds lo hi = ds := by
        unfold cutD
        rw [← el, hw.1, hw.2, List.drop_zero, el, Nat.sub_zero, List.take_length]
      rw [e]
      exact r
    · have G := Grow.new (o := .frz o (.tup (cutV xs lo hi))) z hp
      exact k _ _ _ _ hq G (.tup (Nat.le_trans (cutD_len ds lo hi) hl) (TupZ.of upd_same hd) (rza_ex G.ff (rza_cut r lo hi)))
  · exact hq.elim
/-! ### ''.join(xs) -/
def strsO : List Dt → Option (List Str)
  | [] => some []
  | .str x :: ds => (strsO ds).map (x :: ·)
  | _ => Option.none
theorem strsO_map : ∀ {ds : List Dt} {ss : List Str}, strsO ds = some ss → ds = ss.map .str
  | [], _, h => by cases h; rfl
  | .str x :: ds, ss, h => by
    obtain ⟨cs, h1, rfl⟩ := Option.map_eq_some_iff.mp (show (strsO ds).map (x :: ·) = some ss from h)
    rw [strsO_map h1]
    rfl
  | .none :: _, _, h => by cases h
  | .bool _ :: _, _, h => by cases h
  | .int _ :: _, _, h => by cases h
  | .list _ :: _, _, h => by cases h
  | .tuple _ :: _, _, h => by cases h
  | .dict _ :: _, _, h => by cases h
  | .obj _ _ :: _, _, h => by cases h
  | .err _ _ :: _, _, h => by cases h
theorem strsO_of : ∀ ss : List Str, strsO (ss.map .str) = some ss
  | [] => rfl
  | s :: ss => by
    show (strsO (ss.map .str)).map (s :: ·) = _
    rw [strsO_of ss]
    rfl
theorem boolsO_of : ∀ bs : List Bool, boolsO (bs.map .bool) = some bs
  | [] => rfl
  | s :: ss => by
    show (boolsO (ss.map .bool)).map (s :: ·) = _
    rw [boolsO_of ss]
    rfl
def wJoin (wo we : WE) : WE := fun ρ b q qx => wo ρ b (fun x b1 => match x with
  | .str a => we ρ b1 (fun d b2 => match itemsOf d with
    | some ds => (match strsO ds with
      | some ys => ((ys.map (·.length)).sum + ys.length * a.length ≤ 100000 ∧ (PySem.Txt.join a ys).length ≤ 100000) ∧ q (.str (PySem.Txt.join a ys)) b2
      | Option.none => False)
    | Option.none => False) qx
  | _ => False) qx
theorem sn_join {to : TE} {wo : WE} (ho : SndE c to wo) (he : SndB c te we) : SndE c (tM1 (fun x xs H Q => ∃ a p, ∃ ys : List Str, x = .str a ∧ xs = [.ref p] ∧ (SqL c.K H p (ys.map V.str) ∨ SqT c.K H p (ys.map V.str)) ∧ (ys.map (·.length)).sum + ys.length * a.length ≤ 16777216 ∧ Q (.str (PySem.Txt.join a ys)) H) to te) (wJoin wo we) := fun F0 H0 ρ b F H σ W q qx Q hw lx l =>
  ho F0 H0 ρ b F H σ W _ qx _ hw lx fun x d b1 F1 H1 h1 g1 W1 r1 => by
    cases r1 <;> first | exact h1.elim | skip
    rename_i a _
    refine ⟨⟨a, rfl⟩, ?_⟩
    refine he F0 H0 ρ b1 F1 H1 σ W1 _ qx _ h1 (lx.mono g1.ff) fun y e b2 F2 H2 h2 g2 W2 p2 => ?_
    split at h2
    · rename_i e2
      split at h2
      · rename_i ys hys
        obtain ⟨p, xs, rfl, hs, r⟩ := pb_items p2 W2.z e2
        have := strsO_map hys
        subst this
        have := rza_strs r
        subst this
        exact ⟨_, p, ys, rfl, rfl, hs, by have := h2.1.1; omega, l _ _ b2 F2 H2 h2.2 (g1.trans g2) W2 (.str _ h2.1.2)⟩
      · exact h2.elim
    · exact h2.elim
end
/-- the n-th statement of a class -/
def subS (s : Stmt) (n : Nat) : Stmt := match s with
  | .ClassDef _ _ _ b _ _ _ _ _ _ _ => b.getD n (.Pass ⟨0, 0, 0, 0⟩)
  | _ => .Pass ⟨0, 0, 0, 0⟩
theorem fr_of {ns : List (Str × NameKind)} (h : (ns.all fun p => (!decide (p.2 = .cell) && !decide (p.2 = .free)) || decide (p.1 = "__class__")) = true) : ∀ z, ns.lookup z = some .cell ∨ ns.lookup z = some .free → z = "__class__" := by
  intro z hz
  have key : ∀ {k : NameKind}, ns.lookup z = some k → (z, k) ∈ ns := by
    intro k
    clear h hz
    induction ns with
    | nil => intro h; cases h
    | cons p ns ih =>
      intro h
      obtain ⟨x, y⟩ := p
      rw [List.lookup_cons] at h
      split at h
      · rename_i e
        have e1 := beq_iff_eq.mp e
        have e2 := Option.some.inj h
        rw [e1, e2]
        exact List.mem_cons_self
      · exact List.mem_cons_of_mem _ (ih h)
  rcases hz with hz | hz
  · have := List.all_eq_true.mp h _ (key hz)
    simpa using this
  · have := List.all_eq_true.mp h _ (key hz)
    simpa using this
end Dw
set_option Elab.async false
set_option linter.all false
set_option maxRecDepth 100000
set_option maxHeartbeats 4000000
/-! Data-level wp: x, y = a, b with new lists of one's own among them. -/
namespace Dw
open PySem PySem.Spec PyProof.Rows L2 Cn LamX
section
variable {c : Cd} {ta tb te : TE} {tas tbs : TA} {wa wb we : WE} {F H F2 H2 F0 H0 H1 : Hp} {ρ : Rho} {b : Nat} {σ : L2.St} {a : Addr}
abbrev WM := Rho → Nat → (List Sv → Nat → Prop) → QX → Prop
inductive MIt (c : Cd) (H0 : Hp) (ρ : Rho) (σ : L2.St) (F H : Hp) : V → Sv → Prop
  | sh {v : V} {d : Dt} : Rz c.K c.mg F v d → MIt c H0 ρ σ F H v (.sh d)
  | ow {a : Addr} {d : Dt} : OwAt c F H a d → Far c H0 ρ F σ a → MIt c H0 ρ σ F H (.ref a) (.ow d)
def ownsOf : List V → List Sv → List Addr
  | .ref a :: vs, .ow _ :: ss => a :: ownsOf vs ss
  | _ :: vs, _ :: ss => ownsOf vs ss
  | _, _ => []
structure MOk (c : Cd) (H0 : Hp) (ρ : Rho) (σ : L2.St) (H1 F H : Hp) (vs : List V) (ss : List Sv) : Prop where
  p : Paired (MIt c H0 ρ σ F H) vs ss
  n : (ownsOf vs ss).Nodup
  f : ∀ a ∈ ownsOf vs ss, N0 c.fr H1 a
def SndM (c : Cd) (t : TA) (w : WM) : Prop := ∀ F0 H0 ρ b F H σ, Wd c F0 H0 ρ b F H σ → ∀ q qx Q, w ρ b q qx → LkX c F0 H0 F qx →
  (∀ vs ss b2 F2 H2, q ss b2 → FrRel c.fr F H F2 H2 → Wd c F0 H0 ρ b2 F2 H2 σ → MOk c H0 ρ σ H F2 H2 vs ss → Q vs H2) → t σ H Q
def wMNil : WM := fun _ b q _ => q [] b
def wMSh (w : WE) (ws : WM) : WM := fun ρ b q qx => w ρ b (fun d b1 => ws ρ b1 (fun ss b2 => q (.sh d :: ss) b2) qx) qx
def wMOw (w : WE) (ws : WM) : WM := fun ρ b q qx => w ρ b (fun d b1 => ws ρ b1 (fun ss b2 => q (.ow d :: ss) b2) qx) qx
theorem snm_nil : SndM c tNil wMNil := fun F0 H0 ρ b F H σ W q qx Q hw lx l => l _ _ b F H hw (FrRel.refl W.z) W ⟨.nil, List.nodup_nil, fun _ h => absurd h List.not_mem_nil⟩
theorem owns_sh {v : V} {d : Dt} {vs : List V} {ss : List Sv} : ownsOf (v :: vs) (.sh d :: ss) = ownsOf vs ss := by
  cases v <;> rfl
theorem snm_sh {w : WE} {ws : WM} (h : SndE c te w) (k : SndM c tas ws) : SndM c (tCons te tas) (wMSh w ws) := fun F0 H0 ρ b F H σ W q qx Q hw lx l => h F0 H0 ρ b F H σ W _ qx _ hw lx fun v d b1 F1 H1 h1 g1 W1 r1 =>
  k F0 H0 ρ b1 F1 H1 σ W1 _ qx _ h1 (lx.mono g1.ff) fun vs ss b2 F2 H2 h2 g2 W2 m => l _ _ b2 F2 H2 h2 (g1.trans g2) W2 ⟨.cons (.sh (rz_ex g2.ff r1)) m.p, by rw [owns_sh]; exact m.n, fun a ha => by rw [owns_sh] at ha; exact g1.back (m.f a ha)⟩
theorem snm_ow {w : WE} {ws : WM} (h : SndN c te w) (k : SndM c tas ws) : SndM c (tCons te tas) (wMOw w ws) := fun F0 H0 ρ b F H σ W q qx Q hw lx l => h F0 H0 ρ b F H σ W _ qx _ hw lx fun p d b1 F1 H1 h1 g1 W1 hp f o =>
  k F0 H0 ρ b1 F1 H1 σ W1 _ qx _ h1 (lx.mono g1.ff) fun vs ss b2 F2 H2 h2 g2 W2 m => by
    obtain ⟨ob, ho, po⟩ := o.some
    refine l _ _ b2 F2 H2 h2 (g1.trans g2) W2 ⟨.cons (.ow (o.mono g2.ff fun x t hx => g2.own t f.own.ap hx) (f.step g2 po.1 ho)) m.p, List.nodup_cons.mpr ⟨fun hm => ?_, m.n⟩, fun x hx => ?_⟩
    · exact (m.f p hm).no po.1 ho
    · rcases List.mem_cons.mp hx with rfl | hx
      · exact hp
      · exact g1.back (m.f x hx)
def puts : Rho → List Nat → List Sv → Rho
  | ρ, i :: is, s :: ss => puts (put ρ i (some s)) is ss
  | ρ, _, _ => ρ
def sets : L2.St → List Nat → List V → L2.St
  | σ, i :: is, v :: vs => sets (σ.set i (some v)) is vs
  | σ, _, _ => σ
theorem Far.setSh {i : Nat} {v : V} {d : Dt} (f : Far c H0 ρ F σ a) (l : σ.length = ρ.length) : Far c H0 (put ρ i (some (.sh d))) F (σ.set i (some v)) a := ⟨f.own, fun j e h => by
  rcases at_put h with ⟨_, _, e⟩ | ⟨n, h⟩
  · cases e
  · rw [List.getElem?_set_ne (Ne.symm n)]
    exact f.nw j e h⟩
theorem Far.setOw {i : Nat} {a2 : Addr} {d : Dt} (f : Far c H0 ρ F σ a) (l : σ.length = ρ.length) (ne : a2 ≠ a) : Far c H0 (put ρ i (some (.ow d))) F (σ.set i (some (.ref a2))) a := ⟨f.own, fun j e h => by
  rcases at_put h with ⟨e1, l1, _⟩ | ⟨n, h⟩
  · subst e1
    rw [List.getElem?_set_self (by rw [l]; exact l1)]
    intro z
    exact ne (V.ref.inj (Option.some.inj (Option.some.inj z)))
  · rw [List.getElem?_set_ne (Ne.symm n)]
    exact f.nw j e h⟩
theorem paired_mem {α β : Type} {R : α → β → Prop} {S : α → β → Prop} : ∀ {l : List α} {m : List β}, Paired R l m → (∀ a b, (a, b) ∈ l.zip m → R a b → S a b) → Paired S l m
  | _, _, .nil, _ => .nil
  | _, _, .cons h t, f => .cons (f _ _ List.mem_cons_self h) (paired_mem t fun a b hm => f a b (List.mem_cons_of_mem _ hm))
theorem owns_mem {a : Addr} {d : Dt} : ∀ {vs : List V} {ss : List Sv}, (V.ref a, Sv.ow d) ∈ vs.zip ss → a ∈ ownsOf vs ss
  | v :: vs, s :: ss, h => by
    rw [List.zip_cons_cons] at h
    rcases List.mem_cons.mp h with e | h
    · cases e
      exact List.mem_cons_self
    · have ih := owns_mem h
      cases v <;> cases s <;> first | exact ih | exact List.mem_cons_of_mem _ ih
theorem Wd.sets : ∀ (is : List Nat) (vs : List V) (ss : List Sv) (ρ : Rho) (σ : L2.St), Wd c F0 H0 ρ b F H σ → is.length = ss.length → Paired (MIt c H0 ρ σ F H) vs ss → (ownsOf vs ss).Nodup → Wd c F0 H0 (puts ρ is ss) b F H (Dw.sets σ is vs) := by
  intro is
  induction is with
  | nil =>
    intro vs ss ρ σ w hl h n
    exact w
  | cons i is ih =>
    intro vs ss ρ σ w hl h n
    cases h with
    | nil => simp at hl
    | cons h t =>
      cases h with
      | sh r =>
        rw [owns_sh] at n
        refine ih _ _ _ _ (w.set (i := i) r) (by simpa using hl) (paired_mem t fun x y _ m => ?_) n
        cases m with
        | sh r => exact .sh r
        | ow o f => exact .ow o (f.setSh w.len)
      | ow o f =>
        obtain ⟨n1, n2⟩ := List.nodup_cons.mp n
        refine ih _ _ _ _ (w.setOw (i := i) o f.own f.nw) (by simpa using hl) (paired_mem t fun x y hm m => ?_) n2
        cases m with
        | sh r => exact .sh r
        | ow o2 f2 => exact .ow o2 (f2.setOw w.len fun e => n1 (by rw [e]; exact owns_mem hm))
/-- x, y = .. -/
def wParM (is : List Nat) (ws : WM) : WS := fun D ρ b => ws ρ b (fun ss b1 => is.length = ss.length ∧ D.nx (puts ρ is ss) b1) D.ex
theorem paired_len {α β : Type} {R : α → β → Prop} : ∀ {l : List α} {m : List β}, Paired R l m → l.length = m.length
  | _, _, .nil => rfl
  | _, _, .cons _ t => by rw [List.length_cons, List.length_cons, paired_len t]
theorem ss_parM {i j : Nat} {ws : WM} (h : SndM c tas ws) : SndS c (tPar i j tas) (wParM [i, j] ws) := fun F0 H0 ρ b F H σ W D E hw l => h F0 H0 ρ b F H σ W _ _ _ hw l.x fun vs ss b2 F2 H2 hq g2 W2 m => by
  have w3 := W2.sets _ _ _ _ _ hq.1 m.p m.n
  have e := paired_len m.p
  rw [← hq.1] at e
  match vs, e with
  | [u, v], _ => exact ⟨_, _, rfl, l.nx _ b2 F2 H2 _ hq.2 g2.ff w3⟩
theorem ss_parM3 {i j k : Nat} {ws : WM} (h : SndM c tas ws) : SndS c (tPar3 i j k tas) (wParM [i, j, k] ws) := fun F0 H0 ρ b F H σ W D E hw l => h F0 H0 ρ b F H σ W _ _ _ hw l.x fun vs ss b2 F2 H2 hq g2 W2 m => by
  have w3 := W2.sets _ _ _ _ _ hq.1 m.p m.n
  have e := paired_len m.p
  rw [← hq.1] at e
  match vs, e with
  | [u, v, x], _ => exact ⟨_, _, _, rfl, l.nx _ b2 F2 H2 _ hq.2 g2.ff w3⟩
/-- .. by way of a tuple -/
def gNames : List Nat → TGs
  | [] => gNil
  | i :: is => gCons (gName i) (gNames is)
theorem gNames_of {R : L2.St → Hp → Prop} {H : Hp} : ∀ {is : List Nat} {vs : List V} {σ : L2.St}, vs.length = is.length → R (Dw.sets σ is vs) H → gNames is vs σ H R
  | [], [], σ, _, h => ⟨rfl, h⟩
  | i :: is, v :: vs, σ, e, h => ⟨v, vs, rfl, gNames_of (is := is) (vs := vs) (by simpa using e) h⟩
  | [], _ :: _, _, e, _ => by simp at e
  | _ :: _, [], _, e, _ => by simp at e
theorem ss_parT {is : List Nat} {n : Nat} {ws : WM} {g : TGs} (h : SndM c tas ws) (hn : is.length = n) (hg : g = gNames is) (hs : n ≤ 1000 := by decide) : SndS c (tAsg (tTupZ tas) (gTup c.K n g)) (wParM is ws) := fun F0 H0 ρ b F H σ W D E hw l => h F0 H0 ρ b F H σ W _ _ _ hw l.x fun vs ss b2 F2 H2 hq g2 W2 m => by
  have e := paired_len m.p
  rw [← hq.1] at e
  refine ⟨Evl.sz_of (by omega), fun p o hp hd => ?_⟩
  have G : Grow F2 H2 F2 (upd H2 p (.frz o (.tup vs))) := Grow.tmp W2.z hp
  have W3 := W2.grow G
  subst hg
  refine ⟨p, vs, rfl, (TupZ.of (K := c.K) upd_same hd).sq, by rw [e, hn], gNames_of e ?_⟩
  refine l.nx _ b2 F2 _ _ hq.2 g2.ff (W3.sets _ _ _ _ _ hq.1 (paired_mem m.p fun x y hm mi => ?_) m.n)
  cases mi with
  | sh r => exact .sh r
  | ow o2 f2 =>
    refine .ow (o2.mono (Evl.Ex.refl _) fun x _ hx => ?_) f2
    exact G.hh _ _ hx
end
end Dw
set_option Elab.async false
set_option linter.all false
set_option maxRecDepth 100000
set_option maxHeartbeats 4000000
/-! Data-level wp: repr of data that may hold dicts. -/
namespace Dw
open PySem PySem.Spec PyProof.Rows L2 Cn LamX
def keyP : Key → PyData
  | .inl i => .int i
  | .inr s => .str s
mutual
def Dt.pd2 : Dt → Option PyData
  | .none => some .none
  | .bool b => some (.bool b)
  | .int i => some (.int i)
  | .str s => some (.str s)
  | .list xs => (pd2All xs).map .list
  | .tuple xs => (pd2All xs).map .tuple
  | .dict kvs => (pd2KV kvs).map .dict
  | .obj _ _ => Option.none
  | .err _ _ => Option.none
def pd2All : List Dt → Option (List PyData)
  | [] => some []
  | x :: xs => match Dt.pd2 x, pd2All xs with
    | some y, some ys => some (y :: ys)
    | _, _ => Option.none
def pd2KV : List (Key × Dt) → Option (List (PyData × PyData))
  | [] => some []
  | (k, x) :: xs => match Dt.pd2 x, pd2KV xs with
    | some y, some ys => some ((keyP k, y) :: ys)
    | _, _ => Option.none
end
mutual
/-- no list within -/
def Dt.nl : Dt → Bool
  | .list _ => false
  | .tuple xs => nlAll xs
  | .dict kvs => nlKV kvs
  | _ => true
def nlAll : List Dt → Bool
  | [] => true
  | x :: xs => Dt.nl x && nlAll xs
def nlKV : List (Key × Dt) → Bool
  | [] => true
  | (_, x) :: xs => Dt.nl x && nlKV xs
end
/-- no list stands at that place -/
def NoSysL (H : Hp) : Prop := ∀ a xs, H a = some (.lst xs) → sysModules ≠ a
section
variable {X : Cx} {pins : List (Addr × Obj)} {σ : L2.St} {H : Hp} {s : Shared} {mg : Str → Option Value}
theorem keys_read {P : Program} {w : World} {h : Heap} : ∀ {es : List DictEntry} {kvs : List (Key × Value)}, Pairs (mixKind P w) es kvs → ReadsAll h (es.map (·.key)) (kvs.map fun p => keyP p.1) [] ∧ es.map (·.val) = kvs.map (·.2)
  | _, _, .nil => ⟨ReadsAll.nil, rfl⟩
  | _, _, .cons (e := e) (kv := kv) (es := es) (kvs := kvs) h1 h2 t => by
    obtain ⟨a, b⟩ := keys_read (h := h) t
    refine ⟨?_, by rw [List.map_cons, List.map_cons, h2, b]⟩
    have r : Reads h e.key (keyP kv.1) [] := by
      rcases keyIs_shape (show keyIs kv.1 e.key = true from h1) with ⟨i, t, e1, e2⟩ | ⟨x, t, e1, e2⟩
      · rw [e1, e2]
        exact Reads.int i t
      · rw [e1, e2]
        exact Reads.str x t
    exact ReadsAll.cons r a
theorem kv_keys {κ : Type} : ∀ {kvs : List (κ × V)} {vs : List (κ × Value)}, KV kvs vs → vs.map (·.1) = kvs.map (·.1)
  | _, _, .nil => rfl
  | _, _, .cons h t => by rw [List.map_cons, List.map_cons, kv_keys t, h.1]
mutual
theorem rz_reads (I : Inv X pins σ H s) : ∀ (d : Dt) (v : V) (u : Value) (e : PyData), Rz X.K mg H v d → d.pd2 = some e → RelV v u → ∃ as, Reads s.heap u e as ∧ (d.nl = true ∨ NoSysL H → sysModules ∉ as)
  | .none, _, _, _, h, q, r => by
    cases h; cases r; cases q
    exact ⟨_, Reads.none, fun _ => List.not_mem_nil⟩
  | .bool b, _, _, _, h, q, r => by
    cases h; cases r; cases q
    exact ⟨_, Reads.bool b, fun _ => List.not_mem_nil⟩
  | .int i, _, _, _, h, q, r => by
    cases h; cases q
    obtain ⟨t, rfl⟩ := r
    exact ⟨_, Reads.int i t, fun _ => List.not_mem_nil⟩
  | .str x, _, _, _, h, q, r => by
    cases h; cases q
    obtain ⟨t, rfl⟩ := r
    exact ⟨_, Reads.str x t, fun _ => List.not_mem_nil⟩
  | .list ds, _, _, _, h, q, r => by
    cases h with
    | lst l hs ha =>
      cases r
      unfold Dt.pd2 at q
      obtain ⟨es, q1, rfl⟩ := Option.map_eq_some_iff.mp q
      obtain ⟨its, rv, ⟨o, n, ho, hc, _, hd⟩, _⟩ := I.list (SqL.of hs)
      obtain ⟨as, hr, hn⟩ := rza_reads I ds _ its es ha q1 rv
      exact ⟨_, Reads.list ho hc hd hr, fun hl hm => by
        rcases hl with hl | hl
        · simp [Dt.nl] at hl
        · rcases List.mem_cons.mp hm with z | z
          · exact hl _ _ hs z
          · exact hn (.inr hl) z⟩
  | .tuple ds, _, _, _, h, q, r => by
    cases h with
    | tup l hs ha =>
      cases r
      unfold Dt.pd2 at q
      obtain ⟨es, q1, rfl⟩ := Option.map_eq_some_iff.mp q
      obtain ⟨its, rv, ⟨o, ho, hc, n, hd⟩, _⟩ := I.tuple hs.sq
      obtain ⟨as, hr, hn⟩ := rza_reads I ds _ its es ha q1 rv
      exact ⟨_, Reads.tuple ho hc hd hr, fun hl => hn (hl.imp (fun z => by simpa [Dt.nl] using z) fun z => z)⟩
  | .dict ds, _, _, _, h, q, r => by
    cases h with
    | dct l hs ha =>
      cases r
      unfold Dt.pd2 at q
      obtain ⟨es, q1, rfl⟩ := Option.map_eq_some_iff.mp q
      obtain ⟨_, hsm, vs, rv, o, des, ep, ho, hc, hd, _, hp, _⟩ := dk_of I.hok hs
      obtain ⟨k1, k2⟩ := keys_read (h := s.heap) hp
      obtain ⟨bs, hr, hn, hk⟩ := rzk_reads I ds _ vs es ha q1 rv
      refine ⟨_, Reads.dict (as := []) (bs := bs) ho hc.1 hd (by
        rw [hk]
        exact k1) (by rw [k2]; exact hr), fun hl hm => ?_⟩
      rcases List.mem_cons.mp hm with z | z
      · rw [z, beq_self_eq_true] at hsm
        cases hsm
      · exact hn (hl.imp (fun z => by simpa [Dt.nl] using z) fun z => z) z
  | .obj _ _, _, _, _, _, q, _ => by cases q
  | .err _ _, _, _, _, _, q, _ => by cases q
theorem rza_reads (I : Inv X pins σ H s) : ∀ (ds : List Dt) (vs : List V) (us : List Value) (es : List PyData), RzAll X.K mg H vs ds → pd2All ds = some es → Vals vs us → ∃ as, ReadsAll s.heap us es as ∧ (nlAll ds = true ∨ NoSysL H → sysModules ∉ as)
  | [], _, _, _, h, q, r => by
    cases h; cases r; cases q
    exact ⟨_, ReadsAll.nil, fun _ => List.not_mem_nil⟩
  | d :: ds, _, _, _, h, q, r => by
    cases h with
    | cons h1 h2 =>
      cases r with
      | cons r1 r2 =>
        unfold pd2All at q
        split at q
        · rename_i y ys e1 e2
          cases q
          obtain ⟨as, q1, n1⟩ := rz_reads I d _ _ _ h1 e1 r1
          obtain ⟨bs, q2, n2⟩ := rza_reads I ds _ _ _ h2 e2 r2
          exact ⟨_, ReadsAll.cons q1 q2, fun hl hm => (List.mem_append.mp hm).elim (n1 (hl.imp (fun z => by simp only [nlAll, Bool.and_eq_true] at z; exact z.1) fun z => z)) (n2 (hl.imp (fun z => by simp only [nlAll, Bool.and_eq_true] at z; exact z.2) fun z => z))⟩
        · cases q
theorem rzk_reads (I : Inv X pins σ H s) : ∀ (ds : List (Key × Dt)) (vs : List (Key × V)) (us : List (Key × Value)) (es : List (PyData × PyData)), RzKV X.K mg H vs ds → pd2KV ds = some es → KV vs us → ∃ as, ReadsAll s.heap (us.map (·.2)) (es.map (·.2)) as ∧ (nlKV ds = true ∨ NoSysL H → sysModules ∉ as) ∧ es.map (·.1) = us.map fun p => keyP p.1
  | [], _, _, _, h, q, r => by
    cases h; cases r; cases q
    exact ⟨_, ReadsAll.nil, fun _ => List.not_mem_nil, rfl⟩
  | (k, d) :: ds, _, _, _, h, q, r => by
    cases h with
    | cons h1 h2 =>
      cases r with
      | cons r1 r2 =>
        unfold pd2KV at q
        split at q
        · rename_i y ys e1 e2
          cases q
          obtain ⟨as, q1, n1⟩ := rz_reads I d _ _ _ h1 e1 r1.2
          obtain ⟨bs, q2, n2, n3⟩ := rzk_reads I ds _ _ _ h2 e2 r2
          exact ⟨_, ReadsAll.cons q1 q2, fun hl hm => (List.mem_append.mp hm).elim (n1 (hl.imp (fun z => by simp only [nlKV, Bool.and_eq_true] at z; exact z.1) fun z => z)) (n2 (hl.imp (fun z => by simp only [nlKV, Bool.and_eq_true] at z; exact z.2) fun z => z)), by rw [List.map_cons, List.map_cons, n3, ← r1.1]⟩
        · cases q
end
end
/-- repr(x) of data, dicts among it -/
def rReprX (K : PySem.W.Frag) (mg : Str → Option Value) : List V → Hp → VK → Prop := fun xs H Q => ∃ x d e, xs = [x] ∧ Rz K mg H x d ∧ d.pd2 = some e ∧ (e.hasDict = false ∨ d.nl = true ∨ NoSysL H) ∧ e.showable = true ∧ e.depth ≤ 60 ∧ e.shown.length ≤ sizeLine ∧ Q (.str e.shown) H
theorem call_reprX {X : Cx} {K : PySem.W.Frag} {mg : Str → Option Value} (hK : X.K = K) (hg : X.A.guards = some []) (hu : X.A.units + 64 < cLine) : CallR X (.builtin "repr") (rReprX K mg) := by
  subst hK
  intro pins s σ H xs us Q I r h
  obtain ⟨x, d, e, rfl, hd, he, hn0, h1, h3, h4, q⟩ := h
  cases r with
  | cons rx rr =>
    cases rr
    obtain ⟨as, rd, hn⟩ := rz_reads I d x _ e hd he rx
    have hm2 : e.hasDict = true → sysModules ∉ as := fun z => hn (hn0.resolve_left (by rw [z]; exact fun y => nomatch y))
    cases hd with
    | non =>
      cases rx; cases he
      exact P.repr_of_none ⟨.str _, H, I.tok _, ⟨_, rfl⟩, q⟩
    | bl b =>
      cases rx; cases he
      exact P.repr_of_bool ⟨.str _, H, I.tok _, ⟨_, rfl⟩, q⟩
    | int i =>
      cases he
      obtain ⟨t, rfl⟩ := rx
      exact P.repr_of_int (of_decide_eq_true h1) ⟨.str _, H, I.tok _, ⟨_, rfl⟩, q⟩
    | str y =>
      cases he
      obtain ⟨t, rfl⟩ := rx
      exact P.repr_of_str ⟨.str _, H, I.tok _, ⟨_, rfl⟩, q⟩ h4
    | obj m h t => cases he
    | errP m h => cases he
    | errN m h k t => cases he
    | errC m h => cases he
    | errD m h k t => cases he
    | _ =>
      cases rx
      exact repr_of_reads' rd h1 hm2 hg (by omega) (fun _ _ e => e) (fun h' u tk hk => ⟨.str _, H, I.kept (t' := tk) hk, ⟨_, rfl⟩, q⟩) h4
theorem pb_rz {c : Cd} {F H : Hp} {v : V} {d : Dt} (p : Pb c F H v d) (z : Ex F H) : Rz c.K c.mg H v d := by
  rcases p with r | ⟨a, rfl, o, _⟩
  · exact rz_ex z r
  · exact o.rz z fun _ h => h
def reprX : List Dt → (Dt → Prop) → Prop
  | [d], q => match d.pd2 with
    | some e => ((e.hasDict = false ∨ d.nl = true) ∧ e.showable = true ∧ e.depth ≤ 60 ∧ e.shown.length ≤ 100000) ∧ q (.str e.shown)
    | Option.none => False
  | _, _ => False
section
variable {c : Cd}
theorem co_reprX : COk c (rReprX c.K c.mg) reprX := fun xs ds F H z p q Q hq k => by
  unfold reprX at hq
  split at hq
  · cases p with
    | cons p t =>
      cases t
      split at hq
      · rename_i e he
        exact ⟨_, _, e, rfl, pb_rz p z, he, hq.1.1.imp (fun z => z) .inl, hq.1.2.1, hq.1.2.2.1, Evl.sz_of hq.1.2.2.2, k _ _ F H hq.2 (Grow.refl z) (.str _ hq.1.2.2.2)⟩
      · exact hq.elim
  · exact hq.elim
end
end Dw
set_option Elab.async false
set_option linter.all false
set_option maxRecDepth 100000
set_option maxHeartbeats 4000000
/-! Data-level wp: own errors as values: made, asked for their class and their fields, caught by a def that runs a lambda. -/
namespace Dw
open PySem PySem.Spec PyProof.Rows L2 Cn LamX
section
variable {c : Cd} {te : TE} {we : WE}
/-- X(e), X without an __init__ of its own -/
def wErrP (x : Str) (w : WE) : WE := fun ρ b q qx => w ρ b (fun _ b1 => q (.err x []) b1) qx
theorem sn_errP {x : Str} {C : Addr} (h : c.mg x = some (.ref C)) (he : SndB c te we) : SndE c (fun σ H Q => te σ H fun _ H1 => ∀ a, H1 a = none → Q (.ref a) (upd H1 a (ExO (.ref C) a))) (wErrP x we) := fun F0 H0 ρ b F H σ W q qx Q hw lx l => he F0 H0 ρ b F H σ W _ qx _ hw lx fun v d b1 F1 H1 h1 g1 W1 p1 a ha => by
  have G := Grow.new (o := ExO (.ref C) a) W1.z ha
  exact l _ _ b1 _ _ h1 (g1.trans (FrRel.of G)) (W1.grow G) (.errP h upd_same)
/-- X(e), X keeps e in its field f -/
def wErrJ (x f : Str) (w : WE) : WE := fun ρ b q qx => w ρ b (fun d b1 => q (.err x [(f, d)]) b1) qx
theorem sn_errJ {x f : Str} {C : Addr} (h : c.mg x = some (.ref C)) (he : SndE c te we) : SndE c (tExJ C f te) (wErrJ x f we) := fun F0 H0 ρ b F H σ W q qx Q hw lx l => he F0 H0 ρ b F H σ W _ qx _ hw lx fun v d b1 F1 H1 h1 g1 W1 r1 a dx ha hd ne => by
  have e0 : upd (upd (upd H1 a (exo a C none)) dx (exd dx [(f, v)])) a (exo a C (some dx)) = upd (upd H1 dx (exd dx [(f, v)])) a (exo a C (some dx)) := by
    funext y
    by_cases h1 : y = a
    · rw [h1, upd_same, upd_same]
    · rw [upd_ne h1, upd_ne h1]
      by_cases h2 : y = dx
      · rw [h2, upd_same, upd_same]
      · rw [upd_ne h2, upd_ne h2, upd_ne h1]
  rw [e0]
  have G1 := Grow.new (o := exd dx [(f, v)]) W1.z hd
  have G2 := Grow.new (p := a) (o := exo a C (some dx)) G1.fh (by rw [upd_ne (Ne.symm ne)]; exact ha)
  have G := G1.trans G2
  refine l _ _ b1 _ _ h1 (g1.trans (FrRel.of G)) (W1.grow G) (.errN h upd_same (by rw [upd_ne ne]; exact upd_same) (.cons (rz_ex G.ff r1) .nil))
/-! ### isinstance of errors -/
/-- what is known of the own error classes: which is below which; which have fields -/
structure EKn (K : PySem.W.Frag) (mg : Str → Option Value) (sub : Str → Str → Option Bool) : Prop where
  own : ∀ x t b D, sub x t = some b → mg x = some (.ref D) → ExcC K D ∧ (t = "ValueError" → b = true ∧ PySem.W.kitOne K (.ref D) (.type "ValueError") = some true) ∧ (t ≠ "ValueError" → ∃ T, mg t = some (.ref T) ∧ PySem.W.kitOne K (.ref D) (.ref T) = some b)
def wIsE (sub : Str → Str → Option Bool) (t : Str) (w : WE) : WE := fun ρ b q qx => w ρ b (fun d b1 => match d with
  | .err x _ => (match sub x t with
    | some k => q (.bool k) b1
    | Option.none => False)
  | _ => False) qx
theorem err_at {K : PySem.W.Frag} {mg : Str → Option Value} {H : Hp} {v : V} {x : Str} {fs : List (Str × Dt)} (r : Rz K mg H v (.err x fs)) : ∃ a D, v = .ref a ∧ mg x = some (.ref D) ∧ ErrAt H a D := by
  cases r with
  | errP m h => exact ⟨_, _, rfl, m, .plain h⟩
  | errN m h k t => exact ⟨_, _, rfl, m, .own _ _ h k⟩
  | errC m h => exact ⟨_, _, rfl, m, .caught _ h (.inl rfl)⟩
  | errD m h k t => exact ⟨_, _, rfl, m, .caught _ h (.inr ⟨_, _, rfl, k⟩)⟩
theorem sn_isE {sub : Str → Str → Option Bool} {t : Str} {T : Addr} (E : EKn c.K c.mg sub) (ht : t ≠ "ValueError") (hT : c.mg t = some (.ref T)) (h : SndE c te we) : SndE c (tCB (rIsErr c.K) (tCons te (tCons (tC (.ref T)) tNil))) (wIsE sub t we) := fun F0 H0 ρ b F H σ W q qx Q hw lx l => h F0 H0 ρ b F H σ W _ qx _ hw lx fun v d b1 F1 H1 h1 g1 W1 r1 => by
  split at h1
  · split at h1
    · rename_i k hk
      obtain ⟨a, D, rfl, hD, ha⟩ := err_at (rz_ex W1.z r1)
      obtain ⟨hc, _, e2⟩ := E.own _ _ _ _ hk hD
      obtain ⟨T2, hT2, e3⟩ := e2 ht
      rw [hT] at hT2
      cases hT2
      exact ⟨a, D, .ref T, .ref T, k, rfl, ha, hc, fun u hu => hu, e3, l _ _ b1 F1 H1 h1 g1 W1 (.bl k)⟩
    · exact h1.elim
  · exact h1.elim
theorem sn_isV {sub : Str → Str → Option Bool} (E : EKn c.K c.mg sub) (h : SndE c te we) : SndE c (tCB (rIsErr c.K) (tCons te (tCons (tC (.ty "ValueError")) tNil))) (wIsE sub "ValueError" we) := fun F0 H0 ρ b F H σ W q qx Q hw lx l => h F0 H0 ρ b F H σ W _ qx _ hw lx fun v d b1 F1 H1 h1 g1 W1 r1 => by
  split at h1
  · split at h1
    · rename_i k hk
      obtain ⟨a, D, rfl, hD, ha⟩ := err_at (rz_ex W1.z r1)
      obtain ⟨hc, e2, _⟩ := E.own _ _ _ _ hk hD
      obtain ⟨rfl, e3⟩ := e2 rfl
      exact ⟨a, D, .ty "ValueError", .type "ValueError", true, rfl, ha, hc, fun u hu => hu, e3, l _ _ b1 F1 H1 h1 g1 W1 (.bl _)⟩
    · exact h1.elim
  · exact h1.elim
/-! ### their fields -/
def tXa (K : PySem.W.Frag) (f : Str) (te : TE) : TE := fun σ H Q => te σ H fun x H1 => ∃ (a D dd : Addr) (fs : List (Str × V)) (v : V), x = .ref a ∧ ((H1 a = some (exo a D (some dd)) ∧ H1 dd = some (exd dd fs)) ∨ (H1 a = some (ErO (.ref D) (some dd) a) ∧ H1 dd = some (.xd fs))) ∧ XfC K D ∧
  PySem.W.findIn K (.ref D) f = some none ∧ fs.lookup f = some v ∧ Q v H1
theorem pe_xa {X : Cx} {K : PySem.W.Frag} {e : Expr} {te : TE} {pos : Pos} {f : Str} (hK : X.K = K) (he : PE X e te) (hb : attributeBase e f X.env (eval e X.env) = eval e X.env := by rfl) : PE X (.Attribute e f pos) (tXa K f te) := by
  subst hK
  refine ⟨fun pins s σ H Q I h => attr_of hb (thn (he.run pins s σ H _ I h) fun u s1 hh => ?_)⟩
  obtain ⟨x, H1, I1, rx, a, D, dd, fs, v, ex, he, T, hno, l, q⟩ := hh
  subst ex
  cases rx
  rcases he with ⟨ea, ed⟩ | ⟨ea, ed⟩
  · obtain ⟨t1, e1⟩ := exo_at I1.hok ea
    obtain ⟨mA, hns, hr⟩ := exd_at I1.hok ed
    obtain ⟨o, ho, hl⟩ := lookIn_ns hns
    obtain ⟨u, hu, ru⟩ := RelO.some_of (v := v) (o := mA f) (by rw [← l]; exact hr f)
    exact HandSPX.exc_get I1.kIn (⟨e1, rfl, rfl, ho⟩ : PySem.W.InstAt s1.heap a _ D (some o)) T.ga T.gg T.exC (PySem.W.findObj_own T.hdC hno rfl (by rw [hl, hu])) (handed_of ru) ⟨v, H1, I1.tok _, ru, q⟩
  · obtain ⟨ob, od, J, k⟩ := inst_of I1.hok ea (.inr ⟨dd, fs, rfl, ed⟩)
    obtain ⟨o, mA, ho, hns, hg, hr⟩ := k dd fs rfl ed
    subst ho
    obtain ⟨o2, ho2, hl⟩ := lookIn_ns hns
    rw [hg] at ho2
    cases ho2
    obtain ⟨u, hu, ru⟩ := RelO.some_of (v := v) (o := mA f) (by rw [← l]; exact hr f)
    exact HandSPX.exc_get I1.kIn J T.ga T.gg T.exC (PySem.W.findObj_own T.hdC hno rfl (by rw [hl, hu])) (handed_of ru) ⟨v, H1, I1.tok _, ru, q⟩
/-- the field that a class keeps -/
structure EFn (K : PySem.W.Frag) (mg : Str → Option Value) (fld : Str → Option Str) : Prop where
  own : ∀ x f D, fld x = some f → mg x = some (.ref D) → XfC K D ∧ PySem.W.findIn K (.ref D) f = some none
def wFld (fld : Str → Option Str) (f : Str) (w : WE) : WE := fun ρ b q qx => w ρ b (fun d b1 => match d with
  | .err x [(g, v)] => (fld x = some f ∧ g = f) ∧ q v b1
  | _ => False) qx
theorem sn_fld {fld : Str → Option Str} {f : Str} (E : EFn c.K c.mg fld) (h : SndE c te we) : SndE c (tXa c.K f te) (wFld fld f we) := fun F0 H0 ρ b F H σ W q qx Q hw lx l => h F0 H0 ρ b F H σ W _ qx _ hw lx fun v d b1 F1 H1 h1 g1 W1 r1 => by
  split at h1
  · obtain ⟨⟨e1, rfl⟩, h1⟩ := h1
    cases r1 with
    | errN m ha hd t =>
      cases t with
      | cons r t =>
        cases t
        obtain ⟨x1, x2⟩ := E.own _ _ _ e1 m
        exact ⟨_, _, _, _, _, rfl, .inl ⟨W1.z _ _ ha, W1.z _ _ hd⟩, x1, x2, by rw [List.lookup_cons, beq_self_eq_true], l _ _ b1 F1 H1 h1 g1 W1 r⟩
    | errD m ha hd t =>
      cases t with
      | cons r t =>
        cases t
        obtain ⟨x1, x2⟩ := E.own _ _ _ e1 m
        exact ⟨_, _, _, _, _, rfl, .inr ⟨W1.z _ _ ha, W1.z _ _ hd⟩, x1, x2, by rw [List.lookup_cons, beq_self_eq_true], l _ _ b1 F1 H1 h1 g1 W1 r⟩
  · exact h1.elim
end
end Dw
set_option Elab.async false
set_option linter.all false
set_option maxRecDepth 100000
set_option maxHeartbeats 4000000
/-! Data-level wp: a def that runs a lambda and hands back the error of it. -/
namespace Dw
open PySem PySem.Spec PySem.Calls PyProof.Rows L2 Cn LamX
section
variable {X : Cx} {pins : List (Addr × Obj)} {σ : L2.St} {H : Hp} {s : Shared}
/-- x() where nothing is being shown -/
theorem pe_actG {CXg : CXT} {Eg : XK} {Ng : List Str} {qg : Str} {sg : Scope} {g f c' : Addr} {cdg pm ctv : Value} {params : Arguments} {body : Expr} {scope : Scope} {k i : Nat} {a : Str} {pn : List (Addr × Obj)} {xe : Value → Shared → Prop} {W : WX} {E : XK} {tb : TE} {p1 p2 : Pos}
    {A' : Around} {stack' : List Env} {s' : Shared} {H' : Hp}
    (I : Inv X pins σ H s) (L : LamS X.env.scope scope) (ob : s.heap.get? f = some (PySem.W.kla_obj "<lambda>" (X.env.qual ++ "<lambda>") params body scope (cloFrom X.env.cells scope.names []) pm c' ctv)) (fn : H f = none) (ff : f ∉ frs X.stack)
    (bind : bindArgs (PySem.W.kla_fn "<lambda>" (X.env.qual ++ "<lambda>") params body scope (cloFrom X.env.cells scope.names []) pm (.ref c') ctv) ⟨[], []⟩ = pure [])
    (far : ∀ (pz : List (Addr × Obj)) (σz : L2.St) (Hz : Hp) (sz : Shared), Inv ((cxOf CXg X.prog X.w X.K X.mg X.base Ng qg sg g cdg A' stack' s' H' Eg).tr pn xe) pz σz Hz sz → Un (frs X.stack) [] H Hz s.heap sz.heap)
    (tk : Takes ((cxOf CXg X.prog X.w X.K X.mg X.base Ng qg sg g cdg A' stack' s' H' Eg).tr pn xe) W) (hW : ∀ cls d σ' H', E cls d H' → W cls d σ' H') (gd : A'.guards = some []) (room : Room (k + 1) (A'.deeper (envOfC qg sg s'.heap.objs.size g cdg)))
    (hbody : ∀ (A : Around) (outer : List Env) (s : Shared) (H : Hp), A.guards = some [] → Room k (A.deeper (lamEnv X scope s.heap.objs.size f c')) → PE (lamCx X A outer s H E scope f c') body tb)
    (hN : Ng[i]? = some a) (hv : Vis sg a) (hd : (a == ("__debug__" : Str)) = false := by decide) (hcd : (a == ("__classdict__" : Str)) = false := by decide) :
    PE ((cxOf CXg X.prog X.w X.K X.mg X.base Ng qg sg g cdg A' stack' s' H' Eg).tr pn xe) (.Call (.Name a p1) [] [] p2)
      (fun σz Hz Q => σz[i]? = some (some (.ref f)) ∧ Hz c' = some (CodeO c' (X.env.qual ++ "<lambda>")) ∧ tb σ Hz Q) := by
  refine ⟨fun pz sz σz Hz Q Iz hz => ?_⟩
  obtain ⟨h1, h2, h3⟩ := hz
  refine wpAny_Call_Name_kw (thn ((pe_var (pos := p1) (i := i) hN hv hd hcd).run pz sz σz Hz (fun v G => v = .ref f ∧ G = Hz) Iz ⟨.ref f, h1, rfl, rfl⟩) fun u t1 ⟨v, G, J, rv, ev, eG⟩ => ?_)
  subst ev
  rw [eG] at J
  obtain rfl : u = Value.ref f := rv
  have U := far _ _ _ _ J
  have ob1 := U.keep f _ ob fn ff (fun z => nomatch (show f ∈ ([] : List Addr) from z))
  refine PySem.W.callWith_F0 ⟨_, _, _, _, ob1⟩ ?_
  obtain ⟨⟨oc, vs, t, w1, w2, w3⟩, _, _⟩ := J.hok c' _ h2
  have run : codeAny (model X.prog X.w) (A'.deeper (envOfC qg sg s'.heap.objs.size g cdg)) (.call (.ref f) ⟨[], []⟩) (CR (L2.CX X.prog X.w) (envOfC qg sg s'.heap.objs.size g cdg :: stack') X.prog X.w Hz t1 Q E) t1 := by
    refine PySem.W.kla_callFunE room.depth ob1 rfl L.co L.gen rfl ⟨c', oc, vs, t, rfl, w1, w2, w3⟩ ?_
    rw [bind]
    refine wpAny_pure (wpAny_newFunctionEnv (fun y hy => (L.own y hy).2) (fun y hy => nomatch (show y ∈ ([] : List (Str × Value)) from hy)) (fun h₁ hns hsb => ⟨J.nolimit.fresh _ hsb, ?_⟩) L.kind)
    show codeAny _ _ (.expr body (lamEnv X scope t1.heap.objs.size f c')) _ _
    have more : ∀ b o, t1.heap.get? b = some o → h₁.get? b = some o := fun b o q => hsb.extBut b o (Nat.ne_of_lt (Heap.lt_size q)) (Heap.get?_push_of_some _ q)
    have M : Inv (lamCx X (A'.deeper (envOfC qg sg s'.heap.objs.size g cdg)) (envOfC qg sg s'.heap.objs.size g cdg :: stack') t1 Hz E scope f c') [] σ Hz { t1 with heap := h₁, toks := t1.toks + ([] : List (Str × Value)).length } :=
      lam_start2 I L J.env0 room.hd U hns more
    refine PySem.W.kla_codeExpr (wpAny_mono ((hbody (A'.deeper (envOfC qg sg s'.heap.objs.size g cdg)) _ t1 Hz gd (room.deeper _)).run [] _ _ Hz Q M h3) (fun v r hq => ?_) fun e r hq => hq)
    obtain ⟨y, G, M', ry, q⟩ := hq
    exact ⟨y, G, M'.os, M'.bare, M'.base, M'.hok, ry, q⟩
  have out : Passes (L2.CX X.prog X.w) ((cxOf CXg X.prog X.w X.K X.mg X.base Ng qg sg g cdg A' stack' s' H' Eg).tr pn xe) E := passes_call tk hW
  refine wpAny_call (codeAny_mono run fun r t2 hq => ?_)
  cases r with
  | error e => exact out pz σz Hz t1 e t2 J hq
  | ok fl =>
    cases fl with
    | ret u => exact J.after hq
    | next => exact hq.elim
    | brk => exact hq.elim
    | cont => exact hq.elim
end
section
variable {X : Cx}
/-- x(lambda: body), where nothing is being shown -/
theorem pe_lamG {T : List (Addr × Str)} {TT : (XK → Hp → VK → Prop) → Hp → VK → Prop} {x a : Str} {g c P : Addr} {k : Nat} {pg : Arguments} {bg : List Stmt} {sg : Scope} {dV kV doc pm cdv ct oc : Value} {an od : Option Addr} {osl : Array (Option Value)} {Ng : List Str}
    {params : Arguments} {body : Expr} {scope : Scope} {t : XK → TE} {p lpos pos : Pos} (hg : Gl X x) (hm : X.mg x = some (.ref g)) (hk : PySem.W.keepIn X.K (.ref g) = true)
    (lk : X.K.lookup g = some ⟨oc, od, .func (PySem.W.fnOf x x pg bg sg dV kV doc pm an cdv ct), osl⟩) (hcg : PySem.W.codeIn X.K cdv x = true) (hb : L2.Binds X.K (PySem.W.fnOf x x pg bg sg dV kV doc pm an cdv ct) [a] []) (Sg : FnScope Ng [a] sg) (hNg : Ng[0]? = some a) (hva : Vis sg a)
    (hG : GivesTo X Ng x sg g cdv bg a (X.env.qual ++ "<lambda>") TT)
    (TB : TabB X.base X.mg c P) (hcode : X.env.code = .ref c) (hmT : (P, X.env.qual ++ "<lambda>") ∈ T) (hu : ∀ p ∈ T, p.1 = P → p.2 = X.env.qual ++ "<lambda>") (gd : X.A.guards = some []) (hr : Room (k + 2) X.A) (L : LamS X.env.scope scope) (hdef : defaultsOf params X.env = ([], []))
    (hbind : ∀ (q : Str) (cl : List (Str × Addr)) (pm cv ctv : Value), bindArgs (PySem.W.kla_fn "<lambda>" q params body scope cl pm cv ctv) ⟨[], []⟩ = pure [])
    (hbody : ∀ (A : Around) (outer : List Env) (s : Shared) (H : Hp) (E : XK) (f c' : Addr), A.guards = some [] → Room k (A.deeper (lamEnv X scope s.heap.objs.size f c')) → PE (lamCx X A outer s H E scope f c') body (t E))
    (hdb : (x == ("__debug__" : Str)) = false := by decide) (hd : (a == ("__debug__" : Str)) = false := by decide) (hcd : (a == ("__classdict__" : Str)) = false := by decide) :
    PE X (.Call (.Name x p) [.Lambda params body scope lpos] [] pos) (tLam T TT t) := by
  refine ⟨fun pins s σ H Q I h => ?_⟩
  obtain ⟨hT, h⟩ := h
  refine wpAny_Call_Name_kw (ld_glob I hg hm ?_ hdb)
  refine PySem.W.callWith_K (h₀ := X.base) I.ok.mod.kin hk ?_ (by rfl) (by rfl)
  show wpAny _ _ (spliced ((false, eval (.Lambda params body scope lpos) X.env) :: backTo pos (starEach [] X.env))) _ _ s
  refine Calls.spliced_cons (lam_make2 I TB hcode hmT hu hT hdef (L.has I.ok) fun f c' pm'' ctv H1 s1 I1 eN T1 hf hfn hfr hco => ?_)
  refine Calls.spliced_nil ⟨I1.kIn, ?_⟩
  have rc : codeAny (model X.prog X.w) X.A (.call (.ref g) ⟨[.ref f], []⟩) (CR C8.CX0 X.stack X.prog X.w H1 s1 Q C8.E0) s1 := by
    refine run_ofS (N := Ng) (ps := [a]) (us := [.ref f]) (vs := [.ref f]) lk hcg Sg hr I1.env0 (hb s1 [.ref f] I1.kIn rfl) (.cons rfl .nil) rfl fun hr' => ?_
    have act : ∀ (W : WX) (pn : List (Addr × Obj)) (xe : Value → Shared → Prop) (E : XK) (p1 p2 : Pos), Takes ((cxOf C8.CX0 X.prog X.w X.K X.mg X.base Ng x sg g cdv X.A X.stack s1 H1 C8.E0).tr pn xe) W → (∀ cls d σ' H', E cls d H' → W cls d σ' H') →
        PE ((cxOf C8.CX0 X.prog X.w X.K X.mg X.base Ng x sg g cdv X.A X.stack s1 H1 C8.E0).tr pn xe) (.Call (.Name a p1) [] [] p2) (fun σZ HZ Q => σZ[0]? = some (some (.ref f)) ∧ HZ c' = some (CodeO c' (X.env.qual ++ "<lambda>")) ∧ t E σ HZ Q) := fun W pn xe E p1 p2 tk hW =>
      pe_actG (i := 0) I1 L hf hfn hfr (hbind _ _ _ _ _) (fun pz σz Hz' sz Jz => Jz.base) tk hW gd hr' (fun A outer s H g2 hr3 => hbody A outer s H E f c' g2 hr3) hNg hva hd hcd
    obtain ⟨t', ht', hq'⟩ := hG f c' s1 H1 Q (fun E H' Q' => t E σ H' Q') act hco (h H1 eN T1)
    exact ⟨t', ht'.nox, hq'⟩
  refine wpAny_call (codeAny_mono rc fun r s2 hq => ?_)
  cases r with
  | error e => exact (show False from hq).elim
  | ok fl =>
    cases fl with
    | ret u => exact I1.after hq
    | next => exact hq.elim
    | brk => exact hq.elim
    | cont => exact hq.elim
end
/-- a def of the top as it stands, its code object told -/
def FgC (K : PySem.W.Frag) (mg : Str → Option Value) (x : Str) (st : Stmt) (c : Addr) : Prop := ∃ (f : Addr) (oc : Value) (od : Option Addr) (kV doc pm : Value) (an : Option Addr) (ct : Value) (osl : Array (Option Value)), mg x = some (.ref f) ∧ PySem.W.keepIn K (.ref f) = true ∧
  K.lookup f = some ⟨oc, od, .func (PySem.W.fnOf x x (defArgs st) (defBody st) (defScope st) .none kV doc pm an (.ref c) ct), osl⟩ ∧ PySem.W.codeIn K (.ref c) x = true
theorem FgC.fun {K : PySem.W.Frag} {mg : Str → Option Value} {x : Str} {st : Stmt} {c : Addr} (h : FgC K mg x st c) : Fg K mg x st := by
  obtain ⟨f, oc, od, kV, doc, pm, an, ct, osl, h1, h2, h3, h4⟩ := h
  exact ⟨f, _, h1, ⟨oc, od, kV, doc, pm, an, .ref c, ct, osl, rfl, h3, h4⟩, h2⟩
theorem kpG_ofC {P : Program} {w : World} {K : PySem.W.Frag} {mg : Str → Option Value} {base : Heap} {CX : CXT} {k : Nat} {x : Str} {ps N : List Str} {st : Stmt} {sp : Sp} {c : Addr} (Fx : FgC K mg x st c) (S : FnScope N ps (defScope st))
    (hb : ∀ {f : Addr} {fd : FuncData} (_ : Fun K x x st f fd), Binds K fd ps []) (len : ∀ vs H Q E, sp vs H Q E → vs.length = ps.length)
    (body : ∀ (f : Addr) (A : Around) (outer : List Env) (s : Shared) (H : Hp) (vs : List V) (Q : VK) (E : XK), (A.deeper (envOfC x (defScope st) s.heap.objs.size f (.ref c))).guards = some [] → Room k (A.deeper (envOfC x (defScope st) s.heap.objs.size f (.ref c))) → sp vs H Q E →
      ∃ t, PSs (cxOf CX P w K mg base N x (defScope st) f (.ref c) A outer s H E) (defBody st) t ∧ t { nx := fun _ H' => Q .non H', rt := Q } (L2.start N vs) H) : KpG P w K mg base CX (k + 1) x ps sp := by
  obtain ⟨f, oc, od, kV, doc, pm, an, ct, osl, hm, kp, lk, hcd⟩ := Fx
  exact ⟨f, _, hm, kp, hb ⟨⟨oc, od, kV, doc, pm, an, .ref c, ct, osl, rfl, lk, hcd⟩, kp⟩, len, fun A outer s H args us vs Q E g hr e0 bd r h => run_ofS (CX := CX) lk hcd S hr e0 bd r (len _ _ _ _ h) fun hr' => body f A outer s H vs Q E g hr' h, _, _, _, lk⟩
section
variable {P : Program} {w : World} {K : PySem.W.Frag} {mg : Str → Option Value} {base : Heap} {T : List (Addr × Str)}
theorem kws_ofC {k : Nat} {x s0 : Str} {ps N : List Str} {st : Stmt} {ws : WS} {c : Addr} (Fx : FgC K mg x st c) (S : FnScope N (s0 :: ps) (defScope st)) (hb : ∀ {f : Addr} {fd : FuncData} (_ : Fun K x x st f fd), Binds K fd (s0 :: ps) [])
    (body : ∀ (f : Addr) (A : Around) (outer : List Env) (s : Shared) (H : Hp) (E : XK), (A.deeper (envOfC x (defScope st) s.heap.objs.size f (.ref c))).guards = some [] → Room k (A.deeper (envOfC x (defScope st) s.heap.objs.size f (.ref c))) →
      ∃ t, PSs (cxOf (L2.CX P w) P w K mg base N x (defScope st) f (.ref c) A outer s H E) (defBody st) t ∧ ∀ fr, FrT T fr → SndS ⟨K, mg, fr, E⟩ t ws) : Kws P w K mg base T (k + 1) x s0 ps (bodyWS ws N.length) := by
  refine kpG_ofC Fx S hb (fun vs H Q E h => by rw [spWS_len vs H Q E h]; rfl) fun f A outer s H vs Q E hg hr ⟨sa, lg, cl, b, vs', ds, F, q, qx, hT, e, ok, r, hn, hw, lq, lx⟩ => ?_
  subst e
  obtain ⟨t, h1, h2⟩ := body f A outer s H E hg hr
  refine ⟨t, h1, h2 (some (sa, lg, cl)) ⟨sa, lg, cl, rfl, hT⟩ F H _ b F H _ (wd_startS (c := ⟨K, mg, some (sa, lg, cl), E⟩) rfl ok r) _ _ hw ⟨fun ρ b F2 H2 σ h e W => ?_, fun v d b F2 H2 h e ok g r => ?_, fun _ _ _ _ _ h => h.elim, fun _ _ _ _ _ h => h.elim, fun x b F2 H2 cls dd h e ok g xr => lx x b F2 H2 cls dd h g ok xr⟩⟩
  · exact lq .non .none b F2 H2 h W.rel W.ok .non
  · exact lq v d b F2 H2 h g ok r
end
end Dw
set_option Elab.async false
set_option linter.all false
set_option maxRecDepth 100000
set_option maxHeartbeats 4000000
namespace Dw
open PySem PySem.Spec PyProof.Rows L2 Cn LamX
/-- the slots without objects of one's own -/
def noOw : Rho → Rho
  | [] => []
  | some (.ow _) :: r => none :: noOw r
  | s :: r => s :: noOw r
theorem noOw_len : ∀ ρ : Rho, (noOw ρ).length = ρ.length
  | [] => rfl
  | some (.ow _) :: r => by simp [noOw, noOw_len r]
  | some (.sh _) :: r => by simp [noOw, noOw_len r]
  | some .st :: r => by simp [noOw, noOw_len r]
  | some (.sc _) :: r => by simp [noOw, noOw_len r]
  | none :: r => by simp [noOw, noOw_len r]
theorem noOw_at : ∀ {ρ : Rho} {i : Nat} {s : Sv}, at_ (noOw ρ) i = some s → at_ ρ i = some s ∧ ∀ d, s ≠ .ow d
  | some (.ow _) :: r, 0, s, h => by cases h
  | some (.sh _) :: r, 0, s, h => by cases h; exact ⟨rfl, fun d e => nomatch e⟩
  | some .st :: r, 0, s, h => by cases h; exact ⟨rfl, fun d e => nomatch e⟩
  | some (.sc _) :: r, 0, s, h => by cases h; exact ⟨rfl, fun d e => nomatch e⟩
  | none :: r, 0, s, h => by cases h
  | [], i, s, h => by cases i <;> cases h
  | some (.ow _) :: r, i + 1, s, h => noOw_at (ρ := r) (i := i) h
  | some (.sh _) :: r, i + 1, s, h => noOw_at (ρ := r) (i := i) h
  | some .st :: r, i + 1, s, h => noOw_at (ρ := r) (i := i) h
  | some (.sc _) :: r, i + 1, s, h => noOw_at (ρ := r) (i := i) h
  | none :: r, i + 1, s, h => noOw_at (ρ := r) (i := i) h
theorem st_extN {st lg cl : Addr} {b : Nat} {H H' : Hp} (h : StOk st lg cl b H) (e : ExtN H H') : StOk st lg cl b H' := by
  obtain ⟨la, ce, r, t, x, q⟩ := h
  exact ⟨la, ce, r, t, ⟨e _ _ x.hs (fun _ z => nomatch z), e _ _ x.hl (fun _ z => nomatch z), e _ _ x.hc (fun _ z => nomatch z), x.nn, x.l1, x.l2, x.r0, x.t0, x.ne⟩, q⟩
/-- a lambda was made -/
theorem off_made {st cl : Addr} {lg : Lg} {b : Nat} {F H H1 : Hp} (h : Off st lg cl b F H) (e : ExtN H H1) (t : Tabs lg.2 H1) : GM st lg F H F H1 ∧ Off st lg cl b F H1 := by
  have g : GM st lg F H F H1 := by
    refine ⟨Evl.Ex.refl _, fun c o q => e _ _ (h.z _ _ q) fun ps z => h.nt c ps (by rw [q, z]), fun c o _ _ t q => e _ _ q fun ps z => t ⟨ps, z⟩, fun _ _ _ _ q => q, fun b o t q => ⟨o, t, e _ _ q fun ps z => t ⟨ps, z⟩⟩, fun p hp _ => ?_, fun q => q⟩
    obtain ⟨ps, h1, _⟩ := t p hp
    exact ⟨⟨ps, h1⟩, fun q => q⟩
  exact ⟨g, h.gm g (st_extN h.ok e) t⟩
theorem owAt_not_xd {c : Cd} {F H : Hp} {a : Addr} {d : Dt} {fs : List (Str × V)} (h : OwAt c F H a d) (e : H a = some (HO.xd fs)) : False := by
  cases d with
  | list ds => obtain ⟨_, vs, h, _⟩ := h; rw [e] at h; cases h
  | dict ds => obtain ⟨_, vs, h, _⟩ := h; rw [e] at h; cases h
  | obj n ds => obtain ⟨C, dx, fs, _, h, _⟩ := h; rw [e] at h; cases h
  | _ => exact h.elim
/-- the error of e, or None; es: the classes that are caught -/
def wErr (es : List Str) (w : WE) : WE := fun ρ b q qx => w (noOw ρ) b (fun _ b1 => q .none b1) fun x b1 => es.contains x.c = true ∧ q (.err x.c x.fs) b1
theorem sn_err {c : Cd} {T : List (Addr × Str)} {es : List Str} {CE : Value} {t : XK → TE} {we : WE} (hT : FrT T c.fr) (hE : ∀ x C, es.contains x = true → c.mg x = some (.ref C) → PySem.W.exmOne c.K (.ref C) CE = some true) (he : ∀ E, SndE ⟨c.K, c.mg, c.fr, E⟩ (t E) we) : SndE c (tLam T (TErr c.K CE) t) (wErr es we) := fun F0 H0 ρ b F H σ W q qx Q hw lx l => by
  obtain ⟨st, lg, cl, hc, rfl⟩ := hT
  have ok : Off st lg cl b F H := by
    have := W.ok
    rw [hc] at this
    exact this
  refine ⟨ok.tb, fun H1 e t1 => ?_⟩
  obtain ⟨g, ok1⟩ := off_made ok e t1
  have g1 : FrRel c.fr F H F H1 := by rw [hc]; exact g
  have k1 : FrOk c.fr b F H1 := by rw [hc]; exact ok1
  have W1 := W.step g1 k1
  have Wi : Wd ⟨c.K, c.mg, c.fr, fun cls d H' => PySem.W.exmOne c.K cls CE = some true ∧ ∀ a, H' a = none → Q (.ref a) (upd H' a (ErO cls d a))⟩ F H1 (noOw ρ) b F H1 σ := by
    refine ⟨k1, FrRel.refl k1.z, by rw [noOw_len]; exact W.len, fun i s hs => ?_, fun i j d e _ h => ((noOw_at h).2 d rfl).elim⟩
    obtain ⟨h1, h2⟩ := noOw_at hs
    have q1 := W1.sl i s h1
    cases s with
    | sh d => exact q1
    | ow d => exact (h2 d rfl).elim
    | st => exact q1
    | sc n => exact q1
  refine he _ F H1 (noOw ρ) b F H1 σ Wi (fun _ b1 => q .none b1) (fun x b1 => es.contains x.c = true ∧ q (.err x.c x.fs) b1) _ hw (fun x b2 F2 H2 cls dd h e2 ok2 g2 xr => ?_) fun v d b2 F2 H2 h g2 W2 r => ?_
  · obtain ⟨hx, hq⟩ := h
    have W2 := W1.step g2 ok2
    obtain ⟨C, m, rfl, xr⟩ := xr
    refine ⟨hE _ _ hx m, fun a ha => ?_⟩
    rcases xr with ⟨e3, rfl⟩ | ⟨d, vs, rfl, hd, rf, ow⟩
    · have G := Grow.new (o := ErO (.ref C) none a) W2.z ha
      refine l _ _ b2 _ _ hq ((g1.trans g2).trans (FrRel.of G)) (W2.grow G) ?_
      rw [e3]
      exact .errC m upd_same
    · have n0 : N0 c.fr H1 d := ow.n0
      have far : Far c H0 ρ F2 σ d := ⟨⟨ow.nf, W.rel.back (g1.back n0), ow.ap⟩, fun j e hj hz => by
        obtain ⟨a2, e2, o2, _⟩ := W2.sl j _ hj
        rw [hz] at e2
        cases e2
        exact owAt_not_xd o2 hd⟩
      have t0 : ¬ IsTbl (HO.xd vs) := fun ⟨_, z⟩ => nomatch z
      have W3 := W2.frzX far t0 hd
      have g3 := (g1.trans g2).frz ow.ap ow.nf (g1.back n0) t0 hd
      have ne : a ≠ d := fun z => by rw [z, hd] at ha; cases ha
      have G := Grow.new (o := ErO (.ref C) (some d) a) W3.z ha
      exact l _ _ b2 _ _ hq (g3.trans (FrRel.of G)) (W3.grow G) (.errD m upd_same (by rw [upd_ne ne.symm]; exact upd_same) (rzf_ex ((Evl.Ex.new ow.nf).trans G.ff) rf))
  · exact ⟨.non, rfl, l _ _ b2 F2 H2 h (g1.trans g2) (W1.step g2 W2.ok) .non⟩
end Dw
set_option Elab.async false
set_option linter.all false
set_option maxRecDepth 100000
set_option maxHeartbeats 4000000
namespace Dw
open PySem PySem.Spec PyProof.Rows L2 Cn LamX
/-- x(lambda: e), x a def that hands back the error of what it is given -/
theorem pe_errL {X : Cx} {T : List (Addr × Str)} {x a cg eg : Str} {st : Stmt} {CE : Value} {c P : Addr} {k : Nat} {params : Arguments} {body : Expr} {scope : Scope} {t : XK → TE} {p lpos pos : Pos} (Fx : Fg X.K X.mg x st) (hg : Gl X x)
    (hb : ∀ {f : Addr} {fd : FuncData} (_ : Fun X.K x x st f fd), L2.Binds X.K fd [a] []) (Sg : FnScope [a, cg, eg] [a] (defScope st)) (hva : Vis (defScope st) a)
    (hG : ∀ (g : Addr) (cdv : Value), GivesTo X [a, cg, eg] x (defScope st) g cdv (defBody st) a (X.env.qual ++ "<lambda>") (TErr X.K CE))
    (TB : TabB X.base X.mg c P) (hcode : X.env.code = .ref c) (hmT : (P, X.env.qual ++ "<lambda>") ∈ T) (hu : ∀ p ∈ T, p.1 = P → p.2 = X.env.qual ++ "<lambda>") (gd : X.A.guards = some []) (hr : Room (k + 2) X.A) {sc0 : Scope} (hsc : X.env.scope = sc0) (L : LamS sc0 scope) (hdef : defaultsOf params X.env = ([], []))
    (hbind : ∀ (q : Str) (cl : List (Str × Addr)) (pm cv ctv : Value), bindArgs (PySem.W.kla_fn "<lambda>" q params body scope cl pm cv ctv) ⟨[], []⟩ = pure [])
    (hbody : ∀ (A : Around) (outer : List Env) (s : Shared) (H : Hp) (E : XK) (f c' : Addr), A.guards = some [] → Room k (A.deeper (lamEnv X scope s.heap.objs.size f c')) → PE (lamCx X A outer s H E scope f c') body (t E))
    (hdb : (x == ("__debug__" : Str)) = false := by decide) (hd : (a == ("__debug__" : Str)) = false := by decide) (hcd : (a == ("__classdict__" : Str)) = false := by decide) :
    PE X (.Call (.Name x p) [.Lambda params body scope lpos] [] pos) (tLam T (TErr X.K CE) t) := by
  obtain ⟨f, fd, hm, F⟩ := Fx
  have B := hb F
  obtain ⟨oc, od, kV, doc, pm, an, cdv, ct, osl, rfl, lk, hcd'⟩ := F.ex
  exact pe_lamG hg hm F.kp lk hcd' B Sg rfl hva (hG _ _) TB hcode hmT hu gd hr (by rw [hsc]; exact L) hdef hbind hbody hdb hd hcd
end Dw
namespace Dw
open PySem PySem.Spec PyProof.Rows L2 Cn LamX
/-- what a clause catches -/
def ExmOk (K : PySem.W.Frag) (mg : Str → Option Value) (E : Str) (es : List Str) (CE : Value) : Prop := mg E = some CE ∧ ∀ x C, es.contains x = true → mg x = some (.ref C) → PySem.W.exmOne K (.ref C) CE = some true
end Dw
set_option Elab.async false
set_option linter.all false
set_option maxRecDepth 100000
set_option maxHeartbeats 4000000
/-! Data-level wp: dict displays. -/
namespace Dw
open PySem PySem.Spec PyProof.Rows L2 Cn LamX
abbrev QP := List (Dt × Dt) → Nat → Prop
abbrev WP := Rho → Nat → QP → QX → Prop
def wpNil : WP := fun _ b q _ => q [] b
def wpCons (k v : WE) (r : WP) : WP := fun ρ b q qx => k ρ b (fun x b1 => v ρ b1 (fun y b2 => r ρ b2 (fun ps b3 => q ((x, y) :: ps) b3) qx) qx) qx
def RzPs (K : PySem.W.Frag) (mg : Str → Option Value) (F : Hp) (vs : List (V × V)) (ds : List (Dt × Dt)) : Prop := Paired (fun p q => Rz K mg F p.1 q.1 ∧ Rz K mg F p.2 q.2) vs ds
theorem rzps_ex {K : PySem.W.Frag} {mg : Str → Option Value} {F G : Hp} (e : Ex F G) : ∀ {vs : List (V × V)} {ds : List (Dt × Dt)}, RzPs K mg F vs ds → RzPs K mg G vs ds
  | _, _, .nil => .nil
  | _, _, .cons h t => .cons ⟨rz_ex e h.1, rz_ex e h.2⟩ (rzps_ex e t)
section
variable {c : Cd}
def SndP (c : Cd) (trs : List (TE × TE)) (w : WP) (n : Nat) : Prop := ∀ F0 H0 ρ b F H σ, Wd c F0 H0 ρ b F H σ → ∀ q qx Q, w ρ b q qx → LkX c F0 H0 F qx →
  (∀ vs ds b F2 H2, q ds b → ds.length = n → FrRel c.fr F H F2 H2 → Wd c F0 H0 ρ b F2 H2 σ → RzPs c.K c.mg F2 vs ds → Q vs H2) → tPairs trs σ H Q
theorem sp_nil : SndP c [] wpNil 0 := fun F0 H0 ρ b F H σ W q qx Q hw lx l => l [] [] b F H hw rfl (FrRel.refl W.z) W .nil
theorem sp_cons {tk tv : TE} {trs : List (TE × TE)} {wk wv : WE} {wr : WP} {n : Nat} (hk : SndE c tk wk) (hv : SndE c tv wv) (hr : SndP c trs wr n) : SndP c ((tk, tv) :: trs) (wpCons wk wv wr) (n + 1) := fun F0 H0 ρ b F H σ W q qx Q hw lx l =>
  hk F0 H0 ρ b F H σ W _ qx _ hw lx fun x dx b1 F1 H1 h1 g1 W1 r1 => hv F0 H0 ρ b1 F1 H1 σ W1 _ qx _ h1 (lx.mono g1.ff) fun y dy b2 F2 H2 h2 g2 W2 r2 => hr F0 H0 ρ b2 F2 H2 σ W2 _ qx _ h2 (lx.mono (g1.ff.trans g2.ff)) fun vs ds b3 F3 H3 h3 hn g3 W3 r3 =>
    l _ _ b3 F3 H3 h3 (by rw [List.length_cons, hn]) ((g1.trans g2).trans g3) W3 (.cons ⟨rz_ex (g2.ff.trans g3.ff) r1, rz_ex g3.ff r2⟩ r3)
def keysD : List (Dt × Dt) → Option (List (Key × Dt))
  | [] => some []
  | (k, v) :: r => match keyD k, keysD r with
    | some key, some kvs => some ((key, v) :: kvs)
    | _, _ => Option.none
def mergeD (kvs more : List (Key × Dt)) : List (Key × Dt) := more.foldl (fun acc kv => kvPut acc kv.1 kv.2) kvs
theorem keysD_len : ∀ {ds : List (Dt × Dt)} {kvs : List (Key × Dt)}, keysD ds = some kvs → kvs.length = ds.length
  | [], _, h => by cases h; rfl
  | (k, v) :: r, _, h => by
    unfold keysD at h
    split at h
    · rename_i e
      cases h
      rw [List.length_cons, List.length_cons, keysD_len e]
    · cases h
theorem rz_keys {K : PySem.W.Frag} {mg : Str → Option Value} {F : Hp} : ∀ {vs : List (V × V)} {ds : List (Dt × Dt)} {kvs : List (Key × Dt)}, RzPs K mg F vs ds → keysD ds = some kvs → ∃ us : List (Key × V), vs = us.map (fun kv => (kV kv.1, kv.2)) ∧ RzKV K mg F us kvs
  | _, _, _, .nil, h => by cases h; exact ⟨[], rfl, .nil⟩
  | _, _, _, .cons (a := p) (b := d) h t, e => by
    obtain ⟨k, v⟩ := p
    obtain ⟨dk, dv⟩ := d
    unfold keysD at e
    split at e
    · rename_i key kvs h1 h2
      cases e
      obtain ⟨us, rfl, r⟩ := rz_keys t h2
      exact ⟨(key, v) :: us, by rw [List.map_cons, ← rz_key (c := ⟨K, mg, Option.none, fun _ _ _ => False⟩) h.1 h1], .cons h.2 r⟩
    · cases e
theorem rzk_mergeD {K : PySem.W.Frag} {mg : Str → Option Value} {F : Hp} : ∀ {us : List (Key × V)} {more : List (Key × Dt)} {vs : List (Key × V)} {ds : List (Key × Dt)}, RzKV K mg F us more → RzKV K mg F vs ds → RzKV K mg F (mergeK vs us) (mergeD ds more)
  | _, _, _, _, .nil, h => h
  | _, _, _, _, .cons (k := k) r t, h => by
    have q := rzk_mergeD t (rzk_put (k := k) r h)
    exact q
theorem mergeD_len : ∀ (more ds : List (Key × Dt)), (mergeD ds more).length ≤ ds.length + more.length
  | [], ds => Nat.le_refl _
  | kv :: r, ds => by
    have h1 := mergeD_len r (kvPut ds kv.1 kv.2)
    have h2 := kvPut_len ds kv.1 kv.2
    rw [List.length_cons]
    show (mergeD (kvPut ds kv.1 kv.2) r).length ≤ _
    omega
/-- {k: v, ..} -/
def wDisp (w : WP) : WE := fun ρ b q qx => w ρ b (fun ps b1 => match keysD ps with
  | some kvs => q (.dict (mergeD [] kvs)) b1
  | Option.none => False) qx
theorem snn_disp {trs : List (TE × TE)} {w : WP} {n : Nat} (hn : n ≤ 15) (h : SndP c trs w n) : SndN c (tDisp trs) (wDisp w) := fun F0 H0 ρ b F H σ W q qx Q hw lx l p hp => by
  have f0 := W.far hp
  have G : Grow F H F (upd H p (.dK [])) := Grow.tmp W.z hp
  refine h F0 H0 ρ b F _ σ (W.grow G) _ qx _ hw lx fun vs ds b2 F2 H2 h2 hl g2 W2 r2 => ?_
  split at h2
  · rename_i kvs hk
    obtain ⟨us, rfl, ru⟩ := rz_keys r2 hk
    have e0 : upd H p (.dK []) p = some (.dK []) := upd_same
    have at2 : H2 p = some (.dK []) := g2.own tbl_dK f0.own.ap e0
    have hl2 : us.length ≤ 15 := by
      rw [rzk_len ru, keysD_len hk, hl]
      exact hn
    have f2 : Far c H0 ρ F2 σ p := f0.step g2 tbl_dK e0
    have g := (FrRel.of G).trans g2
    refine ⟨at2, us, rfl, hl2, l p _ b2 F2 _ h2 (g.mut f2.own.ap f2.own.nf (N0.of hp)) (W2.mutX f2 fun q z => ?_) (N0.of hp) f2 ⟨?_, _, upd_same, rzk_mergeD ru .nil⟩⟩
    · rw [at2] at z
      exact plain_dK.2 q (Option.some.inj z)
    · have := mergeD_len kvs []
      rw [keysD_len hk, hl] at this
      simp only [List.length_nil] at this
      omega
  · exact h2.elim
end
end Dw
set_option Elab.async false
set_option linter.all false
set_option maxRecDepth 100000
set_option maxHeartbeats 4000000
/-! Data-level wp: calls with arguments by name. -/
namespace Dw
open PySem PySem.Spec PyProof.Rows L2 Cn LamX
def wKw (is : List Nat) (w wk : WA) : WA := fun ρ b q qx => w ρ b (fun xs b1 => wk ρ b1 (fun ys b2 => q (permL is (xs ++ ys)) b2) qx) qx
section
variable {c : Cd} {t tk : TA} {w wk : WA} {n m : Nat}
theorem rza_perm {K : PySem.W.Frag} {mg : Str → Option Value} {F : Hp} {vs : List V} {ds : List Dt} (r : RzAll K mg F vs ds) : ∀ is : List Nat, RzAll K mg F (permL is vs) (permL is ds)
  | [] => .nil
  | i :: is => by
    have ih := rza_perm r is
    unfold permL at ih ⊢
    cases e : vs[i]? with
    | none =>
      have e2 : ds[i]? = none := by
        have l := rza_len r
        rw [List.getElem?_eq_none_iff] at e ⊢
        omega
      rw [List.filterMap_cons, List.filterMap_cons, e, e2]
      exact ih
    | some v =>
      obtain ⟨d, e2, rd⟩ := rza_get r e
      rw [List.filterMap_cons, List.filterMap_cons, e, e2]
      exact .cons rd ih
theorem perm_len {α : Type} {l : List α} : ∀ {is : List Nat}, (∀ i ∈ is, i < l.length) → (permL is l).length = is.length
  | [], _ => rfl
  | i :: is, h => by
    have ih := perm_len (is := is) (l := l) fun j hj => h j (List.mem_cons_of_mem _ hj)
    unfold permL at ih ⊢
    rw [List.filterMap_cons, List.getElem?_eq_getElem (h i List.mem_cons_self)]
    show _ + 1 = _ + 1
    rw [ih]
theorem snr_kw {is : List Nat} (h : SndR c t w n) (k : SndR c tk wk m) (hi : (is.all fun i => decide (i < n + m)) = true) : SndR c (tKw n m is t tk) (wKw is w wk) is.length := fun F0 H0 ρ b F H σ W q qx Q hw lx l => h F0 H0 ρ b F H σ W _ qx _ hw lx fun vs ds b1 F1 H1 h1 hn g1 W1 r1 => k F0 H0 ρ b1 F1 H1 σ W1 _ qx _ h1 (lx.mono g1.ff) fun us es b2 F2 H2 h2 hm g2 W2 r2 => by
  unfold permG
  rw [if_pos ⟨by rw [rza_len r1, hn], by rw [rza_len r2, hm]⟩]
  exact l _ _ b2 F2 H2 h2 (perm_len fun i hi2 => by
    rw [List.length_append, hn, hm]
    exact of_decide_eq_true (List.all_eq_true.mp hi i hi2)) (g1.trans g2) W2 (rza_perm (rza_app (rza_ex g2.ff r1) r2) is)
end
section
variable {X : Cx} {k n : Nat} {x : Str} {ps ks : List Str} {W : WF} {p pos : Pos} {e : Expr} {es : List Expr} {kws : List Keyword} {t tk : TA} {st : Stmt} {is : List Nat} {a b : Nat}
theorem pe_callK {P : Program} {w : World} {K : PySem.W.Frag} {mg : Str → Option Value} {base : Heap} {E : XK} (h : KpG P w K mg base (L2.CX P w) k x ps (spW K mg ps.length W)) (Fx : Fg K mg x st) (hP : X.prog = P) (hw : X.w = w) (hK : X.K = K) (hm : X.mg = mg) (hb : X.base = base)
    (tk_ : Takes X fun cls d _ H => E cls d H) (gd : X.A.guards = some []) (hr : Room k X.A) (hg : Gl X x) (ha : PA X (e :: es) t) (hkw : PK X kws tk)
    (hkb : ∀ (kV doc pm : Value) (an : Option Addr) (cdv ct : Value) (us ws : List Value), us.length = a → ws.length = b → bindArgs (PySem.W.fnOf x x (defArgs st) (defBody st) (defScope st) .none kV doc pm an cdv ct) ⟨us, ks.zip ws⟩ = pure (ps.zip (permL is (us ++ ws))))
    (h0 : ps.length ≠ 0) (hall : (backToKw pos (keywordEach kws X.env)).all (·.1.isSome) = true := by rfl) (hks : (backToKw pos (keywordEach kws X.env)).filterMap (·.1) = ks := by rfl)
    (hdb : (x == ("__debug__" : Str)) = false := by decide) (he : starEach (e :: es) X.env = (false, eval e X.env) :: starEach es X.env := by rfl)
    (hpl : ((backTo pos (starEach (e :: es) X.env)).any (·.1) || (backToKw pos (keywordEach kws X.env)).any (·.1.isNone)) = false := by rfl) : PE X (.Call (.Name x p) (e :: es) kws pos) (tCall (spW K mg ps.length W) [] E (tKw a b is t tk)) := by
  subst hP hw hK hm hb
  exact pe_kpGK h Fx (passes_call tk_ fun _ _ _ _ h => h) gd hr hg ha hkw hkb h0 hall hks hdb he hpl
theorem pe_callK0 {P : Program} {w : World} {K : PySem.W.Frag} {mg : Str → Option Value} {base : Heap} {E : XK} (h : KpG P w K mg base (L2.CX P w) k x ps (spW K mg ps.length W)) (Fx : Fg K mg x st) (hP : X.prog = P) (hw : X.w = w) (hK : X.K = K) (hm : X.mg = mg) (hb : X.base = base)
    (tk_ : Takes X fun cls d _ H => E cls d H) (gd : X.A.guards = some []) (hr : Room k X.A) (hg : Gl X x) (hkw : PK X kws tk)
    (hkb : ∀ (kV doc pm : Value) (an : Option Addr) (cdv ct : Value) (us ws : List Value), us.length = a → ws.length = b → bindArgs (PySem.W.fnOf x x (defArgs st) (defBody st) (defScope st) .none kV doc pm an cdv ct) ⟨us, ks.zip ws⟩ = pure (ps.zip (permL is (us ++ ws))))
    (h0 : ps.length ≠ 0) (hall : (backToKw pos (keywordEach kws X.env)).all (·.1.isSome) = true := by rfl) (hks : (backToKw pos (keywordEach kws X.env)).filterMap (·.1) = ks := by rfl)
    (hdb : (x == ("__debug__" : Str)) = false := by decide) (hpl : ((backTo pos (starEach [] X.env)).any (·.1) || (backToKw pos (keywordEach kws X.env)).any (·.1.isNone)) = false := by rfl) : PE X (.Call (.Name x p) [] kws pos) (tCall (spW K mg ps.length W) [] E (tKw a b is tNil tk)) := by
  subst hP hw hK hm hb
  exact pe_kpGK0 h Fx (passes_call tk_ fun _ _ _ _ h => h) gd hr hg hkw hkb h0 hall hks hdb hpl
/-- .. that raise nothing here -/
theorem pe_callKn {P : Program} {w : World} {K : PySem.W.Frag} {mg : Str → Option Value} {base : Heap} (h : KpG P w K mg base (L2.CX P w) k x ps (spW K mg ps.length W)) (Fx : Fg K mg x st) (hP : X.prog = P) (hw : X.w = w) (hK : X.K = K) (hm : X.mg = mg) (hb : X.base = base)
    (gd : X.A.guards = some []) (hr : Room k X.A) (hg : Gl X x) (ha : PA X (e :: es) t) (hkw : PK X kws tk)
    (hkb : ∀ (kV doc pm : Value) (an : Option Addr) (cdv ct : Value) (us ws : List Value), us.length = a → ws.length = b → bindArgs (PySem.W.fnOf x x (defArgs st) (defBody st) (defScope st) .none kV doc pm an cdv ct) ⟨us, ks.zip ws⟩ = pure (ps.zip (permL is (us ++ ws))))
    (h0 : ps.length ≠ 0) (hall : (backToKw pos (keywordEach kws X.env)).all (·.1.isSome) = true := by rfl) (hks : (backToKw pos (keywordEach kws X.env)).filterMap (·.1) = ks := by rfl)
    (hdb : (x == ("__debug__" : Str)) = false := by decide) (he : starEach (e :: es) X.env = (false, eval e X.env) :: starEach es X.env := by rfl)
    (hpl : ((backTo pos (starEach (e :: es) X.env)).any (·.1) || (backToKw pos (keywordEach kws X.env)).any (·.1.isNone)) = false := by rfl) : PE X (.Call (.Name x p) (e :: es) kws pos) (tCall (spW K mg ps.length W) [] (fun _ _ _ => False) (tKw a b is t tk)) := by
  subst hP hw hK hm hb
  exact pe_kpGK h Fx passF gd hr hg ha hkw hkb h0 hall hks hdb he hpl
theorem pe_callKn0 {P : Program} {w : World} {K : PySem.W.Frag} {mg : Str → Option Value} {base : Heap} (h : KpG P w K mg base (L2.CX P w) k x ps (spW K mg ps.length W)) (Fx : Fg K mg x st) (hP : X.prog = P) (hw : X.w = w) (hK : X.K = K) (hm : X.mg = mg) (hb : X.base = base)
    (gd : X.A.guards = some []) (hr : Room k X.A) (hg : Gl X x) (hkw : PK X kws tk)
    (hkb : ∀ (kV doc pm : Value) (an : Option Addr) (cdv ct : Value) (us ws : List Value), us.length = a → ws.length = b → bindArgs (PySem.W.fnOf x x (defArgs st) (defBody st) (defScope st) .none kV doc pm an cdv ct) ⟨us, ks.zip ws⟩ = pure (ps.zip (permL is (us ++ ws))))
    (h0 : ps.length ≠ 0) (hall : (backToKw pos (keywordEach kws X.env)).all (·.1.isSome) = true := by rfl) (hks : (backToKw pos (keywordEach kws X.env)).filterMap (·.1) = ks := by rfl)
    (hdb : (x == ("__debug__" : Str)) = false := by decide) (hpl : ((backTo pos (starEach [] X.env)).any (·.1) || (backToKw pos (keywordEach kws X.env)).any (·.1.isNone)) = false := by rfl) : PE X (.Call (.Name x p) [] kws pos) (tCall (spW K mg ps.length W) [] (fun _ _ _ => False) (tKw a b is tNil tk)) := by
  subst hP hw hK hm hb
  exact pe_kpGK0 h Fx passF gd hr hg hkw hkb h0 hall hks hdb hpl
end
end Dw
set_option Elab.async false
set_option linter.all false
set_option maxRecDepth 100000
set_option maxHeartbeats 4000000
/-! What the head tells of own error classes. -/
namespace Dw
open PySem PySem.Spec PyProof.Rows L2 Cn LamX
variable {K : PySem.W.Frag} {mg : Str → Option Value}
theorem exm_mk {E : Str} {CE : Value} {L : List (Str × Addr)} (hE : mg E = some CE) (h : ∀ p ∈ L, mg p.1 = some (.ref p.2) ∧ PySem.W.exmOne K (.ref p.2) CE = some true) : ExmOk K mg E (L.map (·.1)) CE := ⟨hE, fun x C hx hm => by
  obtain ⟨p, hp, rfl⟩ := List.mem_map.mp (List.contains_iff_mem.mp hx)
  obtain ⟨h1, h2⟩ := h p hp
  rw [h1] at hm
  cases hm
  exact h2⟩
/-- own errors, all right below CornerError, which is below ValueError -/
def subF (ns : List Str) (x t : Str) : Option Bool := match ns.contains x, (t :: ns).contains "ValueError" && t == "ValueError" with
  | true, true => some true
  | true, false => if ns.contains t = true then some (t == x || t == "CornerError") else Option.none
  | false, _ => Option.none
theorem ekn_mk {L : List (Str × Addr)} (h : ∀ p ∈ L, mg p.1 = some (.ref p.2) ∧ ExcC K p.2 ∧ PySem.W.kitOne K (.ref p.2) (.type "ValueError") = some true ∧ ∀ q ∈ L, PySem.W.kitOne K (.ref p.2) (.ref q.2) = some (q.1 == p.1 || q.1 == "CornerError")) : EKn K mg (subF (L.map (·.1))) := ⟨fun x t b D hs hm => by
  unfold subF at hs
  have known : (L.map (·.1)).contains x = true → ∃ p ∈ L, p.1 = x ∧ p.2 = D := fun hx => by
    obtain ⟨p, hp, rfl⟩ := List.mem_map.mp (List.contains_iff_mem.mp hx)
    have h1 := (h p hp).1
    rw [h1] at hm
    cases hm
    exact ⟨p, hp, rfl, rfl⟩
  split at hs
  · rename_i h1 h2
    cases hs
    obtain ⟨p, hp, rfl, rfl⟩ := known h1
    obtain ⟨_, e2, e3, _⟩ := h p hp
    have ht : t = "ValueError" := beq_iff_eq.mp (Bool.and_eq_true_iff.mp h2).2
    exact ⟨e2, fun _ => ⟨rfl, e3⟩, fun ne => absurd ht ne⟩
  · rename_i h1 h2
    split at hs
    · rename_i h3
      cases hs
      obtain ⟨p, hp, rfl, rfl⟩ := known h1
      obtain ⟨_, e2, e3, e4⟩ := h p hp
      obtain ⟨q, hq, rfl⟩ := List.mem_map.mp (List.contains_iff_mem.mp h3)
      refine ⟨e2, fun hv => ?_, fun _ => ⟨q.2, (h q hq).1, e4 q hq⟩⟩
      rw [hv] at h2
      simp at h2
    · cases hs
  · cases hs⟩
theorem efn_mk {L : List (Str × Str × Addr)} (h : ∀ p ∈ L, mg p.1 = some (.ref p.2.2) ∧ XfC K p.2.2 ∧ PySem.W.findIn K (.ref p.2.2) p.2.1 = some none) : EFn K mg (fun x => (L.map fun p => (p.1, p.2.1)).lookup x) := ⟨fun x f D hf hm => by
  have hm2 : ∃ p ∈ L, p.1 = x ∧ p.2.1 = f := by
    obtain ⟨p, hp, e⟩ := List.mem_map.mp (PySem.mem_of_lookup hf)
    cases e
    exact ⟨p, hp, rfl, rfl⟩
  obtain ⟨p, hp, rfl, rfl⟩ := hm2
  obtain ⟨h1, h2, h3⟩ := h p hp
  rw [h1] at hm
  cases hm
  exact ⟨h2, h3⟩⟩
end Dw
set_option Elab.async false
set_option linter.all false
set_option maxRecDepth 100000
set_option maxHeartbeats 4000000
/-! Data-level wp: ys.append(xs.pop(e)). -/
namespace Dw
open PySem PySem.Spec PyProof.Rows L2 Cn LamX
theorem rza_erase {K : PySem.W.Frag} {mg : Str → Option Value} {F : Hp} : ∀ {vs : List V} {ds : List Dt} (p : Nat), RzAll K mg F vs ds → RzAll K mg F (vs.eraseIdx p) (ds.eraseIdx p)
  | _, _, _, .nil => .nil
  | _, _, 0, .cons _ t => t
  | _, _, p + 1, .cons h t => .cons h (rza_erase p t)
theorem at_put_ne : ∀ {ρ : Rho} {i j : Nat} {s : Option Sv}, i ≠ j → at_ (put ρ j s) i = at_ ρ i
  | [], _, _, _, _ => rfl
  | _ :: _, 0, 0, _, h => absurd rfl h
  | _ :: _, 0, _ + 1, _, _ => rfl
  | _ :: _, _ + 1, 0, _, _ => rfl
  | _ :: ρ, i + 1, j + 1, _, h => at_put_ne (ρ := ρ) (i := i) (j := j) fun e => h (by rw [e])
section
variable {c : Cd} {te : TE} {we : WE}
def wAppPop (i j : Nat) (we : WE) : WS := fun D ρ b => match at_ ρ i, at_ ρ j with
  | some (.ow (.list ds)), some (.ow (.list es)) => we ρ b (fun d b1 => match d with
    | .int k => (match seqIndex? k es.length with
      | some p => (match es[p]? with
        | some y => (i ≠ j ∧ -(2 ^ 63) ≤ k ∧ k < 2 ^ 63 ∧ ds.length < 100000) ∧ D.nx (put (put ρ j (some (.ow (.list (es.eraseIdx p))))) i (some (.ow (.list (ds ++ [y]))))) b1
        | Option.none => False)
      | Option.none => False)
    | _ => False) D.ex
  | _, _ => False
theorem ss_appPop {i j : Nat} (h : SndE c te we) : SndS c (tDrop (tBM c.K "list" rAppend (tVar i) (tCons (tBM c.K "list" rPopAt (tVar j) (tCons te tNil)) tNil))) (wAppPop i j we) := fun F0 H0 ρ b F H σ W D E hw l => by
  unfold wAppPop at hw
  split at hw
  · rename_i ds es hi hj
    obtain ⟨a, e, o, n⟩ := W.sl i _ hi
    obtain ⟨a2, e2, o2, n2⟩ := W.sl j _ hj
    have o' := o
    obtain ⟨_, vs, hv, rv⟩ := o'
    have o2' := o2
    obtain ⟨_, vs2, hv2, rv2⟩ := o2'
    refine ⟨_, e, .inl ⟨rfl, vs, SqL.of hv⟩, _, e2, .inl ⟨rfl, vs2, SqL.of hv2⟩, h F0 H0 ρ b F H σ W _ _ _ hw l.x fun v d b1 F1 H1 h1 g1 W1 r => ?_⟩
    split at h1
    · rename_i k
      split at h1
      · rename_i p hp
        split at h1
        · rename_i y hy
          obtain ⟨⟨ne, k1, k2, hl⟩, h1⟩ := h1
          cases r
          obtain ⟨l2, us2, hu2, ru2⟩ := o2.mono g1.ff fun x t hx => g1.own t n2.ap hx
          obtain ⟨u, hu, ru⟩ := rza_get' ru2 hy
          refine ⟨a2, us2, k, p, u, rfl, rfl, hu2, k1, k2, by rw [rza_len ru2]; exact hp, hu, ?_⟩
          have W2 := W1.mut hj e2 (o := .lst (us2.eraseIdx p)) (e := .list (es.eraseIdx p)) ⟨Nat.le_trans (List.length_eraseIdx_le _ _) l2, _, upd_same, rza_erase p ru2⟩
          have hi2 : at_ (put ρ j (some (.ow (.list (es.eraseIdx p))))) i = some (.ow (.list ds)) := by rw [at_put_ne ne]; exact hi
          obtain ⟨a3, e3, o3, n3⟩ := W2.sl i _ hi2
          rw [e] at e3
          cases e3
          obtain ⟨l1, us, hu1, ru1⟩ := o3
          exact ⟨a, us, u, rfl, rfl, hu1, Evl.sz_lt (by rw [rza_len ru1]; exact hl), l.nx _ b1 F1 _ σ h1 g1.ff (W2.mut hi2 e ⟨by rw [List.length_append]; exact hl, _, upd_same, rza_app ru1 (.cons ru .nil)⟩)⟩
        · exact h1.elim
      · exact h1.elim
    · exact h1.elim
  · exact hw.elim
end
end Dw
set_option Elab.async false
set_option linter.all false
set_option maxRecDepth 100000
set_option maxHeartbeats 4000000
/-! Data-level wp: calls without arguments; [x] * n; xs.count(x). -/
namespace Dw
open PySem PySem.Spec PyProof.Rows L2 Cn LamX
section
variable {X : Cx} {CX : CXT} {k : Nat} {x : Str} {ps : List Str} {sp : Sp} {W : WF} {p pos : Pos}
theorem pe_kpG0 {E : XK} (h : KpG X.prog X.w X.K X.mg X.base CX k x ps sp) (hx : Passes CX X E) (gd : X.A.guards = some []) (hr : Room k X.A) (hg : Gl X x) (hdb : (x == ("__debug__" : Str)) = false := by decide) : PE X (.Call (.Name x p) [] [] pos) (tCall sp [] E tNil) := by
  obtain ⟨f, fd, h1, h2, h3, h4, h5, _⟩ := h
  refine ⟨fun pins s σ H Q I hq => wpAny_Call_Name_kw (ld_glob I hg h1 ?_ hdb)⟩
  have q : sp [] H Q E := hq
  have hl : ps.length = 0 := by
    have z := h4 _ _ _ _ q
    exact z.symm
  have bd : BindsTo s fd ⟨[], []⟩ (ps.zip []) := by
    have z := h3 s [] I.kIn (by rw [List.append_nil, hl]; rfl)
    rw [List.append_nil] at z
    exact z
  refine PySem.W.callWith_K0 (first := []) I.kIn h2 (wpAny_call (codeAny_mono (h5 X.A X.stack s H ⟨[], []⟩ [] [] Q E gd hr I.env0 bd .nil q) fun rs s2 z => ?_))
  cases rs with
  | error er => exact hx pins σ H s er s2 I z
  | ok fl =>
    cases fl with
    | ret u => exact I.after z
    | next => exact False.elim z
    | brk => exact False.elim z
    | cont => exact False.elim z
theorem pe_callZ {P : Program} {w : World} {K : PySem.W.Frag} {mg : Str → Option Value} {base : Heap} {E : XK} (h : KpG P w K mg base (L2.CX P w) k x ps (spW K mg ps.length W)) (hP : X.prog = P) (hw : X.w = w) (hK : X.K = K) (hm : X.mg = mg) (hb : X.base = base)
    (tk : Takes X fun cls d _ H => E cls d H) (gd : X.A.guards = some []) (hr : Room k X.A) (hg : Gl X x) (hdb : (x == ("__debug__" : Str)) = false := by decide) : PE X (.Call (.Name x p) [] [] pos) (tCall (spW K mg ps.length W) [] E tNil) := by
  subst hP hw hK hm hb
  exact pe_kpG0 h (passes_call tk fun _ _ _ _ h => h) gd hr hg hdb
theorem pe_callZ0 {P : Program} {w : World} {K : PySem.W.Frag} {mg : Str → Option Value} {base : Heap} (h : KpG P w K mg base (L2.CX P w) k x ps (spW K mg ps.length W)) (hP : X.prog = P) (hw : X.w = w) (hK : X.K = K) (hm : X.mg = mg) (hb : X.base = base)
    (gd : X.A.guards = some []) (hr : Room k X.A) (hg : Gl X x) (hdb : (x == ("__debug__" : Str)) = false := by decide) : PE X (.Call (.Name x p) [] [] pos) (tCall (spW K mg ps.length W) [] (fun _ _ _ => False) tNil) := by
  subst hP hw hK hm hb
  exact pe_kpG0 h passF gd hr hg hdb
end
section
variable {c : Cd} {te ta : TE} {we wa : WE}
/-- xs.count(x) -/
def wCountL (wl wx : WE) : WE := fun ρ b q qx => wl ρ b (fun l b1 => match l with
  | .list ds => wx ρ b1 (fun d b2 => match plAll ds, d.pl with
    | some es, some e => e.depth ≤ 60 ∧ q (.int ((es.countP fun z => PyData.eqv z e : Nat) : Int)) b2
    | _, _ => False) qx
  | _ => False) qx
theorem sn_countL (hl : SndE c ta wa) (hx : SndE c te we) : SndE c (tBM c.K "list" (rCountD c.K) ta (tCons te tNil)) (wCountL wa we) := fun F0 H0 ρ b F H σ W q qx Q hw lx lk => hl F0 H0 ρ b F H σ W _ qx _ hw lx fun v l b1 F1 H1 h1 g1 W1 r1 => by
  -- the list is one whatever comes of the argument
  cases l with
  | list ds =>
    cases r1 with
    | lst l1 hs ha =>
      refine ⟨.inl ⟨rfl, _, SqL.of (W1.z _ _ hs)⟩, hx F0 H0 ρ b1 F1 H1 σ W1 _ qx _ h1 (lx.mono g1.ff) fun u d b2 F2 H2 h2 g2 W2 r2 => ?_⟩
      split at h2
      · rename_i es e he1 he2
        obtain ⟨z1, p1⟩ := rza_dz (rza_ex g2.ff ha) he1
        obtain ⟨z2, p2⟩ := rz_dz r2 he2
        exact ⟨_, _, e, es, rfl, rfl, .lst (SqL.of (W2.z _ _ (g2.ff _ _ hs))) (dpa_ex W2.z z1), dp_ex W2.z z2, p1, p2, h2.1, lk _ _ b2 F2 H2 h2.2 (g1.trans g2) W2 (.int _)⟩
      · exact h2.elim
  | _ => exact h1.elim
/-- xs.index(x) -/
def wIndexL (wl wx : WE) : WE := fun ρ b q qx => wl ρ b (fun l b1 => match l with
  | .list ds => wx ρ b1 (fun d b2 => match plAll ds, d.pl with
    | some es, some e => (match es.findIdx? (fun z => PyData.eqv z e) with
      | some j => (SeqAt.shaped (.list es) = true ∧ SeqAt.shaped e = true) ∧ q (.int (j : Nat)) b2
      | Option.none => False)
    | _, _ => False) qx
  | _ => False) qx
theorem sn_indexL (hl : SndE c ta wa) (hx : SndE c te we) : SndE c (tBM c.K "list" (rIndexD c.K) ta (tCons te tNil)) (wIndexL wa we) := fun F0 H0 ρ b F H σ W q qx Q hw lx lk => hl F0 H0 ρ b F H σ W _ qx _ hw lx fun v l b1 F1 H1 h1 g1 W1 r1 => by
  cases l with
  | list ds =>
    cases r1 with
    | lst l1 hs ha =>
      refine ⟨.inl ⟨rfl, _, SqL.of (W1.z _ _ hs)⟩, hx F0 H0 ρ b1 F1 H1 σ W1 _ qx _ h1 (lx.mono g1.ff) fun u d b2 F2 H2 h2 g2 W2 r2 => ?_⟩
      split at h2
      · rename_i es e he1 he2
        split at h2
        · rename_i j hj
          obtain ⟨z1, p1⟩ := rza_dz (rza_ex g2.ff ha) he1
          obtain ⟨z2, p2⟩ := rz_dz r2 he2
          obtain ⟨hlt, hp, hb⟩ := List.findIdx?_eq_some_iff_getElem.mp hj
          have zl : Dz c.K H2 _ (.list es) := .lst (SqL.of (W2.z _ _ (g2.ff _ _ hs))) (dpa_ex W2.z z1)
          refine ⟨_, _, e, es, j, es[j], rfl, rfl, zl.dp (by rw [PyData.hasDict]; exact noDict_plains _ p1), (dp_ex W2.z z2).dp (noDict_plain _ p2), h2.1.1, h2.1.2, List.getElem?_eq_getElem hlt, hp, fun m z' hm hz => ?_, lk _ _ b2 F2 H2 h2.2 (g1.trans g2) W2 (.int _)⟩
          have hl2 : m < es.length := Nat.lt_trans hm hlt
          rw [List.getElem?_eq_getElem hl2] at hz
          cases hz
          have z := hb m hm
          simpa using z
        · exact h2.elim
      · exact h2.elim
  | _ => exact h1.elim
end
end Dw
set_option Elab.async false
set_option linter.all false
set_option maxRecDepth 100000
set_option maxHeartbeats 4000000
/-! Data-level wp: {k: v for x in xs if t}. -/
namespace Dw
open PySem PySem.Spec PyProof.Rows L2 Cn LamX
/-- a dict comprehension over a walk -/
theorem dc_it {J : It} {n : Nat} {G : Hp → Prop} {Y : Nat → Hp → V → Hp → Prop} (w : Walk J n G Y) {g : TG} {tt : TT} {tk tv : TE} {vs : List Nat} {σ : L2.St} {H1 : Hp} {D : Addr} {Qd : Hp → Prop} (Pv : Nat → Hp → Prop) (h0 : Pv 0 (upd H1 D (.dK []))) (hG : ∀ i H, i ≤ n → Pv i H → G H)
    (hs : ∀ i x H H', i < n → Pv i H → Y i H x H' → g x (wipe σ vs) H' fun σ2 H2 => wipe σ2 vs = wipe σ vs ∧ tt σ2 H2 fun b H3 =>
      if b = true then tk σ2 H3 fun y H4 => tv σ2 H4 fun z H5 => ∃ kvs k, y = kV k ∧ H5 D = some (.dK kvs) ∧ kvs.length < sizeLine ∧ Pv (i + 1) (upd H5 D (.dK (putK kvs k z))) else Pv (i + 1) H3) (hd : ∀ H, Pv n H → Qd H) :
    ∃ W : Nat → Nat → Hp → Prop, (∃ m, W 0 m (upd H1 D (.dK []))) ∧ ∀ i m H, W i m H →
      (J.stop i H ∧ Qd H) ∨ (J.go i H ∧ ∃ Nx : Hp → Prop, (∀ H', Nx H' → ∃ m', m' < m ∧ W (i + 1) m' H') ∧ ∀ x H', J.yld i H x H' → g x (wipe σ vs) H' fun σ2 H2 => wipe σ2 vs = wipe σ vs ∧ tt σ2 H2 fun b H3 =>
        if b = true then tk σ2 H3 fun y H4 => tv σ2 H4 fun z H5 => ∃ kvs k, y = kV k ∧ H5 D = some (.dK kvs) ∧ kvs.length < sizeLine ∧ Nx (upd H5 D (.dK (putK kvs k z))) else Nx H3) := by
  refine ⟨fun i m H => i ≤ n ∧ m = n - i ∧ Pv i H, ⟨n, Nat.zero_le _, by simp, h0⟩, fun i m H ⟨hi, hm, p⟩ => ?_⟩
  have q := hG i H hi p
  rcases Nat.lt_or_ge i n with hlt | hge
  · exact .inr ⟨w.goes i H hlt q, Pv (i + 1), fun H' p' => ⟨n - (i + 1), by omega, hlt, rfl, p'⟩, fun x H' y => hs i x H H' hlt p (w.yields i H x H' hlt q y)⟩
  · obtain rfl : i = n := Nat.le_antisymm hi hge
    exact .inl ⟨w.stops H q, hd H p⟩
def dcW (g : WG) (wt : WT) (wk wv : WE) (ρ : Rho) : List Dt → Nat → List (Key × Dt) → (List (Key × Dt) → Nat → Prop) → Prop
  | [], b, acc, q => q acc b
  | d :: ds, b, acc, q => g d ρ fun ρ2 => wt ρ2 b (fun k b1 => br k (wk ρ2 b1 (fun kd b2 => wv ρ2 b2 (fun y b3 => match keyD kd with
    | some key => dcW g wt wk wv ρ ds b3 (kvPut acc key y) q
    | Option.none => False) fun _ _ => False) fun _ _ => False) (dcW g wt wk wv ρ ds b1 acc q)) fun _ _ => False
def wDc (wi : WA) (g : WG) (wt : WT) (wk wv : WE) (vs : List Nat) : WE := fun ρ b q qx => wi ρ b (fun ds b1 => dcW g wt wk wv (wipeR ρ vs) ds b1 [] fun r b2 => q (.dict r) b2) qx
structure DcP (c : Cd) (F0 H0 : Hp) (ρ : Rho) (σ : L2.St) (F1 H1 : Hp) (D : Addr) (i : Nat) (H : Hp) (b : Nat) (Fi : Hp) (acc : List (Key × V)) (ds : List (Key × Dt)) : Prop where
  w : Wd c F0 H0 ρ b Fi H σ
  g : FrRel c.fr F1 H1 Fi H
  f : Far c H0 ρ Fi σ D
  n1 : N0 c.fr H1 D
  at_ : H D = some (.dK acc)
  r : RzKV c.K c.mg Fi acc ds
  l : ds.length ≤ i
theorem code_dK {H : Hp} {a : Addr} {xs : List (Key × V)} (h : H a = some (.dK xs)) (q : Str) : H a ≠ some (LamX.CodeO a q) := fun e => by
  rw [h] at e
  exact plain_dK.2 q (Option.some.inj e)
theorem snn_dc {c : Cd} {tt : TT} {tk tv : TE} {wt : WT} {wk wv : WE} {pr : Bool} {wi : TI} {wiw : WA} {g : TG} {wg : WG} {is vs : List Nat} (hi : SndI c pr wi wiw) (hg : SndG c pr g wg is) (hs : ∀ i ∈ is, i ∈ vs) (ht : SndT c tt wt) (hk : SndE c tk wk) (hv : SndE c tv wv) : SndN c (tDc wi g tt tk tv vs) (wDc wiw wg wt wk wv vs) :=
  fun F0 H0 ρ b F H σ W q qx Q hw lx l => hi F0 H0 ρ b F H σ W _ qx _ hw lx fun J ds b1 F1 H1 h1 g1 W1 it D hD => by
    obtain ⟨hl, G, Y, wlk, hG, hY⟩ := it
    have fD := W1.far hD
    have G0 : Grow F1 H1 F1 (upd H1 D (.dK [])) := Grow.tmp W1.z hD
    refine dc_it wlk (fun i H => ∃ b' Fi acc accd, DcP c F0 H0 ρ σ F1 H1 D i H b' Fi acc accd ∧ dcW wg wt wk wv (wipeR ρ vs) (ds.drop i) b' accd fun r b2 => q (.dict r) b2)
      ⟨b1, F1, [], [], ⟨W1.grow G0, FrRel.of G0, fD, N0.of hD, upd_same, .nil, Nat.le_refl _⟩, h1⟩ (fun i H2 _ ⟨_, Fi, _, _, P, _⟩ => hG _ _ P.g) (fun i v H2 H3 hi ⟨b2, Fi, acc, accd, P, hq⟩ y => ?_) (fun H2 ⟨b2, Fi, acc, accd, P, hq⟩ => ?_)
    · obtain ⟨d, hd, e⟩ := drop_at hi
      rw [e] at hq
      obtain ⟨F3, g3, r3⟩ := hY i d hd Fi H2 v H3 P.g P.w.z y
      have W3 := P.w.grow g3
      have at3 : H3 D = some (.dK acc) := g3.hh _ _ P.at_
      have f3 := P.f.step (FrRel.of g3) tbl_dK P.at_
      have g13 := P.g.trans (FrRel.of g3)
      refine hg F0 H0 _ b2 F3 H3 _ (W3.wipes vs) v d _ _ r3 hq fun ρ2 σ2 hk2 W4 hw2 => ⟨(hw2 vs hs).trans (wipe_wipe σ vs), ?_⟩
      refine ht F0 H0 ρ2 b2 F3 H3 σ2 W4 _ _ _ hk2 lkx_no fun k b5 F5 H5 h5 g5 W5 => ?_
      have at5 : H5 D = some (.dK acc) := g5.own tbl_dK f3.own.ap at3
      have f5 := f3.step g5 tbl_dK at3
      have W5' : Wd c F0 H0 ρ b5 F5 H5 σ := W3.step g5 W5.ok
      have r5 := rzk_ex (g3.ff.trans g5.ff) P.r
      cases k with
      | false => exact iteF ⟨b5, F5, acc, accd, ⟨W5', g13.trans g5, f5, P.n1, at5, r5, Nat.le_succ_of_le P.l⟩, h5⟩
      | true =>
        refine iteT (hk F0 H0 ρ2 b5 F5 H5 σ2 W5 _ _ _ h5 lkx_no fun x kd b6 F6 H6 h6 g6 W6 rx => hv F0 H0 ρ2 b6 F6 H6 σ2 W6 _ _ _ h6 lkx_no fun z dz b7 F7 H7 h7 g7 W7 rz => ?_)
        split at h7
        · rename_i key hkey
          have at6 : H6 D = some (.dK acc) := g6.own tbl_dK f5.own.ap at5
          have f6 := f5.step g6 tbl_dK at5
          have at7 : H7 D = some (.dK acc) := g7.own tbl_dK f6.own.ap at6
          have f7 := f6.step g7 tbl_dK at6
          have W7' : Wd c F0 H0 ρ b7 F7 H7 σ := (W5'.step g6 W6.ok).step g7 W7.ok
          have ll : accd.length + 1 ≤ 100000 := Nat.le_trans (Nat.succ_le_succ P.l) (Nat.le_trans hi hl)
          have r7 := rzk_ex (g6.ff.trans g7.ff) r5
          refine ⟨acc, key, rz_key rx hkey, at7, Evl.sz_lt (by rw [rzk_len P.r]; omega), b7, F7, _, kvPut accd key dz, ⟨W7'.mutX f7 (code_dK at7), (((g13.trans g5).trans g6).trans g7).mut f7.own.ap f7.own.nf P.n1, f7, P.n1, upd_same, rzk_put rz r7, ?_⟩, h7⟩
          have := kvPut_len accd key dz
          have := P.l
          omega
        · exact h7.elim
    · rw [List.drop_length] at hq
      exact l D _ b2 Fi H2 hq (g1.trans P.g) P.w (g1.back P.n1) P.f ⟨Nat.le_trans P.l hl, acc, P.at_, P.r⟩
end Dw
set_option Elab.async false
set_option linter.all false
set_option maxRecDepth 100000
set_option maxHeartbeats 4000000
/-! Data-level wp: sorted(set(xs)), len(set(xs)) of whole numbers or texts. -/
namespace Dw
open PySem PySem.Spec PyProof.Rows L2 Cn
def keyT : Key → Dt
  | .inl i => .int i
  | .inr x => .str x
def keysO : List Dt → Option (List Key)
  | [] => some []
  | d :: ds => match keyD d, keysO ds with
    | some k, some ks => some (k :: ks)
    | _, _ => Option.none
/-- each once -/
def dd : List Key → List Key
  | [] => []
  | k :: ks => if (ks.any fun j => decide (j = k)) = true then dd ks else k :: dd ks
theorem any_mem {ks : List Key} {k : Key} : (ks.any fun j => decide (j = k)) = true ↔ k ∈ ks := by
  rw [List.any_eq_true]
  constructor
  · rintro ⟨j, hj, e⟩
    exact of_decide_eq_true e ▸ hj
  · intro h
    exact ⟨k, h, decide_eq_true rfl⟩
theorem dd_mem {k : Key} : ∀ {ks : List Key}, k ∈ dd ks ↔ k ∈ ks
  | [] => Iff.rfl
  | j :: ks => by
    unfold dd
    split
    · rename_i h
      rw [dd_mem, List.mem_cons]
      exact ⟨.inr, fun e => e.elim (fun e => e ▸ any_mem.mp h) id⟩
    · rw [List.mem_cons, List.mem_cons, dd_mem]
theorem dd_nodup : ∀ ks : List Key, (dd ks).Nodup
  | [] => List.nodup_nil
  | j :: ks => by
    unfold dd
    split
    · exact dd_nodup ks
    · rename_i h
      exact List.nodup_cons.mpr ⟨fun m => h (any_mem.mpr (dd_mem.mp m)), dd_nodup ks⟩
theorem dd_len : ∀ ks : List Key, (dd ks).length ≤ ks.length
  | [] => Nat.le_refl _
  | k :: ks => by
    have := dd_len ks
    unfold dd
    split
    · rw [List.length_cons]; omega
    · rw [List.length_cons, List.length_cons]; omega
theorem perm_dd {L ks : List Key} (n : L.Nodup) (m : ∀ k, k ∈ L ↔ k ∈ ks) : L.Perm (dd ks) := by
  classical
  exact (List.perm_ext_iff_of_nodup n (dd_nodup ks)).mpr fun k => by rw [m k, dd_mem]
theorem leK_anti {L : List Key} (o : OneSort L) {a b : Key} (ha : a ∈ L) (hb : b ∈ L) (h1 : leK a b = true) (h2 : leK b a = true) : a = b := by
  rcases o with o | o
  · obtain ⟨i, rfl⟩ := o a ha
    obtain ⟨j, rfl⟩ := o b hb
    rw [leK_int, decide_eq_true_iff] at h1 h2
    have : i = j := by omega
    rw [this]
  · obtain ⟨i, rfl⟩ := o a ha
    obtain ⟨j, rfl⟩ := o b hb
    rw [leK_str, decide_eq_true_iff] at h1 h2
    have := List.le_antisymm h1 h2
    have e : i = j := by
      cases i
      cases j
      congr 1
      exact Array.toList_inj.mp this
    rw [e]
theorem sorted_dd {L ks : List Key} (o : OneSort ks) (n : L.Nodup) (m : ∀ k, k ∈ L ↔ k ∈ ks) (p : L.Pairwise (fun a b => leK a b = true)) : L = (dd ks).mergeSort leK := by
  have o2 : OneSort (dd ks) := o.imp (fun h k hk => h k (dd_mem.mp hk)) fun h k hk => h k (dd_mem.mp hk)
  have pm : L.Perm ((dd ks).mergeSort leK) := (perm_dd n m).trans (List.mergeSort_perm _ _).symm
  exact pm.eq_of_pairwise (fun a b ha hb h1 h2 => leK_anti o ((m a).mp ha) (dd_mem.mp ((List.mergeSort_perm _ _).mem_iff.mp hb)) h1 h2) p (sort_pair _ o2)
theorem keysO_rel {K : PySem.W.Frag} {mg : Str → Option Value} {F : Hp} : ∀ {vs : List V} {ds : List Dt} {ks : List Key}, RzAll K mg F vs ds → keysO ds = some ks → vs = ks.map kV ∧ ∀ k ∈ ks, Rz K mg F (kV k) (keyT k)
  | _, _, _, .nil, h => by cases h; exact ⟨rfl, fun _ h => absurd h List.not_mem_nil⟩
  | _, _, ks, .cons (d := d) (ds := ds) r t, h => by
    unfold keysO at h
    split at h
    · rename_i k ks' h1 h2
      cases h
      obtain ⟨e1, e2⟩ := keysO_rel t h2
      cases r <;> first | (cases h1; done) | skip
      all_goals (cases h1; refine ⟨by rw [e1]; rfl, fun j hj => ?_⟩; rcases List.mem_cons.mp hj with rfl | hj)
      · exact .int _
      · exact e2 j hj
      · exact .str _ (by assumption)
      · exact e2 j hj
    · cases h
theorem keysO_len : ∀ {ds : List Dt} {ks : List Key}, keysO ds = some ks → ks.length = ds.length
  | [], _, h => by cases h; rfl
  | d :: ds, ks, h => by
    unfold keysO at h
    split at h
    · rename_i h1 h2
      cases h
      rw [List.length_cons, List.length_cons, keysO_len h2]
    · cases h
theorem rza_keys {K : PySem.W.Frag} {mg : Str → Option Value} {F : Hp} : ∀ {L : List Key}, (∀ k ∈ L, Rz K mg F (kV k) (keyT k)) → RzAll K mg F (L.map kV) (L.map keyT)
  | [], _ => .nil
  | k :: L, h => .cons (h k List.mem_cons_self) (rza_keys fun j hj => h j (List.mem_cons_of_mem _ hj))
def seqO : Dt → Option (List Dt)
  | .list ds => some ds
  | .tuple ds => some ds
  | _ => Option.none
def ssetD (d : Dt) (q : Dt → Prop) : Prop := match (seqO d).bind keysO with
  | some ks => OneSort ks ∧ ks.length < 4000 ∧ q (.list (((dd ks).mergeSort leK).map keyT))
  | Option.none => False
def lsetD (d : Dt) (q : Dt → Prop) : Prop := match (seqO d).bind keysO with
  | some ks => ks.length < 4000 ∧ q (.int ((dd ks).length : Nat))
  | Option.none => False
def wSSet (w : WE) : WE := fun ρ b q qx => w ρ b (fun d b1 => ssetD d fun z => q z b1) qx
def wLSet (w : WE) : WE := fun ρ b q qx => w ρ b (fun d b1 => lsetD d fun z => q z b1) qx
section
variable {c : Cd} {te : TE} {we : WE} {w : World}
theorem pb_seqK {F H : Hp} {v : V} {d : Dt} {ks : List Key} (p : Pb c F H v d) (z : Ex F H) (e : (seqO d).bind keysO = some ks) : ∃ l, v = .ref l ∧ (SqL c.K H l (ks.map kV) ∨ SqT c.K H l (ks.map kV)) ∧ ∀ k ∈ ks, Rz c.K c.mg F (kV k) (keyT k) := by
  cases d <;> first | (cases e; done) | skip
  · obtain ⟨a, xs, rfl, hx, r, _⟩ := pb_lst p z
    obtain ⟨e1, e2⟩ := keysO_rel r e
    subst e1
    exact ⟨a, rfl, .inl (.of hx), e2⟩
  · obtain ⟨a, xs, rfl, hx, r, _⟩ := pb_tup p z
    obtain ⟨e1, e2⟩ := keysO_rel r e
    subst e1
    exact ⟨a, rfl, .inr (hx.ex z).sq, e2⟩
theorem snn_sset (h : SndB c te we) : SndN c (tCB (rSortedK w) (tCons (tCB (rSetOfK c.K w) (tCons te tNil)) tNil)) (wSSet we) := fun F0 H0 ρ b F H σ W q qx Q hw lx lk =>
  h F0 H0 ρ b F H σ W _ qx _ hw lx fun v d b1 F1 H1 h1 g1 W1 p => by
    unfold ssetD at h1
    split at h1
    · rename_i ks e
      obtain ⟨o, hl, hq⟩ := h1
      obtain ⟨l, rfl, hs, hr⟩ := pb_seqK p W1.z e
      refine ⟨l, ks, rfl, hs, hl, fun a ha => ⟨a, ks, rfl, upd_same, o, fun L p n m pw hp => ?_⟩⟩
      have G1 : Grow F1 H1 F1 (upd H1 a (SetKO w a ks)) := Grow.tmp W1.z ha
      have W2 := W1.grow G1
      have G2 : Grow F1 (upd H1 a (SetKO w a ks)) F1 (upd (upd H1 a (SetKO w a ks)) p (.lst (L.map kV))) := Grow.tmp W2.z hp
      have f := W2.far hp
      have e2 := sorted_dd o n m pw
      have hL : L.length ≤ 100000 := by
        have h2 := dd_len ks
        rw [e2, List.length_mergeSort]
        omega
      refine lk p _ b1 F1 _ hq ((g1.trans (FrRel.of G1)).trans (FrRel.of G2)) (W2.grow G2) ((g1.trans (FrRel.of G1)).back (N0.of hp)) f ?_
      rw [← e2]
      exact ⟨by rw [List.length_map]; exact hL, L.map kV, upd_same, rza_keys fun k hk => hr k ((m k).mp hk)⟩
    · exact h1.elim
theorem sn_lset (h : SndB c te we) : SndE c (tCB (rLenSetK w) (tCons (tCB (rSetOfK c.K w) (tCons te tNil)) tNil)) (wLSet we) := fun F0 H0 ρ b F H σ W q qx Q hw lx lk =>
  h F0 H0 ρ b F H σ W _ qx _ hw lx fun v d b1 F1 H1 h1 g1 W1 p => by
    unfold lsetD at h1
    split at h1
    · rename_i ks e
      obtain ⟨hl, hq⟩ := h1
      obtain ⟨l, rfl, hs, hr⟩ := pb_seqK p W1.z e
      refine ⟨l, ks, rfl, hs, hl, fun a ha => ⟨a, ks, rfl, upd_same, fun L n m => ?_⟩⟩
      have G1 : Grow F1 H1 F1 (upd H1 a (SetKO w a ks)) := Grow.tmp W1.z ha
      rw [(perm_dd n m).length_eq]
      exact lk _ _ b1 F1 _ hq (g1.trans (FrRel.of G1)) (W1.grow G1) (.int _)
    · exact h1.elim
end
end Dw
set_option Elab.async false
set_option linter.all false
set_option maxRecDepth 100000
set_option maxHeartbeats 4000000
/-! Data-level wp: enumerate of lists and tuples. -/
namespace Dw
open PySem PySem.Spec PyProof.Rows L2 Cn
section
variable {c : Cd} {tas : TA} {was : WA}
theorem it_enumT {S : Hp → Hp → Prop} {a : Addr} {xs : List V} {ds : List Dt} {F : Hp} (hl : ds.length ≤ 100000) (hs : ∀ F2 H2, S F2 H2 → SqT c.K H2 a xs) (r : RzAll c.K c.mg F xs ds) (hF : ∀ F2 H2, S F2 H2 → Ex F F2) : ItOk c true S (Itet c.K a) (enumD ds) := by
  have el : (enumD ds).length = xs.length := by unfold enumD; rw [List.length_map, List.length_zipIdx, rza_len r]
  refine ⟨by rw [el, rza_len r]; exact hl, _, _, by rw [el]; exact walk_enumT, hs, fun i d hd F2 H2 v H3 s z y => ?_⟩
  obtain ⟨T, x, y, rfl, hT, rfl, e1, e2⟩ := y
  cases e1
  obtain ⟨d', g1, g2⟩ := rza_get r e2
  unfold enumD at hd
  rw [List.getElem?_map, List.getElem?_zipIdx, g1] at hd
  have hd : some (Dt.tuple [.int ((0 + i : Nat) : Int), d']) = some d := hd
  rw [Nat.zero_add] at hd
  cases hd
  have G := Grow.tmp (o := .tup [.int (i : Nat), y]) z hT
  exact ⟨F2, G, .inr ⟨rfl, T, _, _, rfl, rfl, upd_same, .cons (.int _) (.cons (rz_ex (hF _ _ s) g2) .nil)⟩⟩
def wiEnumA (ws : WA) : WA := fun ρ b q qx => ws ρ b (fun ds b1 => match ds with
  | [.list xs] => q (enumD xs) b1
  | [.tuple xs] => q (enumD xs) b1
  | _ => False) qx
theorem sf_enumA (h : SndR c tas was 1) : SndF c true (iEnumA c.K tas) (wiEnumA was) := fun F0 H0 ρ b F H σ W q qx R hw lx l => h F0 H0 ρ b F H σ W _ qx _ hw lx fun vs ds b1 F1 H1 h1 _ g1 W1 p => by
  split at h1
  · cases p with
    | cons p t =>
      cases t
      cases p with
      | lst l1 hs t => exact .inl ⟨_, _, rfl, SqL.of (W1.z _ _ hs), l _ _ b1 F1 H1 h1 g1 W1 (it_enum l1 (fun F2 H2 s => SqL.of (s.2 _ _ (s.1 _ _ hs))) t fun _ _ s => s.1)⟩
  · cases p with
    | cons p t =>
      cases t
      cases p with
      | tup l1 hs t => exact .inr ⟨_, _, rfl, (hs.ex W1.z).sq, l _ _ b1 F1 H1 h1 g1 W1 (it_enumT l1 (fun F2 H2 s => (hs.ex (s.1.trans s.2)).sq) t fun _ _ s => s.1)⟩
  · exact h1.elim
end
end Dw
set_option Elab.async false
set_option linter.all false
set_option maxRecDepth 100000
set_option maxHeartbeats 4000000
/-! Data-level wp: x[::-1]. -/
namespace Dw
open PySem PySem.Spec PyProof.Rows L2 Cn
def revD : Op1
  | .list ds, q => q (.list ds.reverse)
  | .tuple ds, q => q (.tuple ds.reverse)
  | _, _ => False
theorem rza_rev {K : PySem.W.Frag} {mg : Str → Option Value} {F : Hp} : ∀ {vs : List V} {ds : List Dt}, RzAll K mg F vs ds → RzAll K mg F vs.reverse ds.reverse
  | _, _, .nil => .nil
  | _, _, .cons r t => by
    rw [List.reverse_cons, List.reverse_cons]
    exact rza_app (rza_rev t) (.cons r .nil)
theorem uo_rev {c : Cd} : UOk c (rRev c.K) revD := fun x d F H z p q Q hq k => by
  unfold revD at hq
  split at hq
  · obtain ⟨a, xs, rfl, hx, r, hl⟩ := pb_lst p z
    refine ⟨a, xs, rfl, .inl ⟨SqL.of hx, fun pp hp => ?_⟩⟩
    have G := Grow.new (o := .lst xs.reverse) z hp
    exact k _ _ _ _ hq G (.lst (by rw [List.length_reverse]; exact hl) upd_same (rza_ex G.ff (rza_rev r)))
  · obtain ⟨a, xs, rfl, hx, r, hl⟩ := pb_tup p z
    refine ⟨a, xs, rfl, .inr ⟨hx.ex z, fun pp o hp hd => ?_⟩⟩
    have G := Grow.new (o := .frz o (.tup xs.reverse)) z hp
    exact k _ _ _ _ hq G (.tup (by rw [List.length_reverse]; exact hl) (TupZ.of upd_same hd) (rza_ex G.ff (rza_rev r)))
  · exact hq.elim
/-! x.upper() -/
def wUpper (w : WE) : WE := fun ρ b q qx => w ρ b (fun d b1 => match d with
  | .str x => x.length ≤ 30000 ∧ q (.str (PySem.Txt.upper x)) b1
  | _ => False) qx
theorem sn_upper {c : Cd} {te : TE} {we : WE} (h : SndE c te we) : SndE c (tM0 (fun x xs H Q => ∃ a, x = .str a ∧ xs = [] ∧ a.length ≤ 5592405 ∧ Q (.str (PySem.Txt.upper a)) H) te) (wUpper we) := fun F0 H0 ρ b F H σ W q qx Q hw lx l => h F0 H0 ρ b F H σ W _ qx _ hw lx fun v d b1 F1 H1 h1 g1 W1 r => by
  cases r with
  | str x _ =>
    have := len_upper x
    exact ⟨⟨x, rfl⟩, x, rfl, rfl, by have := h1.1; omega, l _ _ b1 F1 H1 h1.2 g1 W1 (.str _ (by have := h1.1; omega))⟩
  | _ => exact h1.elim
end Dw
set_option Elab.async false
set_option linter.all false
set_option maxRecDepth 100000
set_option maxHeartbeats 4000000
/-! Over data: how a wp is shown. -/
namespace Dw
open PySem PySem.Spec PyProof.Rows L2 Cn LamX
theorem br_of {k : Bool} {A B : Prop} (h1 : k = true → A) (h2 : k = false → B) : br k A B := by
  cases k
  · exact h2 rfl
  · exact h1 rfl
theorem br_t {k : Bool} {A B : Prop} (e : k = true) (h : A) : br k A B := by subst e; exact h
theorem br_f {k : Bool} {A B : Prop} (e : k = false) (h : B) : br k A B := by subst e; exact h
abbrev FX : QX := fun _ _ => False
theorem lcW_fm {g : WG} {wt : WT} {we : WE} {ρ : Rho} (fo : Dt → Option Dt) : ∀ {ds : List Dt} (h : ∀ d ∈ ds, ∀ b (yes : Dt → Nat → Prop) (no : Nat → Prop), (match fo d with | some y => yes y b | none => no b) → g d ρ fun ρ2 => wt ρ2 b (fun k b1 => br k (we ρ2 b1 yes FX) (no b1)) FX) {b : Nat} {q : List Dt → Nat → Prop}, q (ds.filterMap fo) b → lcW g wt we ρ ds b q
  | [], _, b, q, hq => hq
  | d :: ds, h, b, q, hq => by
    unfold lcW
    refine h d List.mem_cons_self b _ _ ?_
    rw [List.filterMap_cons] at hq
    split at hq <;> rename_i e <;> rw [e] <;> exact lcW_fm fo (fun d hd => h d (List.mem_cons_of_mem _ hd)) hq
theorem lcW_map {g : WG} {we : WE} {ρ : Rho} (f : Dt → Dt) : ∀ {ds : List Dt} (h : ∀ d ∈ ds, ∀ b (yes : Dt → Nat → Prop), yes (f d) b → g d ρ fun ρ2 => we ρ2 b yes FX) {b : Nat} {q : List Dt → Nat → Prop}, q (ds.map f) b → lcW g wYes we ρ ds b q
  | [], _, b, q, hq => hq
  | d :: ds, h, b, q, hq => h d List.mem_cons_self b _ (lcW_map f (fun d hd => h d (List.mem_cons_of_mem _ hd)) hq)
/-- .. over things of a kind of one's own -/
theorem lcW_mapT {α : Type} {g : WG} {we : WE} {ρ : Rho} (c : α → Dt) (f : α → Dt) {xs : List α} (h : ∀ x ∈ xs, ∀ b (yes : Dt → Nat → Prop), yes (f x) b → g (c x) ρ fun ρ2 => we ρ2 b yes FX) {b : Nat} {q : List Dt → Nat → Prop} (hq : q (xs.map f) b) : lcW g wYes we ρ (xs.map c) b q := by
  induction xs generalizing b q with
  | nil => exact hq
  | cons x xs ih => exact h x List.mem_cons_self b _ (ih (fun d hd => h d (List.mem_cons_of_mem _ hd)) hq)
theorem lcW_fmT {α : Type} {g : WG} {wt : WT} {we : WE} {ρ : Rho} (c : α → Dt) (fo : α → Option Dt) {xs : List α} (h : ∀ x ∈ xs, ∀ b (yes : Dt → Nat → Prop) (no : Nat → Prop), (match fo x with | some y => yes y b | none => no b) → g (c x) ρ fun ρ2 => wt ρ2 b (fun k b1 => br k (we ρ2 b1 yes FX) (no b1)) FX) {b : Nat} {q : List Dt → Nat → Prop} (hq : q (xs.filterMap fo) b) : lcW g wt we ρ (xs.map c) b q := by
  induction xs generalizing b q with
  | nil => exact hq
  | cons x xs ih =>
    refine h x List.mem_cons_self b _ _ ?_
    rw [List.filterMap_cons] at hq
    split at hq <;> rename_i e <;> rw [e] <;> exact ih (fun d hd => h d (List.mem_cons_of_mem _ hd)) hq
/-! ### operators -/
theorem i_len {d : Dt} {n : Nat} {q : Dt → Prop} (e : lenO d = some n) (h : n ≤ 100000 → q (.int (n : Nat))) : lenD [d] q := by
  unfold lenD
  dsimp only
  rw [e]
  exact h
theorem i_eqI {i j : Int} {q : Dt → Prop} (h : q (.bool (decide (i = j)))) : eqD (.int i) (.int j) q := by
  refine ⟨by show PyData.depth (.int i) ≤ 60; unfold PyData.depth; omega, ?_⟩
  have e : PyData.eqv (.int i) (.int j) = decide (i = j) := by
    unfold PyData.eqv
    by_cases c : i = j <;> simp [c]
  rw [e]
  exact h
theorem i_neI {i j : Int} {q : Dt → Prop} (h : q (.bool (!decide (i = j)))) : neD (.int i) (.int j) q := by
  refine ⟨by show PyData.depth (.int i) ≤ 60; unfold PyData.depth; omega, ?_⟩
  have e : PyData.eqv (.int i) (.int j) = decide (i = j) := by
    unfold PyData.eqv
    by_cases c : i = j <;> simp [c]
  rw [e]
  exact h
theorem i_eq {d e : Dt} {x y : PyData} {q : Dt → Prop} (h1 : d.pl = some x) (h2 : e.pl = some y) (hd : x.depth ≤ 60) (h : q (.bool (PyData.eqv x y))) : eqD d e q := by
  unfold eqD
  rw [h1, h2]
  exact ⟨hd, h⟩
theorem i_ne {d e : Dt} {x y : PyData} {q : Dt → Prop} (h1 : d.pl = some x) (h2 : e.pl = some y) (hd : x.depth ≤ 60) (h : q (.bool (!PyData.eqv x y))) : neD d e q := by
  unfold neD
  rw [h1, h2]
  exact ⟨hd, h⟩
theorem i_ixL {ds : List Dt} {i : Int} {d : Dt} {q : Dt → Prop} (e : atI ds i = some d) (h : q d) : ixD (.list ds) (.int i) q := by
  unfold ixD
  dsimp only
  rw [e]
  exact h
theorem i_ixT {ds : List Dt} {i : Int} {d : Dt} {q : Dt → Prop} (e : atI ds i = some d) (h : q d) : ixD (.tuple ds) (.int i) q := by
  unfold ixD
  dsimp only
  rw [e]
  exact h
theorem i_ixS {x : Str} {i : Int} {k : Nat} {q : Dt → Prop} (e : atI x.cps.toList i = some k) (h : q (.str ⟨#[k]⟩)) : ixD (.str x) (.int i) q := by
  unfold ixD
  dsimp only
  rw [e]
  exact h
theorem i_all {ds : List Dt} {bs : List Bool} {q : Dt → Prop} (e : ds = bs.map .bool) (h : q (.bool (bs.all id))) : allD [.list ds] q := by
  subst e
  unfold allD
  dsimp only
  rw [boolsO_of]
  exact h
theorem i_any {ds : List Dt} {bs : List Bool} {q : Dt → Prop} (e : ds = bs.map .bool) (h : q (.bool (bs.any id))) : anyD [.list ds] q := by
  subst e
  unfold anyD
  dsimp only
  rw [boolsO_of]
  exact h
theorem i_tupleL {ds : List Dt} {q : Dt → Prop} (h : q (.tuple ds)) : tupleD [.list ds] q := h
theorem atI_ofNat {α : Type} {xs : List α} {j : Nat} {v : α} (h : xs[j]? = some v) : atI xs (j : Int) = some v := atI_nat h
/-- for x in things of a kind of one's own: by an invariant of what is left -/
theorem forW_ind {α : Type} {g : WG} {w : WS} {D : WEnds} (c : α → Dt) (I : List α → Rho → Nat → Prop) (h0 : ∀ ρ b, I [] ρ b → D.nx ρ b) (h1 : ∀ x xs ρ b, I (x :: xs) ρ b → ∀ (N : Rho → Nat → Prop), (∀ ρ b, I xs ρ b → N ρ b) → g (c x) ρ fun ρ2 => w { D with nx := N, ct := N, bk := D.nx } ρ2 b) : ∀ {xs : List α} {ρ : Rho} {b : Nat}, I xs ρ b → forW g w D (xs.map c) ρ b
  | [], ρ, b, i => h0 ρ b i
  | x :: xs, ρ, b, i => h1 x xs ρ b i _ fun ρ b j => forW_ind c I h0 h1 j
/-- while: by an invariant with a number that falls -/
theorem while_mk {wt : WT} {w : WS} {D : WEnds} {ρ : Rho} {b : Nat} (I : Nat → Rho → Nat → Prop) (m : Nat) (h0 : I m ρ b) (step : ∀ r ρ b, I r ρ b → ∀ (N : Rho → Nat → Prop), (∀ r' ρ b, r' < r → I r' ρ b → N ρ b) → wt ρ b (fun k b1 => br k (w { D with nx := N, ct := N, bk := D.nx } ρ b1) (D.nx ρ b1)) D.ex) : wWhile wt w D ρ b := by
  have key : ∀ n r ρ b, r < n → I r ρ b → whW wt w D n ρ b := by
    intro n
    induction n with
    | zero => intro r ρ b h; exact absurd h (Nat.not_lt_zero _)
    | succ n ih =>
      intro r ρ b h i
      exact step r ρ b i _ fun r' ρ b hr i' => ih r' ρ b (by omega) i'
  exact ⟨m + 1, key (m + 1) m ρ b (Nat.lt_succ_self _) h0⟩
/-- a statement that leaves all as it is, then the rest -/
theorem seq_keep {w u : WS} {D : WEnds} {ρ : Rho} {b : Nat} (hw : ∀ N : Rho → Nat → Prop, N ρ b → w { D with nx := N } ρ b) (h : u D ρ b) : wSeq w u D ρ b := hw _ h
end Dw
set_option Elab.async false
set_option linter.all false
set_option maxRecDepth 100000
set_option maxHeartbeats 4000000
/-! Over data: the equations by which a wp is run. -/
namespace Dw
open PySem PySem.Spec PyProof.Rows L2 Cn LamX
def drawD (d : Dt) (b : Nat) (q : QD) : Prop := match d, b with
  | .int n, b2 + 1 => 0 < n ∧ n < 1000000000 ∧ ∀ r, 0 ≤ r → r < n → q (.int r) b2
  | _, _ => False
def parD (is : List Nat) (ss : List Sv) (ρ : Rho) (k : Rho → Prop) : Prop := is.length = ss.length ∧ k (puts ρ is ss)
def joinD (a : Str) (d : Dt) (q : Dt → Prop) : Prop := match itemsOf d with
  | some ds => (match strsO ds with
    | some ys => ((ys.map (·.length)).sum + ys.length * a.length ≤ 100000 ∧ (PySem.Txt.join a ys).length ≤ 100000) ∧ q (.str (PySem.Txt.join a ys))
    | Option.none => False)
  | Option.none => False
def dispD (ps : List (Dt × Dt)) (q : Dt → Prop) : Prop := match keysD ps with
  | some kvs => q (.dict (mergeD [] kvs))
  | Option.none => False
def sortItD (d : Dt) (q : Dt → Prop) : Prop := match d with
  | .dict kvs => (match itemsI kvs with
    | some ks => (ks.length ≤ 1000 ∧ ∀ p ∈ ks, p.1.length ≤ 100000) ∧ q (.list ((ks.mergeSort leP).map prT))
    | Option.none => False)
  | _ => False
def seqD (d : Dt) (q : List Dt → Prop) : Prop := match walkOf d with
  | some ds => q ds
  | Option.none => False
def rng1D (ds : List Dt) (q : List Dt → Prop) : Prop := match ds with
  | [.int n] => (-100000 ≤ n ∧ n ≤ 100000) ∧ q (natD 0 n.toNat)
  | _ => False
def rng2D (ds : List Dt) (q : List Dt → Prop) : Prop := match ds with
  | [.int m, .int n] => ((-(2 ^ 62) ≤ m ∧ m < 2 ^ 62 ∧ -(2 ^ 62) ≤ n ∧ n < 2 ^ 62) ∧ n - m ≤ 100000) ∧ q (natD m (n - m).toNat)
  | _ => False
def enumsAD (ds : List Dt) (q : List Dt → Prop) : Prop := match ds with
  | [.list xs] => q (enumD xs)
  | [.tuple xs] => q (enumD xs)
  | _ => False
def enumsD (ds : List Dt) (q : List Dt → Prop) : Prop := match ds with
  | [.list xs] => q (enumD xs)
  | _ => False
def zipsD (ds : List Dt) (q : List Dt → Prop) : Prop := match ds with
  | [.list xs, .list ys] => q (zipD xs ys)
  | _ => False
def setLD (ds : List Dt) (k d : Dt) (q : List Dt → Prop) : Prop := match k with
  | .int n => (match setAt ds n d with
    | some ds2 => q ds2
    | Option.none => False)
  | _ => False
theorem i_draw {n : Int} {b : Nat} {q : QD} (h0 : 0 < n) (h1 : n < 1000000000) (hb : 1 ≤ b) (h : ∀ r, 0 ≤ r → r < n → q (.int r) (b - 1)) : drawD (.int n) b q := by
  cases b with
  | zero => omega
  | succ b => exact ⟨h0, h1, h⟩
theorem i_join {a : Str} {d : Dt} {ys : List Str} {q : Dt → Prop} (e : itemsOf d = some (ys.map .str)) (h1 : (ys.map (·.length)).sum + ys.length * a.length ≤ 100000) (h2 : (PySem.Txt.join a ys).length ≤ 100000) (h : q (.str (PySem.Txt.join a ys))) : joinD a d q := by
  unfold joinD
  rw [e]
  dsimp only
  rw [strsO_of]
  exact ⟨⟨h1, h2⟩, h⟩
theorem i_sortIt {kvs : List (Key × Dt)} {ks : List (Str × Int)} {q : Dt → Prop} (e : itemsI kvs = some ks) (h1 : ks.length ≤ 1000) (h2 : ∀ p ∈ ks, p.1.length ≤ 100000) (h : q (.list ((ks.mergeSort leP).map prT))) : sortItD (.dict kvs) q := by
  unfold sortItD
  dsimp only
  rw [e]
  exact ⟨⟨h1, h2⟩, h⟩
theorem i_setL {ds es : List Dt} {n : Int} {d : Dt} {q : List Dt → Prop} (e : setAt ds n d = some es) (h : q es) : setLD ds (.int n) d q := by
  unfold setLD
  dsimp only
  rw [e]
  exact h
theorem i_dict {d : Dt} {ds : List Dt} {ps : List (Key × Dt)} {q : Dt → Prop} (e1 : itemsOf d = some ds) (e2 : pairsO ds = some ps) (h : q (.dict (kvMerge [] ps))) : dictD [d] q := by
  unfold dictD
  dsimp only
  rw [e1]
  dsimp only
  rw [e2]
  exact h
theorem i_seqT {d : Dt} {ds : List Dt} {q : List Dt → Prop} (e : walkOf d = some ds) (h : q ds) : seqD d q := by
  unfold seqD
  rw [e]
  exact h
/-- one statement, then the rest -/
theorem seq_mk {w u : WS} {D : WEnds} {ρ : Rho} {b : Nat} (h : ∀ N : Rho → Nat → Prop, (∀ ρ b, u D ρ b → N ρ b) → w { D with nx := N } ρ b) : wSeq w u D ρ b := h _ fun _ _ h => h
theorem e_var {i : Nat} {ρ : Rho} {b : Nat} {q : QD} {qx : QX} : wVar i ρ b q qx = (match at_ ρ i with | some (.sh d) => q d b | _ => False) := (rfl)
theorem e_varB {i : Nat} {ρ : Rho} {b : Nat} {q : QD} {qx : QX} : wVarB i ρ b q qx = (match at_ ρ i with | some (.sh d) => q d b | some (.ow d) => q d b | _ => False) := (rfl)
theorem e_c {d : Dt} {ρ : Rho} {b : Nat} {q : QD} {qx : QX} : wC d ρ b q qx = (q d b) := (rfl)
theorem e_op {f : Op2} {wa wb : WE} {ρ : Rho} {b : Nat} {q : QD} {qx : QX} : wOp f wa wb ρ b q qx = (wa ρ b (fun x b1 => wb ρ b1 (fun y b2 => f x y fun z => q z b2) qx) qx) := (rfl)
theorem e_un {f : Op1} {wa : WE} {ρ : Rho} {b : Nat} {q : QD} {qx : QX} : wUn f wa ρ b q qx = (wa ρ b (fun x b1 => f x fun z => q z b1) qx) := (rfl)
theorem e_isB {k : Bool} {p : Bool → Prop} : isB (.bool k) p = (p k) := (rfl)
theorem e_test {w : WE} {ρ : Rho} {b : Nat} {q : Bool → Nat → Prop} {qx : QX} : wTest w ρ b q qx = (w ρ b (fun d b1 => isB d fun k => q k b1) qx) := (rfl)
theorem e_not {w : WT} {ρ : Rho} {b : Nat} {q : Bool → Nat → Prop} {qx : QX} : wNot w ρ b q qx = (w ρ b (fun k b1 => q (!k) b1) qx) := (rfl)
theorem e_and {w u : WT} {ρ : Rho} {b : Nat} {q : Bool → Nat → Prop} {qx : QX} : wAnd w u ρ b q qx = (w ρ b (fun k b1 => br k (u ρ b1 q qx) (q false b1)) qx) := (rfl)
theorem e_or {w u : WT} {ρ : Rho} {b : Nat} {q : Bool → Nat → Prop} {qx : QX} : wOr w u ρ b q qx = (w ρ b (fun k b1 => br k (q true b1) (u ρ b1 q qx)) qx) := (rfl)
theorem e_yes {ρ : Rho} {b : Nat} {q : Bool → Nat → Prop} {qx : QX} : wYes ρ b q qx = (q true b) := (rfl)
theorem e_notV {w : WE} {ρ : Rho} {b : Nat} {q : QD} {qx : QX} : wNotV w ρ b q qx = (w ρ b (fun d b1 => isB d fun k => q (.bool (!k)) b1) qx) := (rfl)
theorem e_andV {w u : WE} {ρ : Rho} {b : Nat} {q : QD} {qx : QX} : wAndV w u ρ b q qx = (w ρ b (fun d b1 => isB d fun k => br k (u ρ b1 q qx) (q (.bool false) b1)) qx) := (rfl)
theorem e_orV {w u : WE} {ρ : Rho} {b : Nat} {q : QD} {qx : QX} : wOrV w u ρ b q qx = (w ρ b (fun d b1 => isB d fun k => br k (q (.bool true) b1) (u ρ b1 q qx)) qx) := (rfl)
theorem e_if {wt : WT} {wa wb : WE} {ρ : Rho} {b : Nat} {q : QD} {qx : QX} : wIf wt wa wb ρ b q qx = (wt ρ b (fun k b1 => br k (wa ρ b1 q qx) (wb ρ b1 q qx)) qx) := (rfl)
theorem e_chain {f g : Op2} {wa wb wc : WE} {ρ : Rho} {b : Nat} {q : QD} {qx : QX} : wChain f g wa wb wc ρ b q qx = (wa ρ b (fun x b1 => wb ρ b1 (fun y b2 => f x y fun z => isB z fun k => br k (wc ρ b2 (fun w b3 => g y w fun z => q z b3) qx) (q (.bool false) b2)) qx) qx) := (rfl)
theorem e_nil {ρ : Rho} {b : Nat} {q : List Dt → Nat → Prop} {qx : QX} : wNil ρ b q qx = (q [] b) := (rfl)
theorem e_cons {w : WE} {ws : WA} {ρ : Rho} {b : Nat} {q : List Dt → Nat → Prop} {qx : QX} : wCons w ws ρ b q qx = (w ρ b (fun d b1 => ws ρ b1 (fun ds b2 => q (d :: ds) b2) qx) qx) := (rfl)
theorem e_cb {f : List Dt → (Dt → Prop) → Prop} {ws : WA} {ρ : Rho} {b : Nat} {q : QD} {qx : QX} : wCB f ws ρ b q qx = (ws ρ b (fun ds b1 => f ds fun z => q z b1) qx) := (rfl)
theorem e_tup {ws : WA} {ρ : Rho} {b : Nat} {q : QD} {qx : QX} : wTup ws ρ b q qx = (ws ρ b (fun ds b1 => q (.tuple ds) b1) qx) := (rfl)
theorem e_lst {ws : WA} {ρ : Rho} {b : Nat} {q : QD} {qx : QX} : wLst ws ρ b q qx = (ws ρ b (fun ds b1 => q (.list ds) b1) qx) := (rfl)
theorem e_d0 {ρ : Rho} {b : Nat} {q : QD} {qx : QX} : wD0 ρ b q qx = (q (.dict []) b) := (rfl)
theorem e_lc {wi : WA} {g : WG} {wt : WT} {we : WE} {vs : List Nat} {ρ : Rho} {b : Nat} {q : QD} {qx : QX} : wLc wi g wt we vs ρ b q qx = (wi ρ b (fun ds b1 => lcW g wt we (wipeR ρ vs) ds b1 fun r b2 => q (.list r) b2) qx) := (rfl)
theorem e_dget {wd wk : WE} {ρ : Rho} {b : Nat} {q : QD} {qx : QX} : wDGet wd wk ρ b q qx = (wd ρ b (fun x b1 => wk ρ b1 (fun y b2 => dgetD x y fun z => q z b2) qx) qx) := (rfl)
theorem e_dget1 {wd wk : WE} {ρ : Rho} {b : Nat} {q : QD} {qx : QX} : wDGet1 wd wk ρ b q qx = (wd ρ b (fun d b1 => match d with | .dict kvs => wk ρ b1 (fun k b2 => match keyD k with | some key => q ((kvGet kvs key).getD .none) b2 | Option.none => False) qx | _ => False) qx) := (rfl)
theorem e_dget2 {wd wk we : WE} {ρ : Rho} {b : Nat} {q : QD} {qx : QX} : wDGet2 wd wk we ρ b q qx = (wd ρ b (fun d b1 => match d with | .dict kvs => wk ρ b1 (fun k b2 => we ρ b2 (fun x b3 => match keyD k with | some key => q ((kvGet kvs key).getD x) b3 | Option.none => False) qx) qx | _ => False) qx) := (rfl)
theorem e_isi {T : Bt} {w : WE} {ρ : Rho} {b : Nat} {q : QD} {qx : QX} : wIsi T w ρ b q qx = (w ρ b (fun d b1 => match isiD T d with | some k => q (.bool k) b1 | Option.none => False) qx) := (rfl)
theorem e_isi2 {T S : Bt} {w : WE} {ρ : Rho} {b : Nat} {q : QD} {qx : QX} : wIsi2 T S w ρ b q qx = (w ρ b (fun d b1 => match isiD T d, isiD S d with | some k, some j => q (.bool (k || j)) b1 | _, _ => False) qx) := (rfl)
theorem e_m0 {g : Str → Bool} {w : WE} {ρ : Rho} {b : Nat} {q : QD} {qx : QX} : wM0 g w ρ b q qx = (w ρ b (fun d b1 => match d with | .str x => q (.bool (g x)) b1 | _ => False) qx) := (rfl)
theorem e_call {W : WF} {ws : WA} {ρ : Rho} {b : Nat} {q : QD} {qx : QX} : wCall W ws ρ b q qx = (ws ρ b (fun ds b1 => W ds (fun d => q d b1) fun x => qx x b1) qx) := (rfl)
theorem e_call0 {W : WF} {ws : WA} {ρ : Rho} {b : Nat} {q : QD} {qx : QX} : wCall0 W ws ρ b q qx = (ws ρ b (fun ds b1 => W ds (fun d => q d b1) fun _ => False) qx) := (rfl)
theorem e_callS {i : Nat} {W : WFS} {ws : WA} {ρ : Rho} {b : Nat} {q : QD} {qx : QX} : wCallS i W ws ρ b q qx = (match at_ ρ i with | some .st => ws ρ b (fun ds b1 => W ds b1 q qx) qx | _ => False) := (rfl)
theorem e_callS0 {i : Nat} {W : WFS} {ws : WA} {ρ : Rho} {b : Nat} {q : QD} {qx : QX} : wCallS0 i W ws ρ b q qx = (match at_ ρ i with | some .st => ws ρ b (fun ds b1 => W ds b1 q fun _ _ => False) qx | _ => False) := (rfl)
theorem e_draw {i : Nat} {w : WE} {ρ : Rho} {b : Nat} {q : QD} {qx : QX} : wDraw i w ρ b q qx = (match at_ ρ i with | some .st => w ρ b (fun d b1 => drawD d b1 q) qx | _ => False) := (rfl)
theorem e_sl {f : SlOp} {we : WE} {wl wh : WO} {ρ : Rho} {b : Nat} {q : QD} {qx : QX} : wSl f we wl wh ρ b q qx = (we ρ b (fun d b1 => wl ρ b1 (fun l b2 => wh ρ b2 (fun u b3 => f d l u fun z => q z b3) qx) qx) qx) := (rfl)
theorem e_noPart {ρ : Rho} {b : Nat} {q : Option Int → Nat → Prop} {qx : QX} : wNoPart ρ b q qx = (q none b) := (rfl)
theorem e_part {w : WE} {ρ : Rho} {b : Nat} {q : Option Int → Nat → Prop} {qx : QX} : wPart w ρ b q qx = (w ρ b (fun d b1 => match d with | .int i => q (some i) b1 | _ => False) qx) := (rfl)
theorem e_join {wo we : WE} {ρ : Rho} {b : Nat} {q : QD} {qx : QX} : wJoin wo we ρ b q qx = (wo ρ b (fun x b1 => match x with | .str a => we ρ b1 (fun d b2 => joinD a d fun z => q z b2) qx | _ => False) qx) := (rfl)
theorem e_sortIt {w : WE} {ρ : Rho} {b : Nat} {q : QD} {qx : QX} : wSortIt w ρ b q qx = (w ρ b (fun d b1 => sortItD d fun z => q z b1) qx) := (rfl)
theorem e_upper {w : WE} {ρ : Rho} {b : Nat} {q : QD} {qx : QX} : wUpper w ρ b q qx = (w ρ b (fun d b1 => match d with | .str x => x.length ≤ 30000 ∧ q (.str (PySem.Txt.upper x)) b1 | _ => False) qx) := (rfl)
theorem e_sset {w : WE} {ρ : Rho} {b : Nat} {q : QD} {qx : QX} : wSSet w ρ b q qx = (w ρ b (fun d b1 => ssetD d fun z => q z b1) qx) := (rfl)
theorem e_lset {w : WE} {ρ : Rho} {b : Nat} {q : QD} {qx : QX} : wLSet w ρ b q qx = (w ρ b (fun d b1 => lsetD d fun z => q z b1) qx) := (rfl)
theorem e_errP {x : Str} {w : WE} {ρ : Rho} {b : Nat} {q : QD} {qx : QX} : wErrP x w ρ b q qx = (w ρ b (fun _ b1 => q (.err x []) b1) qx) := (rfl)
theorem e_errJ {x f : Str} {w : WE} {ρ : Rho} {b : Nat} {q : QD} {qx : QX} : wErrJ x f w ρ b q qx = (w ρ b (fun d b1 => q (.err x [(f, d)]) b1) qx) := (rfl)
theorem e_isE {sub : Str → Str → Option Bool} {t : Str} {w : WE} {ρ : Rho} {b : Nat} {q : QD} {qx : QX} : wIsE sub t w ρ b q qx = (w ρ b (fun d b1 => match d with | .err x _ => (match sub x t with | some k => q (.bool k) b1 | Option.none => False) | _ => False) qx) := (rfl)
theorem e_fld {fl : Str → Option Str} {f : Str} {w : WE} {ρ : Rho} {b : Nat} {q : QD} {qx : QX} : wFld fl f w ρ b q qx = (w ρ b (fun d b1 => match d with | .err x [(g, v)] => (fl x = some f ∧ g = f) ∧ q v b1 | _ => False) qx) := (rfl)
theorem e_err {es : List Str} {w : WE} {ρ : Rho} {b : Nat} {q : QD} {qx : QX} : wErr es w ρ b q qx = (w (noOw ρ) b (fun _ b1 => q .none b1) fun x b1 => es.contains x.c = true ∧ q (.err x.c x.fs) b1) := (rfl)
theorem e_kw {is : List Nat} {w wk : WA} {ρ : Rho} {b : Nat} {q : List Dt → Nat → Prop} {qx : QX} : wKw is w wk ρ b q qx = (w ρ b (fun xs b1 => wk ρ b1 (fun ys b2 => q (permL is (xs ++ ys)) b2) qx) qx) := (rfl)
theorem e_noOw0  : noOw [] = ([]) := (rfl)
theorem e_noOwO {d : Dt} {ρ : Rho} : noOw (some (.ow d) :: ρ) = (none :: noOw ρ) := (rfl)
theorem e_noOwS {d : Dt} {ρ : Rho} : noOw (some (.sh d) :: ρ) = (some (.sh d) :: noOw ρ) := (rfl)
theorem e_noOwT {ρ : Rho} : noOw (some .st :: ρ) = (some .st :: noOw ρ) := (rfl)
theorem e_noOwC {n : Nat} {ρ : Rho} : noOw (some (.sc n) :: ρ) = (some (.sc n) :: noOw ρ) := (rfl)
theorem e_noOwN {ρ : Rho} : noOw (none :: ρ) = (none :: noOw ρ) := (rfl)
theorem e_wpNil {ρ : Rho} {b : Nat} {q : QP} {qx : QX} : wpNil ρ b q qx = (q [] b) := (rfl)
theorem e_wpCons {k v : WE} {r : WP} {ρ : Rho} {b : Nat} {q : QP} {qx : QX} : wpCons k v r ρ b q qx = (k ρ b (fun x b1 => v ρ b1 (fun y b2 => r ρ b2 (fun ps b3 => q ((x, y) :: ps) b3) qx) qx) qx) := (rfl)
theorem e_disp {w : WP} {ρ : Rho} {b : Nat} {q : QD} {qx : QX} : wDisp w ρ b q qx = (w ρ b (fun ps b1 => dispD ps fun z => q z b1) qx) := (rfl)
theorem e_disp1 {x : Str} {d : Dt} {q : Dt → Prop} : dispD [(.str x, d)] q = (q (.dict [(.inr x, d)])) := (rfl)
theorem e_inS {k : Nat} {z : Str} {q : Dt → Prop} : inSD false (.str ⟨#[k]⟩) (.str z) q = (q (.bool (decide (k ∈ z.cps.toList)))) := (rfl)
theorem e_notInS {k : Nat} {z : Str} {q : Dt → Prop} : inSD true (.str ⟨#[k]⟩) (.str z) q = (q (.bool (!decide (k ∈ z.cps.toList)))) := (rfl)
theorem e_lenSc {i : Nat} {ρ : Rho} {b : Nat} {q : QD} {qx : QX} : wLenSc i ρ b q qx = (match at_ ρ i with | some (.sc n) => q (.int (n : Nat)) b | _ => False) := (rfl)
theorem e_iSeq {w : WE} {ρ : Rho} {b : Nat} {q : List Dt → Nat → Prop} {qx : QX} : wiSeq w ρ b q qx = (w ρ b (fun d b1 => seqD d fun ds => q ds b1) qx) := (rfl)
theorem e_iR1 {ws : WA} {ρ : Rho} {b : Nat} {q : List Dt → Nat → Prop} {qx : QX} : wiR1 ws ρ b q qx = (ws ρ b (fun ds b1 => rng1D ds fun es => q es b1) qx) := (rfl)
theorem e_iR2 {ws : WA} {ρ : Rho} {b : Nat} {q : List Dt → Nat → Prop} {qx : QX} : wiR2 ws ρ b q qx = (ws ρ b (fun ds b1 => rng2D ds fun es => q es b1) qx) := (rfl)
theorem e_iEnum {ws : WA} {ρ : Rho} {b : Nat} {q : List Dt → Nat → Prop} {qx : QX} : wiEnum ws ρ b q qx = (ws ρ b (fun ds b1 => enumsD ds fun es => q es b1) qx) := (rfl)
theorem e_iEnumA {ws : WA} {ρ : Rho} {b : Nat} {q : List Dt → Nat → Prop} {qx : QX} : wiEnumA ws ρ b q qx = (ws ρ b (fun ds b1 => enumsAD ds fun es => q es b1) qx) := (rfl)
theorem e_iZip {ws : WA} {ρ : Rho} {b : Nat} {q : List Dt → Nat → Prop} {qx : QX} : wiZip ws ρ b q qx = (ws ρ b (fun ds b1 => zipsD ds fun es => q es b1) qx) := (rfl)
theorem e_gName {i : Nat} {d : Dt} {ρ : Rho} {k : Rho → Prop} : wgName i d ρ k = (k (put ρ i (some (.sh d)))) := (rfl)
theorem e_gNil {ds : List Dt} {ρ : Rho} {k : Rho → Prop} : wgNil ds ρ k = (match ds with | [] => k ρ | _ => False) := (rfl)
theorem e_gCons {g : WG} {gs : WGs} {ds : List Dt} {ρ : Rho} {k : Rho → Prop} : wgCons g gs ds ρ k = (match ds with | d :: ds => g d ρ fun ρ2 => gs ds ρ2 k | [] => False) := (rfl)
theorem e_gTup1 {gs : WGs} {d0 : Dt} {ρ : Rho} {k : Rho → Prop} : wgTup 1 gs (.tuple [d0]) ρ k = (gs [d0] ρ k) := (rfl)
theorem e_gLst1 {gs : WGs} {d0 : Dt} {ρ : Rho} {k : Rho → Prop} : wgLst 1 gs (.list [d0]) ρ k = (gs [d0] ρ k) := (rfl)
theorem e_gTup2 {gs : WGs} {d0 d1 : Dt} {ρ : Rho} {k : Rho → Prop} : wgTup 2 gs (.tuple [d0, d1]) ρ k = (gs [d0, d1] ρ k) := (rfl)
theorem e_gLst2 {gs : WGs} {d0 d1 : Dt} {ρ : Rho} {k : Rho → Prop} : wgLst 2 gs (.list [d0, d1]) ρ k = (gs [d0, d1] ρ k) := (rfl)
theorem e_gTup3 {gs : WGs} {d0 d1 d2 : Dt} {ρ : Rho} {k : Rho → Prop} : wgTup 3 gs (.tuple [d0, d1, d2]) ρ k = (gs [d0, d1, d2] ρ k) := (rfl)
theorem e_gLst3 {gs : WGs} {d0 d1 d2 : Dt} {ρ : Rho} {k : Rho → Prop} : wgLst 3 gs (.list [d0, d1, d2]) ρ k = (gs [d0, d1, d2] ρ k) := (rfl)
theorem e_gTup4 {gs : WGs} {d0 d1 d2 d3 : Dt} {ρ : Rho} {k : Rho → Prop} : wgTup 4 gs (.tuple [d0, d1, d2, d3]) ρ k = (gs [d0, d1, d2, d3] ρ k) := (rfl)
theorem e_gLst4 {gs : WGs} {d0 d1 d2 d3 : Dt} {ρ : Rho} {k : Rho → Prop} : wgLst 4 gs (.list [d0, d1, d2, d3]) ρ k = (gs [d0, d1, d2, d3] ρ k) := (rfl)
theorem e_gTup5 {gs : WGs} {d0 d1 d2 d3 d4 : Dt} {ρ : Rho} {k : Rho → Prop} : wgTup 5 gs (.tuple [d0, d1, d2, d3, d4]) ρ k = (gs [d0, d1, d2, d3, d4] ρ k) := (rfl)
theorem e_gLst5 {gs : WGs} {d0 d1 d2 d3 d4 : Dt} {ρ : Rho} {k : Rho → Prop} : wgLst 5 gs (.list [d0, d1, d2, d3, d4]) ρ k = (gs [d0, d1, d2, d3, d4] ρ k) := (rfl)
theorem e_next {D : WEnds} {ρ : Rho} {b : Nat} : wNext D ρ b = (D.nx ρ b) := (rfl)
theorem e_ret {w : WE} {D : WEnds} {ρ : Rho} {b : Nat} : wRet w D ρ b = (w ρ b D.rt D.ex) := (rfl)
theorem e_retN {D : WEnds} {ρ : Rho} {b : Nat} : wRetN D ρ b = (D.rt .none b) := (rfl)
theorem e_ifS {wt : WT} {w u : WS} {D : WEnds} {ρ : Rho} {b : Nat} : wIfS wt w u D ρ b = (wt ρ b (fun k b1 => br k (w D ρ b1) (u D ρ b1)) D.ex) := (rfl)
theorem e_drop {w : WE} {D : WEnds} {ρ : Rho} {b : Nat} : wDrop w D ρ b = (w ρ b (fun _ b1 => D.nx ρ b1) D.ex) := (rfl)
theorem e_break {D : WEnds} {ρ : Rho} {b : Nat} : wBreak D ρ b = (D.bk ρ b) := (rfl)
theorem e_cont {D : WEnds} {ρ : Rho} {b : Nat} : wCont D ρ b = (D.ct ρ b) := (rfl)
theorem e_asg {w : WE} {g : WG} {D : WEnds} {ρ : Rho} {b : Nat} : wAsg w g D ρ b = (w ρ b (fun d b1 => g d ρ fun ρ2 => D.nx ρ2 b1) D.ex) := (rfl)
theorem e_asgN {w : WE} {i : Nat} {D : WEnds} {ρ : Rho} {b : Nat} : wAsgN w i D ρ b = (w ρ b (fun d b1 => D.nx (put ρ i (some (.ow d))) b1) D.ex) := (rfl)
theorem e_frz {w : WS} {i : Nat} {D : WEnds} {ρ : Rho} {b : Nat} : wFrz i w D ρ b = (match at_ ρ i with | some (.ow d) => w D (put ρ i (some (.sh d))) b | _ => False) := (rfl)
theorem e_mNil {ρ : Rho} {b : Nat} {q : List Sv → Nat → Prop} {qx : QX} : wMNil ρ b q qx = (q [] b) := (rfl)
theorem e_mSh {w : WE} {ws : WM} {ρ : Rho} {b : Nat} {q : List Sv → Nat → Prop} {qx : QX} : wMSh w ws ρ b q qx = (w ρ b (fun d b1 => ws ρ b1 (fun ss b2 => q (.sh d :: ss) b2) qx) qx) := (rfl)
theorem e_mOw {w : WE} {ws : WM} {ρ : Rho} {b : Nat} {q : List Sv → Nat → Prop} {qx : QX} : wMOw w ws ρ b q qx = (w ρ b (fun d b1 => ws ρ b1 (fun ss b2 => q (.ow d :: ss) b2) qx) qx) := (rfl)
theorem e_parM2 {D : WEnds} {ρ : Rho} {b : Nat} {i0 i1 : Nat} {ws : WM} : wParM [i0, i1] ws D ρ b = ws ρ b (fun ss b1 => parD [i0, i1] ss ρ fun ρ2 => D.nx ρ2 b1) D.ex := (rfl)
theorem e_parD2 {i0 i1 : Nat} {x0 x1 : Sv} {ρ : Rho} {k : Rho → Prop} : parD [i0, i1] [x0, x1] ρ k = ([i0, i1].length = [x0, x1].length ∧ k (put (put (ρ) i0 (some x0)) i1 (some x1))) := (rfl)
theorem e_parE2 {i0 i1 : Nat} {x0 x1 : Sv} {ρ : Rho} {k : Rho → Prop} : parD [i0, i1] [x0, x1] ρ k = k (put (put (ρ) i0 (some x0)) i1 (some x1)) := propext ⟨fun h => h.2, fun h => ⟨rfl, h⟩⟩
theorem e_parM3 {D : WEnds} {ρ : Rho} {b : Nat} {i0 i1 i2 : Nat} {ws : WM} : wParM [i0, i1, i2] ws D ρ b = ws ρ b (fun ss b1 => parD [i0, i1, i2] ss ρ fun ρ2 => D.nx ρ2 b1) D.ex := (rfl)
theorem e_parD3 {i0 i1 i2 : Nat} {x0 x1 x2 : Sv} {ρ : Rho} {k : Rho → Prop} : parD [i0, i1, i2] [x0, x1, x2] ρ k = ([i0, i1, i2].length = [x0, x1, x2].length ∧ k (put (put (put (ρ) i0 (some x0)) i1 (some x1)) i2 (some x2))) := (rfl)
theorem e_parE3 {i0 i1 i2 : Nat} {x0 x1 x2 : Sv} {ρ : Rho} {k : Rho → Prop} : parD [i0, i1, i2] [x0, x1, x2] ρ k = k (put (put (put (ρ) i0 (some x0)) i1 (some x1)) i2 (some x2)) := propext ⟨fun h => h.2, fun h => ⟨rfl, h⟩⟩
theorem e_parM4 {D : WEnds} {ρ : Rho} {b : Nat} {i0 i1 i2 i3 : Nat} {ws : WM} : wParM [i0, i1, i2, i3] ws D ρ b = ws ρ b (fun ss b1 => parD [i0, i1, i2, i3] ss ρ fun ρ2 => D.nx ρ2 b1) D.ex := (rfl)
theorem e_parD4 {i0 i1 i2 i3 : Nat} {x0 x1 x2 x3 : Sv} {ρ : Rho} {k : Rho → Prop} : parD [i0, i1, i2, i3] [x0, x1, x2, x3] ρ k = ([i0, i1, i2, i3].length = [x0, x1, x2, x3].length ∧ k (put (put (put (put (ρ) i0 (some x0)) i1 (some x1)) i2 (some x2)) i3 (some x3))) := (rfl)
theorem e_parE4 {i0 i1 i2 i3 : Nat} {x0 x1 x2 x3 : Sv} {ρ : Rho} {k : Rho → Prop} : parD [i0, i1, i2, i3] [x0, x1, x2, x3] ρ k = k (put (put (put (put (ρ) i0 (some x0)) i1 (some x1)) i2 (some x2)) i3 (some x3)) := propext ⟨fun h => h.2, fun h => ⟨rfl, h⟩⟩
theorem e_append {w : WE} {i : Nat} {D : WEnds} {ρ : Rho} {b : Nat} : wAppend i w D ρ b = (match at_ ρ i with | some (.ow (.list ds)) => w ρ b (fun d b1 => ds.length < 100000 ∧ D.nx (put ρ i (some (.ow (.list (ds ++ [d]))))) b1) D.ex | _ => False) := (rfl)
theorem e_for {wi : WA} {g : WG} {w : WS} {D : WEnds} {ρ : Rho} {b : Nat} : wFor wi g w D ρ b = (wi ρ b (fun ds b1 => forW g w D ds ρ b1) D.ex) := (rfl)
theorem e_dput {i : Nat} {wk we : WE} {D : WEnds} {ρ : Rho} {b : Nat} : wDPut i wk we D ρ b = (match at_ ρ i with | some (.ow (.dict ds)) => we ρ b (fun d b1 => wk ρ b1 (fun k b2 => match keyD k with | some key => ds.length < 100000 ∧ D.nx (put ρ i (some (.ow (.dict (kvPut ds key d))))) b2 | Option.none => False) D.ex) D.ex | _ => False) := (rfl)
theorem e_setL {i : Nat} {wk we : WE} {D : WEnds} {ρ : Rho} {b : Nat} : wSetL i wk we D ρ b = (match at_ ρ i with | some (.ow (.list ds)) => we ρ b (fun d b1 => wk ρ b1 (fun k b2 => setLD ds k d fun ds2 => D.nx (put ρ i (some (.ow (.list ds2)))) b2) D.ex) D.ex | _ => False) := (rfl)
theorem e_raiseP {x : Str} {D : WEnds} {ρ : Rho} {b : Nat} : wRaiseP x D ρ b = (D.ex ⟨x, []⟩ b) := (rfl)
theorem e_raiseF {x f : Str} {w : WE} {D : WEnds} {ρ : Rho} {b : Nat} : wRaiseF x f w D ρ b = (w ρ b (fun d b1 => D.ex ⟨x, [(f, d)]⟩ b1) D.ex) := (rfl)
theorem e_br1 {A B : Prop} : br true A B = (A) := (rfl)
theorem e_br0 {A B : Prop} : br false A B = (B) := (rfl)
theorem e_addI {i j : Int} {q : Dt → Prop} : addD (.int i) (.int j) q = (q (.int (i + j))) := (rfl)
theorem e_subI {i j : Int} {q : Dt → Prop} : subD (.int i) (.int j) q = (q (.int (i - j))) := (rfl)
theorem e_addS {x y : Str} {q : Dt → Prop} : addD (.str x) (.str y) q = (x.length + y.length ≤ 100000 ∧ q (.str (x ++ y))) := (rfl)
theorem e_addL {x y : List Dt} {q : Dt → Prop} : addD (.list x) (.list y) q = (x.length + y.length ≤ 100000 ∧ q (.list (x ++ y))) := (rfl)
theorem e_addT {x y : List Dt} {q : Dt → Prop} : addD (.tuple x) (.tuple y) q = (x.length + y.length ≤ 100000 ∧ q (.tuple (x ++ y))) := (rfl)
theorem e_mulI {i j : Int} {q : Dt → Prop} : mulD (.int i) (.int j) q = (CMul i j ∧ q (.int (i * j))) := (rfl)
theorem e_modI {i j : Int} {q : Dt → Prop} : modD (.int i) (.int j) q = (0 < j ∧ q (.int (i % j))) := (rfl)
theorem e_fdivI {i j : Int} {q : Dt → Prop} : fdivD (.int i) (.int j) q = (CDiv i j ∧ q (.int (i / j))) := (rfl)
theorem e_powI {i j : Int} {q : Dt → Prop} : powD (.int i) (.int j) q = (CPow i j ∧ q (.int (i ^ j.toNat))) := (rfl)
theorem e_revL {x : List Dt} {q : Dt → Prop} : revD (.list x) q = (q (.list x.reverse)) := (rfl)
theorem e_revT {x : List Dt} {q : Dt → Prop} : revD (.tuple x) q = (q (.tuple x.reverse)) := (rfl)
theorem e_negI {i : Int} {q : Dt → Prop} : negD (.int i) q = (q (.int (-i))) := (rfl)
theorem e_ltI {i j : Int} {q : Dt → Prop} : ltD (.int i) (.int j) q = (q (.bool (decide (i < j)))) := (rfl)
theorem e_ltS {x y : Str} {q : Dt → Prop} : ltD (.str x) (.str y) q = (q (.bool (strLt x y))) := (rfl)
theorem e_leI {i j : Int} {q : Dt → Prop} : leD (.int i) (.int j) q = (q (.bool (decide (i ≤ j)))) := (rfl)
theorem e_leS {x y : Str} {q : Dt → Prop} : leD (.str x) (.str y) q = (q (.bool (!strLt y x))) := (rfl)
theorem e_gtI {i j : Int} {q : Dt → Prop} : gtD (.int i) (.int j) q = (q (.bool (decide (j < i)))) := (rfl)
theorem e_gtS {x y : Str} {q : Dt → Prop} : gtD (.str x) (.str y) q = (q (.bool (strLt y x))) := (rfl)
theorem e_geI {i j : Int} {q : Dt → Prop} : geD (.int i) (.int j) q = (q (.bool (decide (j ≤ i)))) := (rfl)
theorem e_geS {x y : Str} {q : Dt → Prop} : geD (.str x) (.str y) q = (q (.bool (!strLt x y))) := (rfl)
theorem e_isN {d : Dt} {q : Dt → Prop} : isND d .none q = (q (.bool (isNone d))) := (rfl)
theorem e_notN {d : Dt} {q : Dt → Prop} : notND d .none q = (q (.bool (!isNone d))) := (rfl)
theorem e_lenS {x : Str} {q : Dt → Prop} : lenD [.str x] q = (x.length ≤ 100000 → q (.int (x.length : Nat))) := (rfl)
theorem e_lenL {x : List Dt} {q : Dt → Prop} : lenD [.list x] q = (x.length ≤ 100000 → q (.int (x.length : Nat))) := (rfl)
theorem e_lenT {x : List Dt} {q : Dt → Prop} : lenD [.tuple x] q = (x.length ≤ 100000 → q (.int (x.length : Nat))) := (rfl)
theorem e_max2 {i j : Int} {q : Dt → Prop} : max2D [.int i, .int j] q = (q (.int (if j > i then j else i))) := (rfl)
theorem e_min2 {i j : Int} {q : Dt → Prop} : min2D [.int i, .int j] q = (q (.int (if j < i then j else i))) := (rfl)
theorem e_tupL {x : List Dt} {q : Dt → Prop} : tupleD [.list x] q = (q (.tuple x)) := (rfl)
theorem e_tupT {x : List Dt} {q : Dt → Prop} : tupleD [.tuple x] q = (q (.tuple x)) := (rfl)
theorem e_lstL {x : List Dt} {q : Dt → Prop} : listD [.list x] q = (q (.list x)) := (rfl)
theorem e_lstT {x : List Dt} {q : Dt → Prop} : listD [.tuple x] q = (q (.list x)) := (rfl)
theorem e_slS {x : Str} {lo hi : Option Int} {q : Dt → Prop} : slA (.str x) lo hi q = (q (.str (cutS x lo hi))) := (rfl)
theorem e_slL {x : List Dt} {lo hi : Option Int} {q : Dt → Prop} : slA (.list x) lo hi q = (q (.list (cutD x lo hi))) := (rfl)
theorem e_slT {x : List Dt} {lo hi : Option Int} {q : Dt → Prop} : slA (.tuple x) lo hi q = (q (.tuple (cutD x lo hi))) := (rfl)
theorem e_int1I {i : Int} {q : Dt → Prop} : int1D [.int i] q = (q (.int i)) := (rfl)
theorem e_absI {i : Int} {q : Dt → Prop} : absD [.int i] q = (q (.int (absI i))) := (rfl)
theorem e_seqL {x : List Dt} {q : List Dt → Prop} : seqD (.list x) q = (q x) := (rfl)
theorem e_seqT {x : List Dt} {q : List Dt → Prop} : seqD (.tuple x) q = (q x) := (rfl)
theorem e_seqS {x : Str} {q : List Dt → Prop} : seqD (.str x) q = (q (signs x)) := (rfl)
theorem e_rng1 {n : Int} {q : List Dt → Prop} : rng1D [.int n] q = ((-100000 ≤ n ∧ n ≤ 100000) ∧ q (natD 0 n.toNat)) := (rfl)
theorem e_rng2 {m n : Int} {q : List Dt → Prop} : rng2D [.int m, .int n] q = (((-(2 ^ 62) ≤ m ∧ m < 2 ^ 62 ∧ -(2 ^ 62) ≤ n ∧ n < 2 ^ 62) ∧ n - m ≤ 100000) ∧ q (natD m (n - m).toNat)) := (rfl)
theorem e_enumL {x : List Dt} {q : List Dt → Prop} : enumsD [.list x] q = (q (enumD x)) := (rfl)
theorem e_enumAL {x : List Dt} {q : List Dt → Prop} : enumsAD [.list x] q = (q (enumD x)) := (rfl)
theorem e_enumAT {x : List Dt} {q : List Dt → Prop} : enumsAD [.tuple x] q = (q (enumD x)) := (rfl)
theorem e_zipL {x y : List Dt} {q : List Dt → Prop} : zipsD [.list x, .list y] q = (q (zipD x y)) := (rfl)
theorem e_none1  : isNone .none = (true) := (rfl)
theorem e_none2 {i : Int} : isNone (.int i) = (false) := (rfl)
theorem e_none3 {x : Str} : isNone (.str x) = (false) := (rfl)
theorem e_none4 {x : List Dt} : isNone (.tuple x) = (false) := (rfl)
theorem e_none5 {x : List Dt} : isNone (.list x) = (false) := (rfl)
theorem e_none6 {x : Bool} : isNone (.bool x) = (false) := (rfl)
theorem e_none7 {x : List (Key × Dt)} : isNone (.dict x) = (false) := (rfl)
theorem e_keyS {x : Str} : keyD (.str x) = (some (.inr x)) := (rfl)
theorem e_keyI {x : Int} : keyD (.int x) = (some (.inl x)) := (rfl)
theorem e_at0 { s : Option Sv} {ρ : Rho} : at_ (s :: ρ) 0 = (s) := (rfl)
theorem e_put0 { s x : Option Sv} {ρ : Rho} : put (s :: ρ) 0 x = (x :: ρ) := (rfl)
theorem e_at1 {s0 s : Option Sv} {ρ : Rho} : at_ (s0 :: s :: ρ) 1 = (s) := (rfl)
theorem e_put1 {s0 s x : Option Sv} {ρ : Rho} : put (s0 :: s :: ρ) 1 x = (s0 :: x :: ρ) := (rfl)
theorem e_at2 {s0 s1 s : Option Sv} {ρ : Rho} : at_ (s0 :: s1 :: s :: ρ) 2 = (s) := (rfl)
theorem e_put2 {s0 s1 s x : Option Sv} {ρ : Rho} : put (s0 :: s1 :: s :: ρ) 2 x = (s0 :: s1 :: x :: ρ) := (rfl)
theorem e_at3 {s0 s1 s2 s : Option Sv} {ρ : Rho} : at_ (s0 :: s1 :: s2 :: s :: ρ) 3 = (s) := (rfl)
theorem e_put3 {s0 s1 s2 s x : Option Sv} {ρ : Rho} : put (s0 :: s1 :: s2 :: s :: ρ) 3 x = (s0 :: s1 :: s2 :: x :: ρ) := (rfl)
theorem e_at4 {s0 s1 s2 s3 s : Option Sv} {ρ : Rho} : at_ (s0 :: s1 :: s2 :: s3 :: s :: ρ) 4 = (s) := (rfl)
theorem e_put4 {s0 s1 s2 s3 s x : Option Sv} {ρ : Rho} : put (s0 :: s1 :: s2 :: s3 :: s :: ρ) 4 x = (s0 :: s1 :: s2 :: s3 :: x :: ρ) := (rfl)
theorem e_at5 {s0 s1 s2 s3 s4 s : Option Sv} {ρ : Rho} : at_ (s0 :: s1 :: s2 :: s3 :: s4 :: s :: ρ) 5 = (s) := (rfl)
theorem e_put5 {s0 s1 s2 s3 s4 s x : Option Sv} {ρ : Rho} : put (s0 :: s1 :: s2 :: s3 :: s4 :: s :: ρ) 5 x = (s0 :: s1 :: s2 :: s3 :: s4 :: x :: ρ) := (rfl)
theorem e_at6 {s0 s1 s2 s3 s4 s5 s : Option Sv} {ρ : Rho} : at_ (s0 :: s1 :: s2 :: s3 :: s4 :: s5 :: s :: ρ) 6 = (s) := (rfl)
theorem e_put6 {s0 s1 s2 s3 s4 s5 s x : Option Sv} {ρ : Rho} : put (s0 :: s1 :: s2 :: s3 :: s4 :: s5 :: s :: ρ) 6 x = (s0 :: s1 :: s2 :: s3 :: s4 :: s5 :: x :: ρ) := (rfl)
theorem e_at7 {s0 s1 s2 s3 s4 s5 s6 s : Option Sv} {ρ : Rho} : at_ (s0 :: s1 :: s2 :: s3 :: s4 :: s5 :: s6 :: s :: ρ) 7 = (s) := (rfl)
theorem e_put7 {s0 s1 s2 s3 s4 s5 s6 s x : Option Sv} {ρ : Rho} : put (s0 :: s1 :: s2 :: s3 :: s4 :: s5 :: s6 :: s :: ρ) 7 x = (s0 :: s1 :: s2 :: s3 :: s4 :: s5 :: s6 :: x :: ρ) := (rfl)
theorem e_at8 {s0 s1 s2 s3 s4 s5 s6 s7 s : Option Sv} {ρ : Rho} : at_ (s0 :: s1 :: s2 :: s3 :: s4 :: s5 :: s6 :: s7 :: s :: ρ) 8 = (s) := (rfl)
theorem e_put8 {s0 s1 s2 s3 s4 s5 s6 s7 s x : Option Sv} {ρ : Rho} : put (s0 :: s1 :: s2 :: s3 :: s4 :: s5 :: s6 :: s7 :: s :: ρ) 8 x = (s0 :: s1 :: s2 :: s3 :: s4 :: s5 :: s6 :: s7 :: x :: ρ) := (rfl)
theorem e_at9 {s0 s1 s2 s3 s4 s5 s6 s7 s8 s : Option Sv} {ρ : Rho} : at_ (s0 :: s1 :: s2 :: s3 :: s4 :: s5 :: s6 :: s7 :: s8 :: s :: ρ) 9 = (s) := (rfl)
theorem e_put9 {s0 s1 s2 s3 s4 s5 s6 s7 s8 s x : Option Sv} {ρ : Rho} : put (s0 :: s1 :: s2 :: s3 :: s4 :: s5 :: s6 :: s7 :: s8 :: s :: ρ) 9 x = (s0 :: s1 :: s2 :: s3 :: s4 :: s5 :: s6 :: s7 :: s8 :: x :: ρ) := (rfl)
theorem e_at10 {s0 s1 s2 s3 s4 s5 s6 s7 s8 s9 s : Option Sv} {ρ : Rho} : at_ (s0 :: s1 :: s2 :: s3 :: s4 :: s5 :: s6 :: s7 :: s8 :: s9 :: s :: ρ) 10 = (s) := (rfl)
theorem e_put10 {s0 s1 s2 s3 s4 s5 s6 s7 s8 s9 s x : Option Sv} {ρ : Rho} : put (s0 :: s1 :: s2 :: s3 :: s4 :: s5 :: s6 :: s7 :: s8 :: s9 :: s :: ρ) 10 x = (s0 :: s1 :: s2 :: s3 :: s4 :: s5 :: s6 :: s7 :: s8 :: s9 :: x :: ρ) := (rfl)
theorem e_at11 {s0 s1 s2 s3 s4 s5 s6 s7 s8 s9 s10 s : Option Sv} {ρ : Rho} : at_ (s0 :: s1 :: s2 :: s3 :: s4 :: s5 :: s6 :: s7 :: s8 :: s9 :: s10 :: s :: ρ) 11 = (s) := (rfl)
theorem e_put11 {s0 s1 s2 s3 s4 s5 s6 s7 s8 s9 s10 s x : Option Sv} {ρ : Rho} : put (s0 :: s1 :: s2 :: s3 :: s4 :: s5 :: s6 :: s7 :: s8 :: s9 :: s10 :: s :: ρ) 11 x = (s0 :: s1 :: s2 :: s3 :: s4 :: s5 :: s6 :: s7 :: s8 :: s9 :: s10 :: x :: ρ) := (rfl)
theorem e_at12 {s0 s1 s2 s3 s4 s5 s6 s7 s8 s9 s10 s11 s : Option Sv} {ρ : Rho} : at_ (s0 :: s1 :: s2 :: s3 :: s4 :: s5 :: s6 :: s7 :: s8 :: s9 :: s10 :: s11 :: s :: ρ) 12 = (s) := (rfl)
theorem e_put12 {s0 s1 s2 s3 s4 s5 s6 s7 s8 s9 s10 s11 s x : Option Sv} {ρ : Rho} : put (s0 :: s1 :: s2 :: s3 :: s4 :: s5 :: s6 :: s7 :: s8 :: s9 :: s10 :: s11 :: s :: ρ) 12 x = (s0 :: s1 :: s2 :: s3 :: s4 :: s5 :: s6 :: s7 :: s8 :: s9 :: s10 :: s11 :: x :: ρ) := (rfl)
theorem e_at13 {s0 s1 s2 s3 s4 s5 s6 s7 s8 s9 s10 s11 s12 s : Option Sv} {ρ : Rho} : at_ (s0 :: s1 :: s2 :: s3 :: s4 :: s5 :: s6 :: s7 :: s8 :: s9 :: s10 :: s11 :: s12 :: s :: ρ) 13 = (s) := (rfl)
theorem e_put13 {s0 s1 s2 s3 s4 s5 s6 s7 s8 s9 s10 s11 s12 s x : Option Sv} {ρ : Rho} : put (s0 :: s1 :: s2 :: s3 :: s4 :: s5 :: s6 :: s7 :: s8 :: s9 :: s10 :: s11 :: s12 :: s :: ρ) 13 x = (s0 :: s1 :: s2 :: s3 :: s4 :: s5 :: s6 :: s7 :: s8 :: s9 :: s10 :: s11 :: s12 :: x :: ρ) := (rfl)
theorem e_at14 {s0 s1 s2 s3 s4 s5 s6 s7 s8 s9 s10 s11 s12 s13 s : Option Sv} {ρ : Rho} : at_ (s0 :: s1 :: s2 :: s3 :: s4 :: s5 :: s6 :: s7 :: s8 :: s9 :: s10 :: s11 :: s12 :: s13 :: s :: ρ) 14 = (s) := (rfl)
theorem e_put14 {s0 s1 s2 s3 s4 s5 s6 s7 s8 s9 s10 s11 s12 s13 s x : Option Sv} {ρ : Rho} : put (s0 :: s1 :: s2 :: s3 :: s4 :: s5 :: s6 :: s7 :: s8 :: s9 :: s10 :: s11 :: s12 :: s13 :: s :: ρ) 14 x = (s0 :: s1 :: s2 :: s3 :: s4 :: s5 :: s6 :: s7 :: s8 :: s9 :: s10 :: s11 :: s12 :: s13 :: x :: ρ) := (rfl)
theorem e_at15 {s0 s1 s2 s3 s4 s5 s6 s7 s8 s9 s10 s11 s12 s13 s14 s : Option Sv} {ρ : Rho} : at_ (s0 :: s1 :: s2 :: s3 :: s4 :: s5 :: s6 :: s7 :: s8 :: s9 :: s10 :: s11 :: s12 :: s13 :: s14 :: s :: ρ) 15 = (s) := (rfl)
theorem e_put15 {s0 s1 s2 s3 s4 s5 s6 s7 s8 s9 s10 s11 s12 s13 s14 s x : Option Sv} {ρ : Rho} : put (s0 :: s1 :: s2 :: s3 :: s4 :: s5 :: s6 :: s7 :: s8 :: s9 :: s10 :: s11 :: s12 :: s13 :: s14 :: s :: ρ) 15 x = (s0 :: s1 :: s2 :: s3 :: s4 :: s5 :: s6 :: s7 :: s8 :: s9 :: s10 :: s11 :: s12 :: s13 :: s14 :: x :: ρ) := (rfl)
theorem e_at16 {s0 s1 s2 s3 s4 s5 s6 s7 s8 s9 s10 s11 s12 s13 s14 s15 s : Option Sv} {ρ : Rho} : at_ (s0 :: s1 :: s2 :: s3 :: s4 :: s5 :: s6 :: s7 :: s8 :: s9 :: s10 :: s11 :: s12 :: s13 :: s14 :: s15 :: s :: ρ) 16 = (s) := (rfl)
theorem e_put16 {s0 s1 s2 s3 s4 s5 s6 s7 s8 s9 s10 s11 s12 s13 s14 s15 s x : Option Sv} {ρ : Rho} : put (s0 :: s1 :: s2 :: s3 :: s4 :: s5 :: s6 :: s7 :: s8 :: s9 :: s10 :: s11 :: s12 :: s13 :: s14 :: s15 :: s :: ρ) 16 x = (s0 :: s1 :: s2 :: s3 :: s4 :: s5 :: s6 :: s7 :: s8 :: s9 :: s10 :: s11 :: s12 :: s13 :: s14 :: s15 :: x :: ρ) := (rfl)
theorem e_at17 {s0 s1 s2 s3 s4 s5 s6 s7 s8 s9 s10 s11 s12 s13 s14 s15 s16 s : Option Sv} {ρ : Rho} : at_ (s0 :: s1 :: s2 :: s3 :: s4 :: s5 :: s6 :: s7 :: s8 :: s9 :: s10 :: s11 :: s12 :: s13 :: s14 :: s15 :: s16 :: s :: ρ) 17 = (s) := (rfl)
theorem e_put17 {s0 s1 s2 s3 s4 s5 s6 s7 s8 s9 s10 s11 s12 s13 s14 s15 s16 s x : Option Sv} {ρ : Rho} : put (s0 :: s1 :: s2 :: s3 :: s4 :: s5 :: s6 :: s7 :: s8 :: s9 :: s10 :: s11 :: s12 :: s13 :: s14 :: s15 :: s16 :: s :: ρ) 17 x = (s0 :: s1 :: s2 :: s3 :: s4 :: s5 :: s6 :: s7 :: s8 :: s9 :: s10 :: s11 :: s12 :: s13 :: s14 :: s15 :: s16 :: x :: ρ) := (rfl)
theorem e_at18 {s0 s1 s2 s3 s4 s5 s6 s7 s8 s9 s10 s11 s12 s13 s14 s15 s16 s17 s : Option Sv} {ρ : Rho} : at_ (s0 :: s1 :: s2 :: s3 :: s4 :: s5 :: s6 :: s7 :: s8 :: s9 :: s10 :: s11 :: s12 :: s13 :: s14 :: s15 :: s16 :: s17 :: s :: ρ) 18 = (s) := (rfl)
theorem e_put18 {s0 s1 s2 s3 s4 s5 s6 s7 s8 s9 s10 s11 s12 s13 s14 s15 s16 s17 s x : Option Sv} {ρ : Rho} : put (s0 :: s1 :: s2 :: s3 :: s4 :: s5 :: s6 :: s7 :: s8 :: s9 :: s10 :: s11 :: s12 :: s13 :: s14 :: s15 :: s16 :: s17 :: s :: ρ) 18 x = (s0 :: s1 :: s2 :: s3 :: s4 :: s5 :: s6 :: s7 :: s8 :: s9 :: s10 :: s11 :: s12 :: s13 :: s14 :: s15 :: s16 :: s17 :: x :: ρ) := (rfl)
theorem e_at19 {s0 s1 s2 s3 s4 s5 s6 s7 s8 s9 s10 s11 s12 s13 s14 s15 s16 s17 s18 s : Option Sv} {ρ : Rho} : at_ (s0 :: s1 :: s2 :: s3 :: s4 :: s5 :: s6 :: s7 :: s8 :: s9 :: s10 :: s11 :: s12 :: s13 :: s14 :: s15 :: s16 :: s17 :: s18 :: s :: ρ) 19 = (s) := (rfl)
theorem e_put19 {s0 s1 s2 s3 s4 s5 s6 s7 s8 s9 s10 s11 s12 s13 s14 s15 s16 s17 s18 s x : Option Sv} {ρ : Rho} : put (s0 :: s1 :: s2 :: s3 :: s4 :: s5 :: s6 :: s7 :: s8 :: s9 :: s10 :: s11 :: s12 :: s13 :: s14 :: s15 :: s16 :: s17 :: s18 :: s :: ρ) 19 x = (s0 :: s1 :: s2 :: s3 :: s4 :: s5 :: s6 :: s7 :: s8 :: s9 :: s10 :: s11 :: s12 :: s13 :: s14 :: s15 :: s16 :: s17 :: s18 :: x :: ρ) := (rfl)
theorem e_at20 {s0 s1 s2 s3 s4 s5 s6 s7 s8 s9 s10 s11 s12 s13 s14 s15 s16 s17 s18 s19 s : Option Sv} {ρ : Rho} : at_ (s0 :: s1 :: s2 :: s3 :: s4 :: s5 :: s6 :: s7 :: s8 :: s9 :: s10 :: s11 :: s12 :: s13 :: s14 :: s15 :: s16 :: s17 :: s18 :: s19 :: s :: ρ) 20 = (s) := (rfl)
theorem e_put20 {s0 s1 s2 s3 s4 s5 s6 s7 s8 s9 s10 s11 s12 s13 s14 s15 s16 s17 s18 s19 s x : Option Sv} {ρ : Rho} : put (s0 :: s1 :: s2 :: s3 :: s4 :: s5 :: s6 :: s7 :: s8 :: s9 :: s10 :: s11 :: s12 :: s13 :: s14 :: s15 :: s16 :: s17 :: s18 :: s19 :: s :: ρ) 20 x = (s0 :: s1 :: s2 :: s3 :: s4 :: s5 :: s6 :: s7 :: s8 :: s9 :: s10 :: s11 :: s12 :: s13 :: s14 :: s15 :: s16 :: s17 :: s18 :: s19 :: x :: ρ) := (rfl)
theorem e_at21 {s0 s1 s2 s3 s4 s5 s6 s7 s8 s9 s10 s11 s12 s13 s14 s15 s16 s17 s18 s19 s20 s : Option Sv} {ρ : Rho} : at_ (s0 :: s1 :: s2 :: s3 :: s4 :: s5 :: s6 :: s7 :: s8 :: s9 :: s10 :: s11 :: s12 :: s13 :: s14 :: s15 :: s16 :: s17 :: s18 :: s19 :: s20 :: s :: ρ) 21 = (s) := (rfl)
theorem e_put21 {s0 s1 s2 s3 s4 s5 s6 s7 s8 s9 s10 s11 s12 s13 s14 s15 s16 s17 s18 s19 s20 s x : Option Sv} {ρ : Rho} : put (s0 :: s1 :: s2 :: s3 :: s4 :: s5 :: s6 :: s7 :: s8 :: s9 :: s10 :: s11 :: s12 :: s13 :: s14 :: s15 :: s16 :: s17 :: s18 :: s19 :: s20 :: s :: ρ) 21 x = (s0 :: s1 :: s2 :: s3 :: s4 :: s5 :: s6 :: s7 :: s8 :: s9 :: s10 :: s11 :: s12 :: s13 :: s14 :: s15 :: s16 :: s17 :: s18 :: s19 :: s20 :: x :: ρ) := (rfl)
theorem e_at22 {s0 s1 s2 s3 s4 s5 s6 s7 s8 s9 s10 s11 s12 s13 s14 s15 s16 s17 s18 s19 s20 s21 s : Option Sv} {ρ : Rho} : at_ (s0 :: s1 :: s2 :: s3 :: s4 :: s5 :: s6 :: s7 :: s8 :: s9 :: s10 :: s11 :: s12 :: s13 :: s14 :: s15 :: s16 :: s17 :: s18 :: s19 :: s20 :: s21 :: s :: ρ) 22 = (s) := (rfl)
theorem e_put22 {s0 s1 s2 s3 s4 s5 s6 s7 s8 s9 s10 s11 s12 s13 s14 s15 s16 s17 s18 s19 s20 s21 s x : Option Sv} {ρ : Rho} : put (s0 :: s1 :: s2 :: s3 :: s4 :: s5 :: s6 :: s7 :: s8 :: s9 :: s10 :: s11 :: s12 :: s13 :: s14 :: s15 :: s16 :: s17 :: s18 :: s19 :: s20 :: s21 :: s :: ρ) 22 x = (s0 :: s1 :: s2 :: s3 :: s4 :: s5 :: s6 :: s7 :: s8 :: s9 :: s10 :: s11 :: s12 :: s13 :: s14 :: s15 :: s16 :: s17 :: s18 :: s19 :: s20 :: s21 :: x :: ρ) := (rfl)
theorem e_at23 {s0 s1 s2 s3 s4 s5 s6 s7 s8 s9 s10 s11 s12 s13 s14 s15 s16 s17 s18 s19 s20 s21 s22 s : Option Sv} {ρ : Rho} : at_ (s0 :: s1 :: s2 :: s3 :: s4 :: s5 :: s6 :: s7 :: s8 :: s9 :: s10 :: s11 :: s12 :: s13 :: s14 :: s15 :: s16 :: s17 :: s18 :: s19 :: s20 :: s21 :: s22 :: s :: ρ) 23 = (s) := (rfl)
theorem e_put23 {s0 s1 s2 s3 s4 s5 s6 s7 s8 s9 s10 s11 s12 s13 s14 s15 s16 s17 s18 s19 s20 s21 s22 s x : Option Sv} {ρ : Rho} : put (s0 :: s1 :: s2 :: s3 :: s4 :: s5 :: s6 :: s7 :: s8 :: s9 :: s10 :: s11 :: s12 :: s13 :: s14 :: s15 :: s16 :: s17 :: s18 :: s19 :: s20 :: s21 :: s22 :: s :: ρ) 23 x = (s0 :: s1 :: s2 :: s3 :: s4 :: s5 :: s6 :: s7 :: s8 :: s9 :: s10 :: s11 :: s12 :: s13 :: s14 :: s15 :: s16 :: s17 :: s18 :: s19 :: s20 :: s21 :: s22 :: x :: ρ) := (rfl)
theorem e_at24 {s0 s1 s2 s3 s4 s5 s6 s7 s8 s9 s10 s11 s12 s13 s14 s15 s16 s17 s18 s19 s20 s21 s22 s23 s : Option Sv} {ρ : Rho} : at_ (s0 :: s1 :: s2 :: s3 :: s4 :: s5 :: s6 :: s7 :: s8 :: s9 :: s10 :: s11 :: s12 :: s13 :: s14 :: s15 :: s16 :: s17 :: s18 :: s19 :: s20 :: s21 :: s22 :: s23 :: s :: ρ) 24 = (s) := (rfl)
theorem e_put24 {s0 s1 s2 s3 s4 s5 s6 s7 s8 s9 s10 s11 s12 s13 s14 s15 s16 s17 s18 s19 s20 s21 s22 s23 s x : Option Sv} {ρ : Rho} : put (s0 :: s1 :: s2 :: s3 :: s4 :: s5 :: s6 :: s7 :: s8 :: s9 :: s10 :: s11 :: s12 :: s13 :: s14 :: s15 :: s16 :: s17 :: s18 :: s19 :: s20 :: s21 :: s22 :: s23 :: s :: ρ) 24 x = (s0 :: s1 :: s2 :: s3 :: s4 :: s5 :: s6 :: s7 :: s8 :: s9 :: s10 :: s11 :: s12 :: s13 :: s14 :: s15 :: s16 :: s17 :: s18 :: s19 :: s20 :: s21 :: s22 :: s23 :: x :: ρ) := (rfl)
theorem e_at25 {s0 s1 s2 s3 s4 s5 s6 s7 s8 s9 s10 s11 s12 s13 s14 s15 s16 s17 s18 s19 s20 s21 s22 s23 s24 s : Option Sv} {ρ : Rho} : at_ (s0 :: s1 :: s2 :: s3 :: s4 :: s5 :: s6 :: s7 :: s8 :: s9 :: s10 :: s11 :: s12 :: s13 :: s14 :: s15 :: s16 :: s17 :: s18 :: s19 :: s20 :: s21 :: s22 :: s23 :: s24 :: s :: ρ) 25 = (s) := (rfl)
theorem e_put25 {s0 s1 s2 s3 s4 s5 s6 s7 s8 s9 s10 s11 s12 s13 s14 s15 s16 s17 s18 s19 s20 s21 s22 s23 s24 s x : Option Sv} {ρ : Rho} : put (s0 :: s1 :: s2 :: s3 :: s4 :: s5 :: s6 :: s7 :: s8 :: s9 :: s10 :: s11 :: s12 :: s13 :: s14 :: s15 :: s16 :: s17 :: s18 :: s19 :: s20 :: s21 :: s22 :: s23 :: s24 :: s :: ρ) 25 x = (s0 :: s1 :: s2 :: s3 :: s4 :: s5 :: s6 :: s7 :: s8 :: s9 :: s10 :: s11 :: s12 :: s13 :: s14 :: s15 :: s16 :: s17 :: s18 :: s19 :: s20 :: s21 :: s22 :: s23 :: s24 :: x :: ρ) := (rfl)
theorem e_at26 {s0 s1 s2 s3 s4 s5 s6 s7 s8 s9 s10 s11 s12 s13 s14 s15 s16 s17 s18 s19 s20 s21 s22 s23 s24 s25 s : Option Sv} {ρ : Rho} : at_ (s0 :: s1 :: s2 :: s3 :: s4 :: s5 :: s6 :: s7 :: s8 :: s9 :: s10 :: s11 :: s12 :: s13 :: s14 :: s15 :: s16 :: s17 :: s18 :: s19 :: s20 :: s21 :: s22 :: s23 :: s24 :: s25 :: s :: ρ) 26 = (s) := (rfl)
theorem e_put26 {s0 s1 s2 s3 s4 s5 s6 s7 s8 s9 s10 s11 s12 s13 s14 s15 s16 s17 s18 s19 s20 s21 s22 s23 s24 s25 s x : Option Sv} {ρ : Rho} : put (s0 :: s1 :: s2 :: s3 :: s4 :: s5 :: s6 :: s7 :: s8 :: s9 :: s10 :: s11 :: s12 :: s13 :: s14 :: s15 :: s16 :: s17 :: s18 :: s19 :: s20 :: s21 :: s22 :: s23 :: s24 :: s25 :: s :: ρ) 26 x = (s0 :: s1 :: s2 :: s3 :: s4 :: s5 :: s6 :: s7 :: s8 :: s9 :: s10 :: s11 :: s12 :: s13 :: s14 :: s15 :: s16 :: s17 :: s18 :: s19 :: s20 :: s21 :: s22 :: s23 :: s24 :: s25 :: x :: ρ) := (rfl)
theorem e_at27 {s0 s1 s2 s3 s4 s5 s6 s7 s8 s9 s10 s11 s12 s13 s14 s15 s16 s17 s18 s19 s20 s21 s22 s23 s24 s25 s26 s : Option Sv} {ρ : Rho} : at_ (s0 :: s1 :: s2 :: s3 :: s4 :: s5 :: s6 :: s7 :: s8 :: s9 :: s10 :: s11 :: s12 :: s13 :: s14 :: s15 :: s16 :: s17 :: s18 :: s19 :: s20 :: s21 :: s22 :: s23 :: s24 :: s25 :: s26 :: s :: ρ) 27 = (s) := (rfl)
theorem e_put27 {s0 s1 s2 s3 s4 s5 s6 s7 s8 s9 s10 s11 s12 s13 s14 s15 s16 s17 s18 s19 s20 s21 s22 s23 s24 s25 s26 s x : Option Sv} {ρ : Rho} : put (s0 :: s1 :: s2 :: s3 :: s4 :: s5 :: s6 :: s7 :: s8 :: s9 :: s10 :: s11 :: s12 :: s13 :: s14 :: s15 :: s16 :: s17 :: s18 :: s19 :: s20 :: s21 :: s22 :: s23 :: s24 :: s25 :: s26 :: s :: ρ) 27 x = (s0 :: s1 :: s2 :: s3 :: s4 :: s5 :: s6 :: s7 :: s8 :: s9 :: s10 :: s11 :: s12 :: s13 :: s14 :: s15 :: s16 :: s17 :: s18 :: s19 :: s20 :: s21 :: s22 :: s23 :: s24 :: s25 :: s26 :: x :: ρ) := (rfl)
theorem e_at28 {s0 s1 s2 s3 s4 s5 s6 s7 s8 s9 s10 s11 s12 s13 s14 s15 s16 s17 s18 s19 s20 s21 s22 s23 s24 s25 s26 s27 s : Option Sv} {ρ : Rho} : at_ (s0 :: s1 :: s2 :: s3 :: s4 :: s5 :: s6 :: s7 :: s8 :: s9 :: s10 :: s11 :: s12 :: s13 :: s14 :: s15 :: s16 :: s17 :: s18 :: s19 :: s20 :: s21 :: s22 :: s23 :: s24 :: s25 :: s26 :: s27 :: s :: ρ) 28 = (s) := (rfl)
theorem e_put28 {s0 s1 s2 s3 s4 s5 s6 s7 s8 s9 s10 s11 s12 s13 s14 s15 s16 s17 s18 s19 s20 s21 s22 s23 s24 s25 s26 s27 s x : Option Sv} {ρ : Rho} : put (s0 :: s1 :: s2 :: s3 :: s4 :: s5 :: s6 :: s7 :: s8 :: s9 :: s10 :: s11 :: s12 :: s13 :: s14 :: s15 :: s16 :: s17 :: s18 :: s19 :: s20 :: s21 :: s22 :: s23 :: s24 :: s25 :: s26 :: s27 :: s :: ρ) 28 x = (s0 :: s1 :: s2 :: s3 :: s4 :: s5 :: s6 :: s7 :: s8 :: s9 :: s10 :: s11 :: s12 :: s13 :: s14 :: s15 :: s16 :: s17 :: s18 :: s19 :: s20 :: s21 :: s22 :: s23 :: s24 :: s25 :: s26 :: s27 :: x :: ρ) := (rfl)
theorem e_at29 {s0 s1 s2 s3 s4 s5 s6 s7 s8 s9 s10 s11 s12 s13 s14 s15 s16 s17 s18 s19 s20 s21 s22 s23 s24 s25 s26 s27 s28 s : Option Sv} {ρ : Rho} : at_ (s0 :: s1 :: s2 :: s3 :: s4 :: s5 :: s6 :: s7 :: s8 :: s9 :: s10 :: s11 :: s12 :: s13 :: s14 :: s15 :: s16 :: s17 :: s18 :: s19 :: s20 :: s21 :: s22 :: s23 :: s24 :: s25 :: s26 :: s27 :: s28 :: s :: ρ) 29 = (s) := (rfl)
theorem e_put29 {s0 s1 s2 s3 s4 s5 s6 s7 s8 s9 s10 s11 s12 s13 s14 s15 s16 s17 s18 s19 s20 s21 s22 s23 s24 s25 s26 s27 s28 s x : Option Sv} {ρ : Rho} : put (s0 :: s1 :: s2 :: s3 :: s4 :: s5 :: s6 :: s7 :: s8 :: s9 :: s10 :: s11 :: s12 :: s13 :: s14 :: s15 :: s16 :: s17 :: s18 :: s19 :: s20 :: s21 :: s22 :: s23 :: s24 :: s25 :: s26 :: s27 :: s28 :: s :: ρ) 29 x = (s0 :: s1 :: s2 :: s3 :: s4 :: s5 :: s6 :: s7 :: s8 :: s9 :: s10 :: s11 :: s12 :: s13 :: s14 :: s15 :: s16 :: s17 :: s18 :: s19 :: s20 :: s21 :: s22 :: s23 :: s24 :: s25 :: s26 :: s27 :: s28 :: x :: ρ) := (rfl)
theorem e_wipe0 {ρ : Rho} : wipeR ρ [] = (ρ) := (rfl)
theorem e_wipe1 {ρ : Rho} {v : Nat} {vs : List Nat} : wipeR ρ (v :: vs) = (put (wipeR ρ vs) v none) := (rfl)
theorem e_isi_int_none  : isiD .int (.none) = (some false) := (rfl)
theorem e_isi_int_bool {x : Bool} : isiD .int (.bool x) = (some true) := (rfl)
theorem e_isi_int_int {x : Int} : isiD .int (.int x) = (some true) := (rfl)
theorem e_isi_int_str {x : Str} : isiD .int (.str x) = (some false) := (rfl)
theorem e_isi_int_list {x : List Dt} : isiD .int (.list x) = (some false) := (rfl)
theorem e_isi_int_tuple {x : List Dt} : isiD .int (.tuple x) = (some false) := (rfl)
theorem e_isi_int_dict {x : List (Key × Dt)} : isiD .int (.dict x) = (some false) := (rfl)
theorem e_isi_bool_none  : isiD .bool (.none) = (some false) := (rfl)
theorem e_isi_bool_bool {x : Bool} : isiD .bool (.bool x) = (some true) := (rfl)
theorem e_isi_bool_int {x : Int} : isiD .bool (.int x) = (some false) := (rfl)
theorem e_isi_bool_str {x : Str} : isiD .bool (.str x) = (some false) := (rfl)
theorem e_isi_bool_list {x : List Dt} : isiD .bool (.list x) = (some false) := (rfl)
theorem e_isi_bool_tuple {x : List Dt} : isiD .bool (.tuple x) = (some false) := (rfl)
theorem e_isi_bool_dict {x : List (Key × Dt)} : isiD .bool (.dict x) = (some false) := (rfl)
theorem e_isi_str_none  : isiD .str (.none) = (some false) := (rfl)
theorem e_isi_str_bool {x : Bool} : isiD .str (.bool x) = (some false) := (rfl)
theorem e_isi_str_int {x : Int} : isiD .str (.int x) = (some false) := (rfl)
theorem e_isi_str_str {x : Str} : isiD .str (.str x) = (some true) := (rfl)
theorem e_isi_str_list {x : List Dt} : isiD .str (.list x) = (some false) := (rfl)
theorem e_isi_str_tuple {x : List Dt} : isiD .str (.tuple x) = (some false) := (rfl)
theorem e_isi_str_dict {x : List (Key × Dt)} : isiD .str (.dict x) = (some false) := (rfl)
theorem e_isi_list_none  : isiD .list (.none) = (some false) := (rfl)
theorem e_isi_list_bool {x : Bool} : isiD .list (.bool x) = (some false) := (rfl)
theorem e_isi_list_int {x : Int} : isiD .list (.int x) = (some false) := (rfl)
theorem e_isi_list_str {x : Str} : isiD .list (.str x) = (some false) := (rfl)
theorem e_isi_list_list {x : List Dt} : isiD .list (.list x) = (some true) := (rfl)
theorem e_isi_list_tuple {x : List Dt} : isiD .list (.tuple x) = (some false) := (rfl)
theorem e_isi_list_dict {x : List (Key × Dt)} : isiD .list (.dict x) = (some false) := (rfl)
theorem e_isi_tuple_none  : isiD .tuple (.none) = (some false) := (rfl)
theorem e_isi_tuple_bool {x : Bool} : isiD .tuple (.bool x) = (some false) := (rfl)
theorem e_isi_tuple_int {x : Int} : isiD .tuple (.int x) = (some false) := (rfl)
theorem e_isi_tuple_str {x : Str} : isiD .tuple (.str x) = (some false) := (rfl)
theorem e_isi_tuple_list {x : List Dt} : isiD .tuple (.list x) = (some false) := (rfl)
theorem e_isi_tuple_tuple {x : List Dt} : isiD .tuple (.tuple x) = (some true) := (rfl)
theorem e_isi_tuple_dict {x : List (Key × Dt)} : isiD .tuple (.dict x) = (some false) := (rfl)
theorem e_isi_dict_none  : isiD .dict (.none) = (some false) := (rfl)
theorem e_isi_dict_bool {x : Bool} : isiD .dict (.bool x) = (some false) := (rfl)
theorem e_isi_dict_int {x : Int} : isiD .dict (.int x) = (some false) := (rfl)
theorem e_isi_dict_str {x : Str} : isiD .dict (.str x) = (some false) := (rfl)
theorem e_isi_dict_list {x : List Dt} : isiD .dict (.list x) = (some false) := (rfl)
theorem e_isi_dict_tuple {x : List Dt} : isiD .dict (.tuple x) = (some false) := (rfl)
theorem e_isi_dict_dict {x : List (Key × Dt)} : isiD .dict (.dict x) = (some true) := (rfl)
end Dw
set_option Elab.async false
set_option linter.all false
set_option maxRecDepth 100000
set_option maxHeartbeats 4000000
/-! Joins, putting off and being within, as facts about finite maps. -/
namespace Cn
open PySem PySem.Spec PyProof.Rows L2
theorem valV_lkI : ∀ (l : Plan) (x : Str), valV (l.map kvI) (Sum.inr x : Key) = (lk l x).map V.int
  | [], x => rfl
  | q :: l, x => by
    rw [List.map_cons]
    unfold lk
    rw [List.find?_cons]
    by_cases h : q.1 = x
    · rw [valV_pos (by show (Sum.inr q.1 : Key) = Sum.inr x; rw [h]), decide_eq_true h]
      rfl
    · rw [valV_neg (by show ¬ (Sum.inr q.1 : Key) = Sum.inr x; intro e; exact h (Sum.inr.inj e)), decide_eq_false h, valV_lkI l x]
      rfl
theorem putK_putQ (acc : Plan) (x : Str) (v : Int) : putK (acc.map kvI) (Sum.inr x : Key) (V.int v) = (putQ acc x v).map kvI := by
  have e1 : ((acc.map kvI).any fun kv => decide (kv.1 = (Sum.inr x : Key))) = acc.any fun p => decide (p.1 = x) := by
    rw [List.any_map]
    congr 1
    funext p
    exact decide_eq_decide.mpr ⟨fun e => Sum.inr.inj e, fun e => by show (Sum.inr p.1 : Key) = Sum.inr x; rw [e]⟩
  unfold putK putQ
  rw [e1]
  by_cases h : (acc.any fun p => decide (p.1 = x)) = true
  · rw [if_pos h, if_pos h, List.map_map, List.map_map]
    refine List.map_congr_left fun p _ => ?_
    show (if (Sum.inr p.1 : Key) = Sum.inr x then ((Sum.inr p.1 : Key), V.int v) else kvI p) = kvI (if p.1 = x then (p.1, v) else p)
    by_cases hp : p.1 = x
    · rw [if_pos (by rw [hp]), if_pos hp]
    · rw [if_neg (fun e => hp (Sum.inr.inj e)), if_neg hp]
  · rw [if_neg h, if_neg h, List.map_append]
    rfl
theorem putQ_len (acc : Plan) (x : Str) (v : Int) : (putQ acc x v).length ≤ acc.length + 1 := by
  unfold putQ
  split
  · rw [List.length_map]
    omega
  · rw [List.length_append]
    exact Nat.le_refl _
theorem steps_len : ∀ (ps acc : Plan), (steps acc ps).length ≤ acc.length + ps.length
  | [], acc => Nat.le_refl _
  | q :: ps, acc => by
    have h := steps_len ps (step acc q)
    have h2 := putQ_len acc q.1 (mx q.2 ((lk acc q.1).getD q.2))
    show (steps (step acc q) ps).length ≤ _
    rw [List.length_cons]
    have h3 : (step acc q).length ≤ acc.length + 1 := h2
    omega
def total (pss : List Plan) : Nat := (pss.map List.length).sum
theorem joins_len : ∀ (pss : List Plan) (acc : Plan), (pss.foldl steps acc).length ≤ acc.length + total pss
  | [], acc => Nat.le_refl _
  | ps :: pss, acc => by
    have h := joins_len pss (steps acc ps)
    have h2 := steps_len ps acc
    show (pss.foldl steps (steps acc ps)).length ≤ _
    unfold total at h ⊢
    rw [List.map_cons, List.sum_cons]
    omega
theorem total_take : ∀ (pss : List Plan) (i : Nat), total (pss.take i) ≤ total pss
  | [], i => by rw [List.take_nil]; exact Nat.le_refl _
  | ps :: pss, 0 => Nat.zero_le _
  | ps :: pss, i + 1 => by
    have h := total_take pss i
    unfold total at h ⊢
    rw [List.take_succ_cons, List.map_cons, List.sum_cons, List.map_cons, List.sum_cons]
    omega
theorem total_take_at {pss : List Plan} {i : Nat} {ps : Plan} (h : pss[i]? = some ps) : total (pss.take i) + ps.length ≤ total pss := by
  have h2 := total_take pss (i + 1)
  rw [take_at h] at h2
  unfold total at h2 ⊢
  rw [List.map_append, List.sum_append] at h2
  simpa using h2
abbrev nlt (x y : Str) : Prop := x.cps.toList < y.cps.toList
theorem nlt_trans {x y z : Str} (a : nlt x y) (b : nlt y z) : nlt x z := List.lt_trans a b
theorem nlt_irr (x : Str) : ¬ nlt x x := List.lt_irrefl _
theorem nlt_tri (x y : Str) : nlt x y ∨ x = y ∨ nlt y x := by
  by_cases h : nlt x y
  · exact .inl h
  · have h4 : y.cps.toList ≤ x.cps.toList := List.not_lt.mp h
    rcases List.le_iff_lt_or_eq.mp h4 with h5 | h5
    · exact .inr (.inr h5)
    · exact .inr (.inl (Str.ext' (Array.toList_inj.mp h5)).symm)
section
variable {α : Type}
def Asc (l : List (Str × α)) : Prop := (l.map (·.1)).Pairwise nlt
theorem Asc.nd {l : List (Str × α)} (h : Asc l) : (l.map (·.1)).Nodup := List.Pairwise.imp (fun {x y} (h : nlt x y) (e : x = y) => nlt_irr y (by rw [e] at h; exact h)) h
theorem lk_nil (x : Str) : lk ([] : List (Str × α)) x = none := rfl
theorem lk_cons (q : Str × α) (l : List (Str × α)) (x : Str) : lk (q :: l) x = if q.1 = x then some q.2 else lk l x := by
  unfold lk
  rw [List.find?_cons]
  by_cases h : q.1 = x
  · rw [if_pos h, decide_eq_true h]
    rfl
  · rw [if_neg h, decide_eq_false h]
theorem lk_not {l : List (Str × α)} {x : Str} : x ∉ l.map (·.1) → lk l x = none := by
  induction l with
  | nil => intro _; rfl
  | cons q l ih =>
    intro h
    rw [List.map_cons, List.mem_cons, not_or] at h
    rw [lk_cons, if_neg (fun e => h.1 e.symm), ih h.2]
theorem lk_some {l : List (Str × α)} {x : Str} {v : α} (h : lk l x = some v) : (x, v) ∈ l := by
  induction l with
  | nil => cases h
  | cons q l ih =>
    rw [lk_cons] at h
    by_cases e : q.1 = x
    · rw [if_pos e] at h
      cases h
      rw [← e]
      exact List.mem_cons_self
    · rw [if_neg e] at h
      exact List.mem_cons_of_mem _ (ih h)
theorem lk_mem {l : List (Str × α)} (n : (l.map (·.1)).Nodup) {x : Str} {v : α} (h : (x, v) ∈ l) : lk l x = some v := by
  induction l with
  | nil => cases h
  | cons q l ih =>
    rw [List.map_cons, List.nodup_cons] at n
    rw [lk_cons]
    rcases List.mem_cons.mp h with e | h
    · subst e
      rw [if_pos rfl]
    · have hne : q.1 ≠ x := fun e => n.1 (e ▸ List.mem_map_of_mem (f := (·.1)) h)
      rw [if_neg hne]
      exact ih n.2 h
theorem lk_in {l : List (Str × α)} {x : Str} (h : x ∈ l.map (·.1)) : ∃ v, lk l x = some v := by
  induction l with
  | nil => cases h
  | cons q l ih =>
    rw [lk_cons]
    by_cases e : q.1 = x
    · exact ⟨q.2, if_pos e⟩
    · rw [if_neg e]
      rw [List.map_cons] at h
      exact ih ((List.mem_cons.mp h).resolve_left (fun z => e z.symm))
theorem lk_perm {l m : List (Str × α)} (p : l.Perm m) (n : (l.map (·.1)).Nodup) (x : Str) : lk l x = lk m x := by
  have n2 : (m.map (·.1)).Nodup := (p.map (·.1)).nodup_iff.mp n
  cases e : lk l x with
  | some v => exact (lk_mem n2 (p.mem_iff.mp (lk_some e))).symm
  | none =>
    cases e2 : lk m x with
    | none => rfl
    | some v =>
      rw [lk_mem n (p.mem_iff.mpr (lk_some e2))] at e
      cases e
theorem asc_ext : ∀ {a b : List (Str × α)}, Asc a → Asc b → (∀ x, lk a x = lk b x) → a = b
  | [], [], _, _, _ => rfl
  | [], q :: s, _, _, h => by
    have e := h q.1
    rw [lk_cons, if_pos rfl] at e
    cases e
  | p :: r, [], _, _, h => by
    have e := h p.1
    rw [lk_cons, if_pos rfl] at e
    cases e
  | p :: r, q :: s, ha, hb, h => by
    obtain ⟨a1, a2⟩ := List.pairwise_cons.mp (show ((p.1 :: r.map (·.1))).Pairwise nlt from ha)
    obtain ⟨b1, b2⟩ := List.pairwise_cons.mp (show ((q.1 :: s.map (·.1))).Pairwise nlt from hb)
    have hk : p.1 = q.1 := by
      by_cases e : p.1 = q.1
      · exact e
      · exfalso
        have e1 := h p.1
        rw [lk_cons, if_pos rfl, lk_cons, if_neg (fun z => e z.symm)] at e1
        have e2 := h q.1
        rw [lk_cons, if_neg e, lk_cons, if_pos rfl] at e2
        have m1 : p.1 ∈ s.map (·.1) := List.mem_map_of_mem (f := (·.1)) (lk_some e1.symm)
        have m2 : q.1 ∈ r.map (·.1) := List.mem_map_of_mem (f := (·.1)) (lk_some e2)
        exact nlt_irr _ (nlt_trans (a1 _ m2) (b1 _ m1))
    have hv : p.2 = q.2 := by
      have e := h p.1
      rw [lk_cons, if_pos rfl, lk_cons, if_pos hk.symm] at e
      exact Option.some.inj e
    have ht : r = s := asc_ext a2 b2 fun x => by
      have e := h x
      rw [lk_cons, lk_cons] at e
      by_cases hx : p.1 = x
      · have n1 : x ∉ r.map (·.1) := fun m => nlt_irr x (by have h := a1 _ m; rw [hx] at h; exact h)
        have n2 : x ∉ s.map (·.1) := fun m => nlt_irr x (by have h := b1 _ m; rw [← hk, hx] at h; exact h)
        rw [lk_not n1, lk_not n2]
      · rw [if_neg hx, if_neg (fun z => hx (hk.trans z))] at e
        exact e
    rw [ht]
    refine congrArg (· :: s) ?_
    obtain ⟨p1, p2⟩ := p
    obtain ⟨q1, q2⟩ := q
    cases hk
    cases hv
    rfl
end
/-! ### joins -/
def omax : Option Int → Option Int → Option Int
  | none, o => o
  | some a, none => some a
  | some a, some b => some (mx b a)
theorem mx_max (i j : Int) : mx i j = max i j := by
  unfold mx
  split <;> omega
theorem omax_some (a b : Int) : omax (some a) (some b) = some (max a b) := by
  show some (mx b a) = _
  rw [mx_max, Int.max_comm]
theorem omax_none (a : Option Int) : omax a none = a := by cases a <;> rfl
theorem omax_comm (a b : Option Int) : omax a b = omax b a := by
  cases a <;> cases b <;> try rfl
  rw [omax_some, omax_some, Int.max_comm]
theorem omax_assoc (a b c : Option Int) : omax (omax a b) c = omax a (omax b c) := by
  cases a with
  | none => rfl
  | some a =>
    cases b with
    | none => rfl
    | some b =>
      cases c with
      | none => rw [omax_none, omax_none]
      | some c => rw [omax_some, omax_some, omax_some, omax_some, Int.max_assoc]
theorem omax_self (a : Option Int) : omax a a = a := by
  cases a with
  | none => rfl
  | some a => rw [omax_some, Int.max_self]
theorem omax_add (a b : Option Int) (n : Int) : (omax a b).map (· + n) = omax (a.map (· + n)) (b.map (· + n)) := by
  cases a <;> cases b <;> try rfl
  rename_i a b
  rw [omax_some]
  show some (max a b + n) = omax (some (a + n)) (some (b + n))
  rw [omax_some]
  congr 1
  omega
theorem lk_put (acc : Plan) (x y : Str) (v : Int) : lk (putQ acc x v) y = if y = x then some v else lk acc y := by
  have h := valV_put (acc.map kvI) (Sum.inr x : Key) (Sum.inr y : Key) (V.int v)
  rw [putK_putQ, valV_lkI, valV_lkI] at h
  have inj : ∀ a b : Option Int, a.map V.int = b.map V.int → a = b := fun a b e => by
    cases a with
    | none => cases b with
      | none => rfl
      | some b => cases e
    | some a => cases b with
      | none => cases e
      | some b =>
        injection e with e
        injection e with e
        rw [e]
  refine inj _ _ (h.trans ?_)
  by_cases e : y = x
  · rw [if_pos (by rw [e]), if_pos e]
    rfl
  · rw [if_neg (fun z => e (Sum.inr.inj z)), if_neg e]
theorem putQ_names (acc : Plan) (x : Str) (v : Int) : (acc.map (·.1)).Nodup → ((putQ acc x v).map (·.1)).Nodup := by
  intro n
  unfold putQ
  by_cases h : (acc.any fun p => decide (p.1 = x)) = true
  · rw [if_pos h, List.map_map]
    have e : acc.map ((fun x : Str × Int => x.1) ∘ fun p => if p.1 = x then (p.1, v) else p) = acc.map (·.1) := List.map_congr_left fun p _ => by
      show (if p.1 = x then (p.1, v) else p).1 = p.1
      split <;> rfl
    rw [e]
    exact n
  · rw [if_neg h, List.map_append, List.nodup_append]
    refine ⟨n, by simp, fun a ha b hb e => h ?_⟩
    have hb' : b = x := by simpa using hb
    obtain ⟨p, hp, rfl⟩ := List.mem_map.mp ha
    exact List.any_eq_true.mpr ⟨p, hp, decide_eq_true (e.trans hb')⟩
theorem lk_step (acc : Plan) (q : Str × Int) (y : Str) : lk (step acc q) y = omax (lk acc y) (if q.1 = y then some q.2 else none) := by
  unfold step
  rw [lk_put]
  by_cases h : y = q.1
  · rw [if_pos h, if_pos h.symm, h]
    cases e : lk acc q.1 with
    | none =>
      show some (mx q.2 q.2) = some q.2
      rw [mx_max, Int.max_self]
    | some a => rfl
  · rw [if_neg h, if_neg (fun z => h z.symm), omax_none]
theorem lk_steps : ∀ (ps acc : Plan) (y : Str), (ps.map (·.1)).Nodup → lk (steps acc ps) y = omax (lk acc y) (lk ps y)
  | [], acc, y, _ => (omax_none _).symm
  | q :: ps, acc, y, n => by
    rw [List.map_cons, List.nodup_cons] at n
    show lk (steps (step acc q) ps) y = _
    rw [lk_steps ps _ y n.2, lk_step, lk_cons, omax_assoc]
    by_cases h : q.1 = y
    · have e : lk ps y = none := lk_not (h ▸ n.1)
      rw [if_pos h, if_pos h, e, omax_none]
    · rw [if_neg h, if_neg h]
      rfl
theorem steps_nd : ∀ (ps acc : Plan), (acc.map (·.1)).Nodup → ((steps acc ps).map (·.1)).Nodup
  | [], _, n => n
  | q :: ps, acc, n => steps_nd ps _ (putQ_names acc q.1 _ n)
def lks (pss : List Plan) (y : Str) : Option Int := pss.foldl (fun o ps => omax o (lk ps y)) none
theorem lk_joins : ∀ (pss : List Plan) (acc : Plan) (y : Str), (∀ ps ∈ pss, (ps.map (·.1)).Nodup) → lk (pss.foldl steps acc) y = pss.foldl (fun o ps => omax o (lk ps y)) (lk acc y)
  | [], _, _, _ => rfl
  | ps :: pss, acc, y, n => by
    show lk (pss.foldl steps (steps acc ps)) y = _
    rw [lk_joins pss _ y fun x hx => n x (List.mem_cons_of_mem _ hx), lk_steps ps acc y (n ps List.mem_cons_self)]
    rfl
theorem joins_nd : ∀ (pss : List Plan) (acc : Plan), (acc.map (·.1)).Nodup → ((pss.foldl steps acc).map (·.1)).Nodup
  | [], _, n => n
  | ps :: pss, acc, n => joins_nd pss _ (steps_nd ps acc n)
/-- the order in which the pairs are sorted -/
theorem le_pair (p q : Str × Int) : PySem.W.dataLe false prD p q = decide (nlt p.1 q.1 ∨ (p.1 = q.1 ∧ p.2 ≤ q.2)) := by
  have e : PySem.W.dataLt (prD q) (prD p) = PySem.W.DatumOrd.lt q p := PySem.W.DatumOrd.lt_eq q p
  show (!PySem.W.dataLt (prD q) (prD p)) = _
  rw [e]
  show (!(if q.1 = p.1 then decide (q.2 < p.2) else decide (q.1.cps.toList < p.1.cps.toList))) = _
  by_cases h : q.1 = p.1
  · rw [if_pos h]
    by_cases h2 : q.2 < p.2
    · rw [decide_eq_true h2, decide_eq_false]
      · rfl
      · rintro (h3 | ⟨_, h3⟩)
        · rw [h] at h3
          exact nlt_irr _ h3
        · omega
    · rw [decide_eq_false h2, decide_eq_true]
      · rfl
      · exact .inr ⟨h.symm, by omega⟩
  · rw [if_neg h]
    by_cases h2 : nlt q.1 p.1
    · rw [decide_eq_true h2, decide_eq_false]
      · rfl
      · rintro (h3 | ⟨h3, _⟩)
        · exact nlt_irr _ (nlt_trans h2 h3)
        · exact h h3.symm
    · rw [decide_eq_false h2, decide_eq_true]
      · rfl
      · rcases nlt_tri p.1 q.1 with h3 | h3 | h3
        · exact .inl h3
        · exact absurd h3.symm h
        · exact absurd h3 h2
theorem sort_asc (l : Plan) (n : (l.map (·.1)).Nodup) : Asc (l.mergeSort (PySem.W.dataLe false prD)) := by
  have pm := List.mergeSort_perm l (PySem.W.dataLe false prD)
  have srt : (l.mergeSort (PySem.W.dataLe false prD)).Pairwise fun a b => PySem.W.dataLe false prD a b = true := by
    refine List.pairwise_mergeSort (fun a b c h1 h2 => ?_) (fun a b => ?_) l
    · rw [le_pair, decide_eq_true_eq] at h1 h2 ⊢
      rcases h1 with h1 | ⟨h1, h1'⟩
      · rcases h2 with h2 | ⟨h2, _⟩
        · exact .inl (nlt_trans h1 h2)
        · exact .inl (h2 ▸ h1)
      · rcases h2 with h2 | ⟨h2, h2'⟩
        · exact .inl (h1 ▸ h2)
        · exact .inr ⟨h1.trans h2, Int.le_trans h1' h2'⟩
    · rw [le_pair, le_pair, Bool.or_eq_true, decide_eq_true_eq, decide_eq_true_eq]
      rcases nlt_tri a.1 b.1 with h | h | h
      · exact .inl (.inl h)
      · rcases Int.le_total a.2 b.2 with h2 | h2
        · exact .inl (.inr ⟨h, h2⟩)
        · exact .inr (.inr ⟨h.symm, h2⟩)
      · exact .inr (.inl h)
  have n2 : ((l.mergeSort (PySem.W.dataLe false prD)).map (·.1)).Nodup := ((pm.map (·.1)).nodup_iff).mpr n
  unfold Asc
  have both := srt.and (List.pairwise_map.mp n2)
  refine List.pairwise_map.mpr (both.imp fun {a b} h => ?_)
  obtain ⟨h1, h2⟩ := h
  rw [le_pair, decide_eq_true_eq] at h1
  rcases h1 with h1 | ⟨h1, _⟩
  · exact h1
  · exact absurd h1 h2
theorem joinM_asc (pss : List Plan) : Asc (joinM pss) := sort_asc _ (joins_nd pss [] List.nodup_nil)
theorem lk_joinM (pss : List Plan) (h : ∀ ps ∈ pss, Asc ps) (y : Str) : lk (joinM pss) y = lks pss y := by
  unfold joinM
  have pm := List.mergeSort_perm (joinAll pss) (PySem.W.dataLe false prD)
  have n : ((joinAll pss).map (·.1)).Nodup := joins_nd pss [] List.nodup_nil
  rw [lk_perm pm ((pm.map (·.1)).nodup_iff.mpr n) y]
  exact lk_joins pss [] y fun ps hp => (h ps hp).nd
theorem lk_join2 {a b : Plan} (ha : Asc a) (hb : Asc b) (y : Str) : lk (joinM [a, b]) y = omax (lk a y) (lk b y) := by
  rw [lk_joinM [a, b] (fun ps h => by
    rcases List.mem_cons.mp h with rfl | h
    · exact ha
    · rw [List.mem_singleton.mp h]
      exact hb) y]
  rfl
theorem lk_join3 {a b c : Plan} (ha : Asc a) (hb : Asc b) (hc : Asc c) (y : Str) : lk (joinM [a, b, c]) y = omax (omax (lk a y) (lk b y)) (lk c y) := by
  rw [lk_joinM [a, b, c] (fun ps h => by
    rcases List.mem_cons.mp h with rfl | h
    · exact ha
    · rcases List.mem_cons.mp h with rfl | h
      · exact hb
      · rw [List.mem_singleton.mp h]
        exact hc) y]
  rfl
theorem later_names (a : Plan) (n : Int) : (laterM a n).map (·.1) = a.map (·.1) := by
  unfold laterM
  rw [List.map_map]
  rfl
theorem later_asc {a : Plan} (h : Asc a) (n : Int) : Asc (laterM a n) := by
  unfold Asc
  rw [later_names]
  exact h
theorem lk_later (a : Plan) (n : Int) (y : Str) : lk (laterM a n) y = (lk a y).map (· + n) := by
  induction a with
  | nil => rfl
  | cons q a ih =>
    show lk ((q.1, q.2 + n) :: laterM a n) y = _
    rw [lk_cons, lk_cons, ih]
    by_cases h : q.1 = y
    · rw [if_pos h, if_pos h]
      rfl
    · rw [if_neg h, if_neg h]
theorem join_comm {a b : Plan} (ha : Asc a) (hb : Asc b) : joinM [a, b] = joinM [b, a] := asc_ext (joinM_asc _) (joinM_asc _) fun x => by
  rw [lk_join2 ha hb, lk_join2 hb ha, omax_comm]
theorem join_again {a b : Plan} (ha : Asc a) (hb : Asc b) : joinM [a, b] = joinM [a, b, a] := asc_ext (joinM_asc _) (joinM_asc _) fun x => by
  rw [lk_join2 ha hb, lk_join3 ha hb ha, omax_comm (omax _ _), ← omax_assoc, omax_self]
theorem join_assoc {a b c : Plan} (ha : Asc a) (hb : Asc b) (hc : Asc c) : joinM [joinM [a, b], c] = joinM [a, joinM [b, c]] := asc_ext (joinM_asc _) (joinM_asc _) fun x => by
  rw [lk_join2 (joinM_asc _) hc, lk_join2 ha (joinM_asc _), lk_join2 ha hb, lk_join2 hb hc, omax_assoc]
theorem join_later {a b : Plan} (ha : Asc a) (hb : Asc b) (n : Int) : laterM (joinM [a, b]) n = joinM [laterM a n, laterM b n] := asc_ext (later_asc (joinM_asc _) n) (joinM_asc _) fun x => by
  rw [lk_later, lk_join2 ha hb, lk_join2 (later_asc ha n) (later_asc hb n), lk_later, lk_later, omax_add]
theorem later_back (a : Plan) (n : Int) : laterM (laterM a n) (0 - n) = a := by
  unfold laterM
  rw [List.map_map]
  have e : ∀ q ∈ a, ((fun q : Str × Int => (q.1, q.2 + (0 - n))) ∘ fun q => (q.1, q.2 + n)) q = q := fun q _ => by
    show (q.1, q.2 + n + (0 - n)) = q
    have e : q.2 + n + (0 - n) = q.2 := by omega
    rw [e]
  calc _ = a.map id := List.map_congr_left e
    _ = a := List.map_id _

/-! ### being within -/
theorem lim_asc {a : Plan} (h : Asc a) : Asc (lim a) := by
  unfold Asc lim
  rw [List.map_map]
  exact h
theorem lk_lim (a : Plan) (y : Str) : lk (lim a) y = (lk a y).map some := by
  induction a with
  | nil => rfl
  | cons q a ih =>
    show lk ((q.1, some q.2) :: lim a) y = _
    rw [lk_cons, lk_cons, ih]
    by_cases h : q.1 = y
    · rw [if_pos h, if_pos h]
      rfl
    · rw [if_neg h, if_neg h]
theorem within_iff {one other : Lim} (h : Asc one) : withinM one other = true ↔ ∀ x e, lk one x = some e → ∃ l, lk other x = some l ∧ roomM e l = true := by
  unfold withinM
  rw [List.all_eq_true]
  constructor
  · intro f x e hx
    have h1 := f _ (lk_some hx)
    cases hl : lk other x with
    | none =>
      have h1' : (match lk other x with | none => false | some l => roomM e l) = true := h1
      rw [hl] at h1'
      cases h1'
    | some l =>
      have h1' : (match lk other x with | none => false | some l => roomM e l) = true := h1
      rw [hl] at h1'
      exact ⟨l, rfl, h1'⟩
  · intro f q hq
    obtain ⟨l, h1, h2⟩ := f q.1 q.2 (lk_mem h.nd hq)
    show (match lk other q.1 with | none => false | some l => roomM q.2 l) = true
    rw [h1]
    exact h2
theorem bool_eq {a b : Bool} (h : a = true ↔ b = true) : a = b := Bool.eq_iff_iff.mpr h
theorem within_join {a b : Plan} (ha : Asc a) (hb : Asc b) : withinM (lim a) (lim b) = decide (joinM [a, b] = b) := by
  refine bool_eq ?_
  rw [within_iff (lim_asc ha), decide_eq_true_eq]
  constructor
  · intro f
    refine asc_ext (joinM_asc _) hb fun x => ?_
    rw [lk_join2 ha hb]
    cases e : lk a x with
    | none => rfl
    | some u =>
      obtain ⟨l, h1, h2⟩ := f x (some u) (by rw [lk_lim, e]; rfl)
      rw [lk_lim] at h1
      cases e2 : lk b x with
      | none => rw [e2] at h1; cases h1
      | some v =>
        rw [e2] at h1
        cases h1
        have h3 : u ≤ v := of_decide_eq_true h2
        rw [omax_some, Int.max_eq_right h3]
  · intro h x e hx
    rw [lk_lim] at hx
    cases e1 : lk a x with
    | none => rw [e1] at hx; cases hx
    | some u =>
      rw [e1] at hx
      cases hx
      have h2 := lk_join2 ha hb x
      rw [h, e1] at h2
      cases e2 : lk b x with
      | none => rw [e2] at h2; cases h2
      | some v =>
        rw [e2, omax_some] at h2
        have h3 := Option.some.inj h2
        exact ⟨some v, by rw [lk_lim, e2]; rfl, decide_eq_true (by omega)⟩
theorem join_within {a b : Plan} {t : Lim} (ha : Asc a) (hb : Asc b) : withinM (lim (joinM [a, b])) t = (withinM (lim a) t && withinM (lim b) t) := by
  refine bool_eq ?_
  rw [Bool.and_eq_true, within_iff (lim_asc (joinM_asc _)), within_iff (lim_asc ha), within_iff (lim_asc hb)]
  have key : ∀ x, (∀ e, (omax (lk a x) (lk b x)).map some = some e → ∃ l, lk t x = some l ∧ roomM e l = true) ↔ ((∀ e, (lk a x).map some = some e → ∃ l, lk t x = some l ∧ roomM e l = true) ∧ ∀ e, (lk b x).map some = some e → ∃ l, lk t x = some l ∧ roomM e l = true) := fun x => by
    have le : ∀ {u v : Int} {l : Option Int}, u ≤ v → roomM (some v) l = true → roomM (some u) l = true := fun {u v l} h1 h2 => by
      cases l with
      | none => rfl
      | some l => exact decide_eq_true (Int.le_trans h1 (of_decide_eq_true h2))
    cases e1 : lk a x with
    | none => exact ⟨fun f => ⟨fun e h => (by cases h), f⟩, fun f => f.2⟩
    | some u =>
      cases e2 : lk b x with
      | none => exact ⟨fun f => ⟨f, fun e h => (by cases h)⟩, fun f => f.1⟩
      | some v =>
        rw [omax_some]
        constructor
        · intro f
          obtain ⟨l, h1, h2⟩ := f (some (max u v)) rfl
          exact ⟨fun e h => (by cases h; exact ⟨l, h1, le (Int.le_max_left _ _) h2⟩), fun e h => (by cases h; exact ⟨l, h1, le (Int.le_max_right _ _) h2⟩)⟩
        · intro ⟨f1, f2⟩ e h
          cases h
          rcases Int.le_total u v with hle | hle
          · rw [Int.max_eq_right hle]
            exact f2 _ rfl
          · rw [Int.max_eq_left hle]
            exact f1 _ rfl
  simp only [lk_lim, lk_join2 ha hb]
  exact ⟨fun f => ⟨fun x => ((key x).mp (f x)).1, fun x => ((key x).mp (f x)).2⟩, fun f x => (key x).mpr ⟨f.1 x, f.2 x⟩⟩
theorem within_later {a b : Plan} (ha : Asc a) (n : Int) : withinM (lim (laterM a n)) (lim (laterM b n)) = withinM (lim a) (lim b) := by
  refine bool_eq ?_
  rw [within_iff (lim_asc (later_asc ha n)), within_iff (lim_asc ha)]
  have key : ∀ x, (∀ e, ((lk a x).map (· + n)).map some = some e → ∃ l, ((lk b x).map (· + n)).map some = some l ∧ roomM e l = true) ↔ (∀ e, (lk a x).map some = some e → ∃ l, (lk b x).map some = some l ∧ roomM e l = true) := fun x => by
    cases e1 : lk a x with
    | none => exact ⟨fun _ e h => (by cases h), fun _ e h => (by cases h)⟩
    | some u =>
      cases e2 : lk b x with
      | none =>
        constructor
        · intro f
          obtain ⟨l, h, _⟩ := f (some (u + n)) rfl
          cases h
        · intro f
          obtain ⟨l, h, _⟩ := f (some u) rfl
          cases h
      | some v =>
        constructor
        · intro f e h
          cases h
          obtain ⟨l, h, h2⟩ := f (some (u + n)) rfl
          cases h
          have h3 : u + n ≤ v + n := of_decide_eq_true h2
          have h4 : u ≤ v := by omega
          exact ⟨some v, rfl, decide_eq_true h4⟩
        · intro f e h
          cases h
          obtain ⟨l, h, h2⟩ := f (some u) rfl
          cases h
          have h3 : u ≤ v := of_decide_eq_true h2
          have h4 : u + n ≤ v + n := by omega
          exact ⟨some (v + n), rfl, decide_eq_true h4⟩
  simp only [lk_lim, lk_later]
  exact ⟨fun f x => (key x).mp (f x), fun f x => (key x).mpr (f x)⟩
theorem room_trans {a b c : Option Int} (h1 : roomM a b = true) (h2 : roomM b c = true) : roomM a c = true := by
  cases c with
  | none => cases a <;> rfl
  | some c =>
    cases b with
    | none => cases h2
    | some b =>
      cases a with
      | none => cases h1
      | some a => exact decide_eq_true (Int.le_trans (of_decide_eq_true h1) (of_decide_eq_true h2))
theorem within_trans {a b c : Lim} (ha : Asc a) (hb : Asc b) (h1 : withinM a b = true) (h2 : withinM b c = true) : withinM a c = true := by
  rw [within_iff ha] at h1 ⊢
  rw [within_iff hb] at h2
  intro x e hx
  obtain ⟨l, e1, r1⟩ := h1 x e hx
  obtain ⟨m, e2, r2⟩ := h2 x l e1
  exact ⟨m, e2, room_trans r1 r2⟩
theorem within_anti {a b : Lim} (ha : Asc a) (hb : Asc b) (h1 : withinM a b = true) (h2 : withinM b a = true) : a = b := by
  rw [within_iff ha] at h1
  rw [within_iff hb] at h2
  refine asc_ext ha hb fun x => ?_
  have anti : ∀ {u v : Option Int}, roomM u v = true → roomM v u = true → u = v := fun {u v} r1 r2 => by
    cases u with
    | none =>
      cases v with
      | none => rfl
      | some v => cases r1
    | some u =>
      cases v with
      | none => cases r2
      | some v =>
        have h3 : u ≤ v := of_decide_eq_true r1
        have h4 : v ≤ u := of_decide_eq_true r2
        rw [Int.le_antisymm h3 h4]
  cases e1 : lk a x with
  | some u =>
    obtain ⟨l, e2, r1⟩ := h1 x u e1
    obtain ⟨m, e3, r2⟩ := h2 x l e2
    rw [e1] at e3
    cases e3
    rw [e2, anti r1 r2]
  | none =>
    cases e2 : lk b x with
    | none => rfl
    | some v =>
      obtain ⟨l, e3, _⟩ := h2 x v e2
      rw [e1] at e3
      cases e3
def free (a : Plan) : Lim := a.map fun q => (q.1, none)
theorem free_asc {a : Plan} (h : Asc a) : Asc (free a) := by
  unfold Asc free
  rw [List.map_map]
  exact h
theorem lk_free (a : Plan) (y : Str) : lk (free a) y = (lk a y).map fun _ => none := by
  induction a with
  | nil => rfl
  | cons q a ih =>
    show lk ((q.1, none) :: free a) y = _
    rw [lk_cons, lk_cons, ih]
    by_cases h : q.1 = y
    · rw [if_pos h, if_pos h]
      rfl
    · rw [if_neg h, if_neg h]
theorem within_free {a : Plan} (h : Asc a) : withinM (lim a) (free a) = true := by
  rw [within_iff (lim_asc h)]
  intro x e hx
  rw [lk_lim] at hx
  cases e1 : lk a x with
  | none => rw [e1] at hx; cases hx
  | some u =>
    refine ⟨none, by rw [lk_free, e1]; rfl, ?_⟩
    cases e <;> rfl
theorem free_within (a : Plan) : withinM (free a) (lim a) = decide (a = []) := by
  cases a with
  | nil => rfl
  | cons q a =>
    have e : withinM (free (q :: a)) (lim (q :: a)) = false := by
      show (_ && _) = false
      have e1 : lk (lim (q :: a)) q.1 = some (some q.2) := by
        rw [lk_lim, lk_cons, if_pos rfl]
        rfl
      show ((match lk (lim (q :: a)) q.1 with | none => false | some l => roomM none l) && _) = false
      rw [e1]
      rfl
    rw [e, decide_eq_false (fun z => by cases z)]
theorem bound_none {t : Lim} {a : Plan} (h : Asc t) (w : withinM t (lim a) = true) : t.filter (fun q => decide (q.2 = none)) = [] := by
  rw [within_iff h] at w
  refine List.filter_eq_nil_iff.mpr fun q hq he => ?_
  have e : q.2 = none := of_decide_eq_true he
  obtain ⟨l, h1, h2⟩ := w q.1 q.2 (lk_mem h.nd hq)
  rw [lk_lim] at h1
  cases e1 : lk a q.1 with
  | none => rw [e1] at h1; cases h1
  | some v =>
    rw [e1] at h1
    cases h1
    rw [e] at h2
    cases h2
end Cn
set_option Elab.async false
set_option linter.all false
set_option maxRecDepth 100000
set_option maxHeartbeats 4000000
/-! Over data: sorting. -/
namespace Dw
open PySem PySem.Spec PyProof.Rows L2 Cn LamX
section
variable {α : Type} [DecidableEq α] [PySem.W.DatumOrd α]
def leO (a b : α) : Bool := !PySem.W.DatumOrd.lt b a
theorem i_sortedA {f : α → Dt} (hf : ∀ a, (f a).pl = some (PySem.W.Datum.toD a)) {xs : List α} {q : Dt → Prop} (hd : ∀ a ∈ xs, (PySem.W.Datum.toD a).depth ≤ 60) (hs : PySem.W.Sortable (xs.map PySem.W.Datum.toD)) (h : q (.list ((xs.mergeSort leO).map f))) : sortedD [.list (xs.map f)] q := by
  have he : ∀ a, encD (f a) = PySem.W.Datum.toD a := fun a => by unfold encD; rw [hf a]; rfl
  have em : (xs.map f).map encD = xs.map PySem.W.Datum.toD := by
    rw [List.map_map]
    exact List.map_congr_left fun a _ => he a
  have e : (xs.map f).mergeSort leS = (xs.mergeSort leO).map f := by
    refine (List.map_mergeSort (fun a _ b _ => ?_)).symm
    show leO a b = !PySem.W.dataLt (encD (f b)) (encD (f a))
    rw [he, he, PySem.W.DatumOrd.lt_eq]
    rfl
  refine ⟨⟨fun d hd' => ?_, ?_, ?_⟩, ?_⟩
  · obtain ⟨a, ha, rfl⟩ := List.mem_map.mp hd'
    exact ⟨by rw [hf a]; rfl, by rw [he a]; exact hd a ha⟩
  · rw [em]
    intro d hd1 d' hd2
    obtain ⟨a, _, rfl⟩ := List.mem_map.mp hd1
    obtain ⟨b, _, rfl⟩ := List.mem_map.mp hd2
    exact PySem.W.DatumOrd.alike a b
  · rw [em]
    exact hs
  · rw [e]
    exact h
end
def sortS (ss : List Str) : List Str := ss.mergeSort leO
theorem leO_str (x y : Str) : leO x y = !decide (nlt y x) := rfl
theorem leO_str_trans {a b c : Str} (h1 : leO a b = true) (h2 : leO b c = true) : leO a c = true := by
  rw [leO_str, Bool.not_eq_true', decide_eq_false_iff_not] at h1 h2 ⊢
  intro h
  rcases nlt_tri a b with h3 | h3 | h3
  · exact h2 (nlt_trans h h3)
  · exact h2 (h3 ▸ h)
  · exact h1 h3
theorem leO_str_total (a b : Str) : (leO a b || leO b a) = true := by
  rw [leO_str, leO_str, Bool.or_eq_true, Bool.not_eq_true', Bool.not_eq_true', decide_eq_false_iff_not, decide_eq_false_iff_not]
  by_cases h : nlt b a
  · exact .inr fun h2 => nlt_irr _ (nlt_trans h h2)
  · exact .inl h
theorem sortS_perm (ss : List Str) : (sortS ss).Perm ss := List.mergeSort_perm ss leO
theorem sortS_asc {ss : List Str} (n : ss.Nodup) : (sortS ss).Pairwise nlt := by
  have srt : (sortS ss).Pairwise fun a b => leO a b = true := List.pairwise_mergeSort (le := leO) (fun a b c h1 h2 => leO_str_trans h1 h2) (fun a b => leO_str_total a b) ss
  have n2 : (sortS ss).Nodup := (sortS_perm ss).nodup_iff.mpr n
  refine (srt.and n2).imp fun {a b} h => ?_
  obtain ⟨h1, h2⟩ := h
  rw [leO_str, Bool.not_eq_true', decide_eq_false_iff_not] at h1
  rcases nlt_tri a b with h | h | h
  · exact h
  · exact absurd h h2
  · exact absurd h h1
theorem i_sortedS {ss : List Str} {q : Dt → Prop} (h : q (.list ((sortS ss).map .str))) : sortedD [.list (ss.map .str)] q :=
  i_sortedA (α := Str) (f := Dt.str) (fun _ => rfl) (fun a _ => by show PyData.depth (.str a) ≤ 60; unfold PyData.depth; omega) (Or.inr (by
    intro d hd
    obtain ⟨a, _, rfl⟩ := List.mem_map.mp hd
    exact And.intro (fun e => nomatch (show PyData.str a = .none from e)) fun xs e => nomatch (show PyData.str a = .tuple xs from e))) h
/-- ascending texts are given by what they hold -/
theorem asc_unique : ∀ {a b : List Str}, a.Pairwise nlt → b.Pairwise nlt → (∀ x, x ∈ a ↔ x ∈ b) → a = b
  | [], [], _, _, _ => rfl
  | [], y :: b, _, _, h => absurd ((h y).mpr List.mem_cons_self) List.not_mem_nil
  | x :: a, [], _, _, h => absurd ((h x).mp List.mem_cons_self) List.not_mem_nil
  | x :: a, y :: b, ha, hb, h => by
    obtain ⟨a1, a2⟩ := List.pairwise_cons.mp ha
    obtain ⟨b1, b2⟩ := List.pairwise_cons.mp hb
    have e : x = y := by
      rcases List.mem_cons.mp ((h x).mp List.mem_cons_self) with e | h1
      · exact e
      · rcases List.mem_cons.mp ((h y).mpr List.mem_cons_self) with e | h2
        · exact e.symm
        · exact absurd (nlt_trans (b1 x h1) (a1 y h2)) (nlt_irr _)
    subst e
    rw [asc_unique a2 b2 fun z => ⟨fun hz => ?_, fun hz => ?_⟩]
    · rcases List.mem_cons.mp ((h z).mp (List.mem_cons_of_mem _ hz)) with e | h1
      · subst e; exact absurd (a1 _ hz) (nlt_irr _)
      · exact h1
    · rcases List.mem_cons.mp ((h z).mpr (List.mem_cons_of_mem _ hz)) with e | h1
      · subst e; exact absurd (b1 _ hz) (nlt_irr _)
      · exact h1
/-! plans and limits as typed data -/
theorem limD_toD (l : Lim) : limD l = PySem.W.Datum.toD (PySem.W.Tup.mk l) := by
  show PyData.tuple (l.map lrD) = .tuple (l.map PySem.W.Datum.toD)
  refine congrArg PyData.tuple (List.map_congr_left fun q _ => ?_)
  obtain ⟨x, o⟩ := q
  cases o <;> rfl
theorem lim_depth (l : Lim) : (limD l).depth ≤ 60 := by rw [limD_toD]; exact Nat.le_trans (PySem.W.Datum.depth_le _) (by decide)
theorem plan_depth (l : Plan) : (planD l).depth ≤ 60 := by rw [← planD_lim]; exact lim_depth _
theorem lim_eqv (l m : Lim) : PyData.eqv (limD l) (limD m) = decide (l = m) := by
  rw [limD_toD, limD_toD, PySem.W.Datum.eqv]
  exact decide_eq_decide.mpr ⟨fun h => by injection h, fun h => by rw [h]⟩
theorem lim_inj {a b : Plan} (h : lim a = lim b) : a = b := by
  induction a generalizing b with
  | nil => cases b with
    | nil => rfl
    | cons q b => cases h
  | cons p a ih => cases b with
    | nil => cases h
    | cons q b =>
      have h' : (p.1, some p.2) :: lim a = (q.1, some q.2) :: lim b := h
      injection h' with h1 h2
      injection h1 with h3 h4
      injection h4 with h4
      rw [ih h2]
      obtain ⟨p1, p2⟩ := p
      obtain ⟨q1, q2⟩ := q
      cases h3
      cases h4
      rfl
theorem plan_eqv (a b : Plan) : PyData.eqv (planD a) (planD b) = decide (a = b) := by
  rw [← planD_lim, ← planD_lim, lim_eqv]
  exact decide_eq_decide.mpr ⟨lim_inj, fun h => by rw [h]⟩
theorem plAll_map {α : Type} {f : α → Dt} {g : α → PyData} (h : ∀ a, (f a).pl = some (g a)) : ∀ l : List α, plAll (l.map f) = some (l.map g)
  | [] => rfl
  | a :: l => by
    show (match (f a).pl, plAll (l.map f) with | some y, some ys => some (y :: ys) | _, _ => none) = _
    rw [h a, plAll_map h l]
    rfl
theorem pl_tuple {ds : List Dt} {es : List PyData} (h : plAll ds = some es) : (Dt.tuple ds).pl = some (.tuple es) := by
  show (plAll ds).map PyData.tuple = _
  rw [h]
  rfl
theorem pl_list {ds : List Dt} {es : List PyData} (h : plAll ds = some es) : (Dt.list ds).pl = some (.list es) := by
  show (plAll ds).map PyData.list = _
  rw [h]
  rfl
theorem i_eqB {a b : Bool} {q : Dt → Prop} (h : q (.bool (a == b))) : eqD (.bool a) (.bool b) q := by
  refine ⟨by show PyData.depth (.bool a) ≤ 60; unfold PyData.depth; omega, ?_⟩
  have e : PyData.eqv (.bool a) (.bool b) = (a == b) := by
    unfold PyData.eqv
    rfl
  rw [e]
  exact h
theorem i_neB {a b : Bool} {q : Dt → Prop} (h : q (.bool (a != b))) : neD (.bool a) (.bool b) q := by
  refine ⟨by show PyData.depth (.bool a) ≤ 60; unfold PyData.depth; omega, ?_⟩
  have e : PyData.eqv (.bool a) (.bool b) = (a == b) := by
    unfold PyData.eqv
    rfl
  rw [e]
  exact h
end Dw
set_option Elab.async false
set_option linter.all false
set_option maxRecDepth 100000
set_option maxHeartbeats 4000000
/-! Over data: typed data, what repr may be asked of, names and their sets. -/
namespace Dw
open PySem PySem.Spec PyProof.Rows L2 Cn LamX
/-- typed values as data -/
class Enc (α : Type) [DecidableEq α] [PySem.W.Datum α] where
  dt : α → Dt
  pl : ∀ a, (dt a).pl = some (PySem.W.Datum.toD a)
open PySem.W (Datum)
instance : Enc Int := ⟨.int, fun _ => rfl⟩
instance : Enc Bool := ⟨.bool, fun _ => rfl⟩
instance : Enc Str := ⟨.str, fun _ => rfl⟩
instance : Enc Unit := ⟨fun _ => .none, fun _ => rfl⟩
section
variable {α β : Type} [DecidableEq α] [Datum α] [Enc α] [DecidableEq β] [Datum β] [Enc β]
instance : Enc (List α) := ⟨fun xs => .list (xs.map Enc.dt), fun xs => pl_list (plAll_map Enc.pl xs)⟩
instance : Enc (PySem.W.Tup α) := ⟨fun xs => .tuple (xs.items.map Enc.dt), fun xs => pl_tuple (plAll_map Enc.pl xs.items)⟩
instance : Enc (α × β) := ⟨fun p => .tuple [Enc.dt p.1, Enc.dt p.2], fun p => pl_tuple (by
  have e2 : plAll [Enc.dt p.2] = some [Datum.toD p.2] := by
    unfold plAll
    rw [Enc.pl]
    rfl
  unfold plAll
  rw [Enc.pl, e2])⟩
instance [PySem.W.SomeDatum α] : Enc (Option α) := ⟨fun | none => .none | some a => Enc.dt a, fun | none => rfl | some a => Enc.pl a⟩
theorem i_eqE {a b : α} {q : Dt → Prop} (hd : Datum.depth α ≤ 60) (h : q (.bool (decide (a = b)))) : eqD (Enc.dt a) (Enc.dt b) q :=
  i_eq (Enc.pl a) (Enc.pl b) (Nat.le_trans (Datum.depth_le a) hd) (by rw [Datum.eqv]; exact h)
theorem i_neE {a b : α} {q : Dt → Prop} (hd : Datum.depth α ≤ 60) (h : q (.bool (!decide (a = b)))) : neD (Enc.dt a) (Enc.dt b) q :=
  i_ne (Enc.pl a) (Enc.pl b) (Nat.le_trans (Datum.depth_le a) hd) (by rw [Datum.eqv]; exact h)
end
theorem i_eqSs {x y : Str} {q : Dt → Prop} (h : q (.bool (decide (x = y)))) : eqD (.str x) (.str y) q := i_eqE (α := Str) (by decide) h
theorem i_neSs {x y : Str} {q : Dt → Prop} (h : q (.bool (!decide (x = y)))) : neD (.str x) (.str y) q := i_neE (α := Str) (by decide) h
theorem i_eqLS {x y : List Str} {q : Dt → Prop} (h : q (.bool (decide (x = y)))) : eqD (.list (x.map .str)) (.list (y.map .str)) q := i_eqE (α := List Str) (by decide) h
/-! ### repr -/
/-- data that repr may be asked of: k deep, of weight W -/
def Rp (k W : Nat) (d : Dt) : Prop := ∃ e, d.pd2 = some e ∧ e.hasDict = false ∧ e.leavesShort 20 = true ∧ e.showable = true ∧ e.depth ≤ k ∧ e.weight ≤ W
theorem Rp.mono {k W k' W' : Nat} {d : Dt} (h : Rp k W d) (h1 : k ≤ k') (h2 : W ≤ W') : Rp k' W' d := by
  obtain ⟨e, a, b, c, d, f, g⟩ := h
  exact ⟨e, a, b, c, d, by omega, by omega⟩
theorem rp_none {k W : Nat} : Rp k W .none := ⟨.none, rfl, rfl, rfl, rfl, Nat.zero_le _, Nat.zero_le _⟩
theorem rp_bool {k W : Nat} {b : Bool} : Rp k W (.bool b) := ⟨.bool b, rfl, rfl, rfl, rfl, Nat.zero_le _, Nat.zero_le _⟩
theorem int_shown {i : Int} (h : i.natAbs < 10 ^ 19) : (PyData.shown (.int i)).length ≤ 20 := by
  show (Str.ofString (toString i)).length ≤ 20
  have key : ∀ n : Nat, n < 10 ^ 19 → (Str.ofString (toString (n : Int))).length ≤ 19 := fun n hn => by
    rw [ofString_len]
    have e : (toString (n : Int)).length = (Nat.toDigits 10 n).length := by
      show (Nat.repr n).length = _
      unfold Nat.repr
      rw [String.length_ofList]
    rw [e]
    exact digits10_le (by decide) hn
  rcases Int.lt_or_le i 0 with c | c
  · rw [len_text_neg c]
    have e : (0 : Int) - i = ((i.natAbs : Nat) : Int) := by omega
    rw [e]
    have := key i.natAbs h
    omega
  · have e : i = ((i.natAbs : Nat) : Int) := by omega
    rw [e]
    have := key i.natAbs h
    omega
theorem rp_int {k : Nat} {i : Int} (h : i.natAbs < 10 ^ 19) : Rp k 64 (.int i) := by
  have l : i.natAbs.log2 < 64 := by
    by_cases c : i.natAbs = 0
    · rw [c]; decide
    · exact (Nat.log2_lt c).mpr (Nat.lt_trans h (by decide))
  refine ⟨.int i, rfl, rfl, ?_, ?_, Nat.zero_le _, ?_⟩
  · show decide _ = true
    exact decide_eq_true (int_shown h)
  · show decide _ = true
    exact decide_eq_true (by omega)
  · show (if i == 0 then 0 else i.natAbs.log2 + 1) ≤ 64
    split <;> omega
theorem rp_str {k W : Nat} {x : Str} (h1 : x.length ≤ W) (h : ∀ c ∈ x.cps.toList, c < 4294967296) : Rp k W (.str x) := by
  refine ⟨.str x, rfl, rfl, ?_, rfl, Nat.zero_le _, h1⟩
  show (x.cps.toList.all fun c => decide (c < 16 ^ 8)) = true
  exact List.all_eq_true.mpr fun c hc => decide_eq_true (h c hc)
theorem rp_all {k W : Nat} : ∀ {ds : List Dt}, (∀ d ∈ ds, Rp k W d) → ∃ es, pd2All ds = some es ∧ PyData.hasDictAll es = false ∧ PyData.leavesShortAll 20 es = true ∧ PyData.showableAll es = true ∧ PyData.depthAll es ≤ k ∧ PyData.weightAll es ≤ ds.length * (W + 1)
  | [], _ => ⟨[], rfl, rfl, rfl, rfl, Nat.zero_le _, Nat.zero_le _⟩
  | d :: ds, h => by
    obtain ⟨e, a1, a2, a3, a4, a5, a6⟩ := h d List.mem_cons_self
    obtain ⟨es, b1, b2, b3, b4, b5, b6⟩ := rp_all fun x hx => h x (List.mem_cons_of_mem _ hx)
    refine ⟨e :: es, ?_, ?_, ?_, ?_, ?_, ?_⟩
    · unfold pd2All
      rw [a1, b1]
    · unfold PyData.hasDictAll
      rw [a2, b2]
      rfl
    · unfold PyData.leavesShortAll
      rw [a3, b3]
      rfl
    · unfold PyData.showableAll
      rw [a4, b4]
      rfl
    · unfold PyData.depthAll
      exact Nat.max_le.mpr ⟨a5, b5⟩
    · unfold PyData.weightAll
      rw [List.length_cons, Nat.add_mul]
      omega
theorem rp_list {k W n : Nat} {ds : List Dt} (h : ∀ d ∈ ds, Rp k W d) (hn : ds.length ≤ n) : Rp (k + 1) (n * (W + 1)) (.list ds) := by
  obtain ⟨es, b1, b2, b3, b4, b5, b6⟩ := rp_all h
  have hm : ds.length * (W + 1) ≤ n * (W + 1) := Nat.mul_le_mul_right _ hn
  refine ⟨.list es, ?_, ?_, ?_, ?_, ?_, ?_⟩
  · show (pd2All ds).map PyData.list = _
    rw [b1]
    rfl
  · show PyData.hasDictAll es = false
    exact b2
  · exact b3
  · exact b4
  · show PyData.depthAll es + 1 ≤ _
    omega
  · show PyData.weightAll es ≤ _
    omega
theorem rp_tuple {k W n : Nat} {ds : List Dt} (h : ∀ d ∈ ds, Rp k W d) (hn : ds.length ≤ n) : Rp (k + 1) (n * (W + 1)) (.tuple ds) := by
  obtain ⟨es, b1, b2, b3, b4, b5, b6⟩ := rp_all h
  have hm : ds.length * (W + 1) ≤ n * (W + 1) := Nat.mul_le_mul_right _ hn
  refine ⟨.tuple es, ?_, ?_, ?_, ?_, ?_, ?_⟩
  · show (pd2All ds).map PyData.tuple = _
    rw [b1]
    rfl
  · show PyData.hasDictAll es = false
    exact b2
  · exact b3
  · exact b4
  · show PyData.depthAll es + 1 ≤ _
    omega
  · show PyData.weightAll es ≤ _
    omega
def shownT (d : Dt) : Str := (d.pd2.getD .none).shown
theorem i_repr {k W : Nat} {d : Dt} {q : Dt → Prop} (h : Rp k W d) (hk : k ≤ 60) (hW : W ≤ 4500) (hq : q (.str (shownT d))) : reprX [d] q := by
  obtain ⟨e, a1, a2, a3, a4, a5, a6⟩ := h
  unfold reprX
  dsimp only
  rw [a1]
  have l := PyData.shown_le 20 (by decide) e a3
  refine ⟨⟨.inl a2, a4, by omega, by omega⟩, ?_⟩
  unfold shownT at hq
  rw [a1] at hq
  exact hq
/-! ### names -/
theorem letters_of {c : Nat} : c < 128 → Unicode.isAlpha c = true → (Unicode.isUpper c || Unicode.isTitle c) = false → c ∈ lettersS.cps.toList := by
  have h : ((List.range 128).all fun c => !Unicode.isAlpha c || (Unicode.isUpper c || Unicode.isTitle c) || lettersS.cps.toList.contains c) = true := by decide +kernel
  intro h1 h2 h3
  have := List.all_eq_true.mp h c (List.mem_range.mpr h1)
  rw [h2, h3] at this
  exact List.contains_iff_mem.mp (by simpa using this)
def letterS (c : Nat) : Bool := lettersS.cps.toList.contains c
theorem nameOk_eq (x : Str) : nameOk x = (decide (1 ≤ x.length) && decide (x.length ≤ 6) && x.cps.toList.all letterS) := by
  refine Bool.eq_iff_iff.mpr ⟨fun h => ?_, fun h => ?_⟩
  · unfold nameOk at h
    simp only [Bool.and_eq_true, decide_eq_true_eq] at h
    obtain ⟨h0, h1, h2, h3⟩ := h
    have e1 : x.cps.toList.all (fun c => decide (c < 128)) = true := by
      rw [Array.all_toList]
      exact h1
    have e2 : (decide (x.length > 0) && x.cps.toList.all Unicode.isAlpha) = true := by
      rw [Array.all_toList]
      exact h2
    have e3 : (x.cps.toList.any Unicode.isLower && !x.cps.toList.any fun c => Unicode.isUpper c || Unicode.isTitle c) = true := by
      rw [Array.any_toList, Array.any_toList]
      exact h3
    rw [Bool.and_eq_true] at e2 e3
    rw [Bool.and_eq_true, Bool.and_eq_true]
    refine ⟨⟨e2.1, decide_eq_true h0⟩, List.all_eq_true.mpr fun c hc => List.contains_iff_mem.mpr (letters_of (of_decide_eq_true (List.all_eq_true.mp e1 c hc)) (List.all_eq_true.mp e2.2 c hc) ?_)⟩
    have := e3.2
    rw [Bool.not_eq_true'] at this
    exact Bool.eq_false_iff.mpr (List.any_eq_false.mp this c hc)
  · rw [Bool.and_eq_true, Bool.and_eq_true, decide_eq_true_eq, decide_eq_true_eq] at h
    obtain ⟨⟨h1, h2⟩, h3⟩ := h
    exact nameOk_of ⟨h1, h2, List.all_eq_true.mpr fun c hc => List.all_eq_true.mp letters_low c (List.contains_iff_mem.mp (List.all_eq_true.mp h3 c hc))⟩
theorem sset_names (ss : List Str) : decide ((dd (ss.map Sum.inr)).mergeSort leK = ss.map Sum.inr) = decide (ss.Pairwise nlt) := by
  refine decide_eq_decide.mpr ⟨fun h => ?_, fun h => ?_⟩
  · have o : OneSort (ss.map (Sum.inr : Str → Key)) := .inr fun k hk => by
      obtain ⟨x, _, rfl⟩ := List.mem_map.mp hk
      exact ⟨x, rfl⟩
    have o2 : OneSort (dd (ss.map (Sum.inr : Str → Key))) := .inr fun k hk => by
      obtain ⟨x, _, rfl⟩ := List.mem_map.mp (dd_mem.mp hk)
      exact ⟨x, rfl⟩
    have p := sort_pair _ o2
    have n : ((dd (ss.map (Sum.inr : Str → Key))).mergeSort leK).Nodup := (List.mergeSort_perm _ _).nodup_iff.mpr (dd_nodup _)
    rw [h] at p n
    have p2 := List.pairwise_map.mp p
    have n2 : ss.Pairwise (fun a b => (Sum.inr a : Key) ≠ Sum.inr b) := List.pairwise_map.mp n
    refine (p2.and n2).imp fun {a b} hab => ?_
    obtain ⟨h1, h2⟩ := hab
    rw [leK_str, decide_eq_true_iff] at h1
    rcases nlt_tri a b with h | h | h
    · exact h
    · exact absurd (by rw [h]) h2
    · exact absurd h1 (List.not_le.mpr h)
  · refine (sorted_dd (.inr fun k hk => ?_) ?_ (fun k => Iff.rfl) ?_).symm
    · obtain ⟨x, _, rfl⟩ := List.mem_map.mp hk
      exact ⟨x, rfl⟩
    · exact List.Pairwise.map _ (fun a b (h : nlt a b) (e : (Sum.inr a : Key) = Sum.inr b) => nlt_irr b (by rw [← Sum.inr.inj e] at h ⊢; exact h)) h
    · refine List.pairwise_map.mpr (h.imp fun {a b} hab => ?_)
      rw [leK_str]
      exact decide_eq_true (List.le_of_lt hab)
theorem keysO_strs : ∀ ss : List Str, keysO (ss.map Dt.str) = some (ss.map Sum.inr)
  | [] => rfl
  | x :: ss => by
    show (match keyD (.str x), keysO (ss.map Dt.str) with | some k, some ks => some (k :: ks) | _, _ => none) = _
    rw [keysO_strs ss]
    rfl
/-- xs == sorted(set(xs)), of texts -/
theorem i_sset {d : Dt} {ss : List Str} {q : Dt → Prop} (e : seqO d = some (ss.map .str)) (hl : ss.length < 4000) (h : ∀ ts : List Str, ts.map Sum.inr = (dd (ss.map Sum.inr)).mergeSort leK → q (.list (ts.map .str))) : ssetD d q := by
  unfold ssetD
  rw [e]
  show match keysO (ss.map Dt.str) with | some ks => _ | none => _
  rw [keysO_strs]
  refine ⟨.inr fun k hk => ?_, by rw [List.length_map]; exact hl, ?_⟩
  · obtain ⟨x, _, rfl⟩ := List.mem_map.mp hk
    exact ⟨x, rfl⟩
  · have key : ∀ L : List Key, (∀ k ∈ L, k ∈ ss.map (Sum.inr : Str → Key)) → ∃ ts : List Str, ts.map Sum.inr = L := by
      intro L
      induction L with
      | nil => intro _; exact ⟨[], rfl⟩
      | cons k L ih =>
        intro hL
        obtain ⟨ts, e⟩ := ih fun j hj => hL j (List.mem_cons_of_mem _ hj)
        obtain ⟨x, _, rfl⟩ := List.mem_map.mp (hL k List.mem_cons_self)
        exact ⟨x :: ts, by rw [List.map_cons, e]⟩
    obtain ⟨ts, e⟩ := key _ fun k hk => dd_mem.mp ((List.mergeSort_perm _ _).mem_iff.mp hk)
    have h1 := h ts e
    rw [← e, List.map_map]
    exact h1
end Dw
set_option Elab.async false
set_option linter.all false
set_option maxRecDepth 100000
set_option maxHeartbeats 4000000
namespace Dw
open PySem PySem.Spec PyProof.Rows L2 Cn LamX
def top (i : Nat) : Stmt := PySem.Challenge.pw_cornerplans_k02_plans_and_limits_judged.main.body.getD i (.Pass ⟨0, 0, 0, 0⟩)
structure Txt (mg : Str → Option Value) : Prop where
  b_abs : mg "abs" = none
  b_all : mg "all" = none
  b_bool : mg "bool" = none
  b_dict : mg "dict" = none
  b_int : mg "int" = none
  b_isinstance : mg "isinstance" = none
  b_len : mg "len" = none
  b_list : mg "list" = none
  b_min : mg "min" = none
  b_range : mg "range" = none
  b_repr : mg "repr" = none
  b_set : mg "set" = none
  b_sorted : mg "sorted" = none
  b_str : mg "str" = none
  b_tuple : mg "tuple" = none
  c_MOST_LETTERS : ∃ t, mg "MOST_LETTERS" = some (.int 6 t)
def subE : Str → Str → Option Bool := subF ["CornerError", "BadPlan", "BadThing"]
def fldE : Str → Option Str := fun x => ([("BadThing", "thing")] : List (Str × Str)).lookup x
def ES__law_error : List Str := ["CornerError", "BadPlan", "BadThing"]
theorem call_lenK {X : Cx} {K : PySem.W.Frag} (h : X.K = K) : CallR X (.builtin "len") (fun xs H Q => ∃ x n, xs = [x] ∧ LenV K x H n ∧ Q (.int n) H) := call_lenKK h
theorem call_isi1K {X : Cx} {K : PySem.W.Frag} (h : X.K = K) : CallR X (.builtin "isinstance") (rIsi K) := h ▸ call_isi
theorem call_isi2K {X : Cx} {K : PySem.W.Frag} (h : X.K = K) : CallR X (.builtin "isinstance") (rIsiT K) := h ▸ call_isiT
theorem ix_seqK {X : Cx} {K : PySem.W.Frag} (h : X.K = K) : IxR X (rIx K) := h ▸ ix_seq
section
variable {P : Program} {w : World} {K : PySem.W.Frag} {mg : Str → Option Value} {base : Heap}
abbrev s__law_draw : Stmt := top 17
abbrev N__law_draw : List Str := ["_law_state", "_law_size", "_law_found", "_law_turn", "_law_cell", "_law_mixed"]
theorem sc__law_draw : FnScope N__law_draw ["_law_state", "_law_size"] (defScope s__law_draw) := ⟨rfl, rfl, rfl, by decide +kernel, rfl, by decide +kernel, by decide +kernel⟩
theorem k__law_draw (Fx : Fg K mg "_law_draw" s__law_draw) (T : Txt mg) : Kp P w K mg base 1 "_law_draw" ["_law_state", "_law_size"] spDraw2 := by
  refine kpH Fx sc__law_draw (fun F => F.binds fun _ _ _ _ _ _ us hl => match us, hl with | [_, _], _ => rfl) (fun vs H Q E h => by obtain ⟨st, lg, cl, b, n, rfl, _⟩ := h; rfl) fun f₀ cdv A outer s H vs Q E hr h => ?_
  have hu := hu_of hr
  refine ⟨_, (pss_cons (ps_while PassesOwn.never (PW.pt (pw_and (pt_cmpR op_eq (pe_dget hu (pv 0) pe_str (fun _ _ => rfl)) pe_int (nomark _)) (pw_and1 (pt_cmpR (op_neD hr.units) (pe_dget hu (pv 0) pe_str (fun _ _ => rfl)) (pe_lst pa_nil) (nomark _)))))
  (pss_one (ps_dput hu (pv 0) pe_str (pe_bm PySem.F.plainAttrs_list PySem.F.slot_list_pop PySem.F.type_list_pop mt_popAt (pe_dget hu (pv 0) pe_str (fun _ _ => rfl)) (pa_cons pe_int pa_nil)) rfl)))
  (pss_cons (ps_if (pt_cmpR op_gt (pe_dget hu (pv 0) pe_str (fun _ _ => rfl)) pe_int (nomark _))
  (pss_cons (ps_set (i := 2) sc__law_draw.nd rfl (Or.inl rfl) (pe_op op_mod (pe_callTy call_int1 (by rfl) T.b_int (by decide +kernel) (pa_cons (pe_dget hu (pv 0) pe_str (fun _ _ => rfl)) pa_nil)) (pv 1)))
  (pss_cons (ps_dput hu (pv 0) pe_str (pe_op op_fdiv (pe_dget hu (pv 0) pe_str (fun _ _ => rfl)) (pv 1)) rfl)
  (pss_one (ps_ret (pv 2))))) pss_nil)
  (pss_cons (ps_set (i := 3) sc__law_draw.nd rfl (Or.inl rfl) (pe_op op_add (pe_dget hu (pv 0) pe_str (fun _ _ => rfl)) pe_int))
  (pss_cons (ps_dput hu (pv 0) pe_str (pv 3) rfl)
  (pss_cons (ps_set (i := 4) sc__law_draw.nd rfl (Or.inl rfl) (pe_ifExp (pt_cmpR (op_neD hr.units) (pe_dget hu (pv 0) pe_str (fun _ _ => rfl)) (pe_lst pa_nil) (nomark _)) (pe_ix ix_list (pe_dget hu (pv 0) pe_str (fun _ _ => rfl)) (pe_op op_mod (pe_callTy call_int1 (by rfl) T.b_int (by decide +kernel) (pa_cons (pv 3) pa_nil)) (pe_callB (call_lenK (K := K) rfl) (by rfl) T.b_len (by decide +kernel) (pa_cons (pe_dget hu (pv 0) pe_str (fun _ _ => rfl)) pa_nil))) (fun _ _ => rfl)) pe_int))
  (pss_cons (ps_set (i := 5) sc__law_draw.nd rfl (Or.inl rfl) (pe_op op_mod (pe_callTy call_int1 (by rfl) T.b_int (by decide +kernel) (pa_cons (pe_op op_pow (pe_op op_add (pe_op op_add (pe_op op_mod (pe_callTy call_int1 (by rfl) T.b_int (by decide +kernel) (pa_cons (pv 4) pa_nil)) pe_int) (pe_op op_mul pe_int (pv 3))) pe_int) pe_int) pa_nil)) pe_int))
  (pss_one (ps_ret (pe_op op_mod (pe_callTy call_int1 (by rfl) T.b_int (by decide +kernel) (pa_cons (pe_op op_fdiv (pe_op op_mod (pe_callTy call_int1 (by rfl) T.b_int (by decide +kernel) (pa_cons (pe_op op_pow (pe_op op_add (pv 5) (pe_op op_mul pe_int (pv 3))) pe_int) pa_nil)) pe_int) pe_int) pa_nil)) (pv 1)))))))))), ?_⟩
  obtain ⟨st, lg, cl, b, n, rfl, n0, n1, ⟨la0, ce, r0, t0, X0, hb⟩, q⟩ := h
  refine draw_loop (st := st) (lg := lg) (cl := cl) (ce0 := ce) (t0 := t0) (H0 := H) rfl (fun la r H1 X fr => ?_) X0 Fr.refl
  have dg : ∀ {H2 : Hp} {k : Str} {v : V}, Ex H1 H2 → valV (stK lg cl r t0) (Sum.inr k : Key) = some v → DGet H2 st (.str k) (some v) := fun {H2 k v} z e => by
    rw [← e]
    exact DGet.k (k := Sum.inr k) (z _ _ X.hs)
  have s4 : ∀ {r t : Int}, (stK lg cl r t).length < sizeLine := fun {r t} => small1000 (by show 4 ≤ 1000; decide)
  -- if state['rest'] > 0
  refine ⟨_, rfl, st, .int r, rfl, dg (Evl.Ex.refl _) (st_rest lg cl r t0), _, _, rfl, rfl, _, rfl, ?_⟩
  by_cases hr0 : 0 < r
  · rw [decide_eq_true hr0]
    refine iteT ⟨_, rfl, st, .int r, rfl, dg (Evl.Ex.refl _) (st_rest lg cl r t0), .inl ⟨_, rfl, _, rfl, _, _, rfl, rfl, n0, ?_⟩⟩
    refine ⟨_, rfl, st, .int r, rfl, dg (Evl.Ex.refl _) (st_rest lg cl r t0), _, rfl, _, _, rfl, rfl, ⟨n0, by omega⟩, _, rfl, st, _, rfl, DPut.k (k := Sum.inr ("rest" : Str)) X.hs s4, _, rfl, ?_⟩
    exact q _ _ (Int.emod_nonneg _ (by omega)) (Int.emod_lt_of_pos _ n0) ⟨la, ce, _, t0, X.rest (Int.ediv_nonneg X.r0 (by omega)), by omega⟩ fr.st
  · rw [decide_eq_false hr0]
    -- turn = state['turn'] + 1; state['turn'] = turn
    refine iteF ⟨_, rfl, st, .int t0, rfl, dg (Evl.Ex.refl _) (st_turn lg cl r t0), _, _, rfl, rfl, _, rfl, _, rfl, st, _, rfl, DPut.k (k := Sum.inr ("turn" : Str)) X.hs s4, ?_⟩
    have X2 := X.turn (v := t0 + 1) (by have := X.t0; omega)
    have t0' := X.t0
    have fr2 : Fr st lg H _ := fr.st (o := .dK (putK (stK lg cl r t0) (Sum.inr ("turn" : Str) : Key) (.int (t0 + 1))))
    generalize upd H1 st (.dK (putK (stK lg cl r t0) (Sum.inr ("turn" : Str) : Key) (.int (t0 + 1)))) = H2 at X2 fr2 ⊢
    have dg2 : ∀ {H3 : Hp} {k : Str} {v : V}, Ex H2 H3 → valV (stK lg cl r (t0 + 1)) (Sum.inr k : Key) = some v → DGet H3 st (.str k) (some v) := fun {H3 k v} z e => by
      rw [← e]
      exact DGet.k (k := Sum.inr k) (z _ _ X2.hs)
    -- the cell
    refine ⟨_, rfl, st, .ref cl, rfl, dg2 (Evl.Ex.refl _) (st_cells lg cl r (t0 + 1)), Nat.zero_le _, fun p hp => ne_nil X2.hc hp ⟨_, rfl, ?_⟩⟩
    have X3 := X2.ex (Evl.Ex.new (o := .lst []) hp)
    have fr3 : Fr st lg H (upd H2 p (.lst [])) := fr2.trans (Fr.of (Evl.Ex.new hp))
    have z3 : Ex H2 (upd H2 p (.lst [])) := Evl.Ex.new hp
    generalize upd H2 p (.lst []) = H3 at X3 fr3 z3 ⊢
    refine ite_int (fun hb => ?_) (fun _ => ⟨0, fun Q q => q⟩) fun c => ?_
    · cases ce with
      | nil => cases hb
      | cons c0 ce0 =>
        have hlen : (((c0 :: ce0).map V.int).length : Int) > 0 := by
          rw [List.length_map, List.length_cons]
          omega
        have hm0 := Int.emod_nonneg (t0 + 1) (show ((((c0 :: ce0).map V.int).length : Nat) : Int) ≠ 0 by omega)
        have hm1 := Int.emod_lt_of_pos (t0 + 1) hlen
        have hk : ((t0 + 1) % ((((c0 :: ce0).map V.int).length : Nat) : Int)).toNat < (c0 :: ce0).length := by
          rw [List.length_map] at hm1 hm0 ⊢
          omega
        refine ⟨(c0 :: ce0)[((t0 + 1) % ((((c0 :: ce0).map V.int).length : Nat) : Int)).toNat], fun Q q => ?_⟩
        refine ⟨_, rfl, st, .ref cl, rfl, dg2 z3 (st_cells lg cl r (t0 + 1)), _, rfl, .inl ⟨_, rfl, _, rfl, st, .ref cl, rfl, dg2 z3 (st_cells lg cl r (t0 + 1)), _, _, rfl, .inl ⟨_, SqL.of X3.hc, rfl⟩, ?_⟩⟩
        refine ⟨_, _, rfl, rfl, hlen, cl, _, _, _, rfl, rfl, SqL.of X3.hc, ?_, q⟩
        have e := atI_nat (xs := (c0 :: ce0).map V.int) (j := ((t0 + 1) % ((((c0 :: ce0).map V.int).length : Nat) : Int)).toNat) (v := .int ((c0 :: ce0)[((t0 + 1) % ((((c0 :: ce0).map V.int).length : Nat) : Int)).toNat])) (by rw [List.getElem?_map, List.getElem?_eq_getElem hk]; rfl)
        rw [Int.toNat_of_nonneg hm0] at e
        exact e
    · -- the reckoning
      have a1 := Int.emod_nonneg c (show (2147483629 : Int) ≠ 0 by decide)
      have a2 := Int.emod_lt_of_pos c (show (0 : Int) < 2147483629 by decide)
      have hb2 : t0 ≤ 1000000000 := by omega
      have b1 : (0 : Int) ≤ c % 2147483629 + 48271 * (t0 + 1) + 13579 := by omega
      have b2 : c % 2147483629 + 48271 * (t0 + 1) + 13579 < 2 ^ 64 := by omega
      refine ⟨_, rfl, .inl ⟨_, rfl, _, _, rfl, rfl, (show (0 : Int) < 2147483629 by decide), _, rfl, _, _, rfl, rfl, .inl ⟨by decide, by decide⟩, _, _, rfl, rfl, _, _, rfl, rfl, _, _, rfl, rfl, ⟨by decide, by decide, pow_lt b1 b2⟩, .inl ⟨_, rfl, _, _, rfl, rfl, (show (0 : Int) < 2147483647 by decide), ?_⟩⟩⟩
      have c1 := Int.emod_nonneg ((c % 2147483629 + 48271 * (t0 + 1) + 13579) ^ (3 : Int).toNat) (show (2147483647 : Int) ≠ 0 by decide)
      have c2 := Int.emod_lt_of_pos ((c % 2147483629 + 48271 * (t0 + 1) + 13579) ^ (3 : Int).toNat) (show (0 : Int) < 2147483647 by decide)
      have dd : ∀ m : Int, 0 ≤ m → m < 2147483647 → 0 ≤ m + 99991 * (t0 + 1) ∧ m + 99991 * (t0 + 1) < 2 ^ 64 := fun m h1 h2 => ⟨by omega, by omega⟩
      have d1 := (dd _ c1 c2).1
      have d2 := (dd _ c1 c2).2
      refine ⟨_, rfl, _, rfl, _, _, rfl, rfl, .inl ⟨by decide, by decide⟩, _, _, rfl, rfl, _, _, rfl, rfl, ⟨by decide, by decide, pow_lt d1 d2⟩, .inl ⟨_, rfl, _, _, rfl, rfl, (show (0 : Int) < 2147483587 by decide), _, _, rfl, rfl, ⟨by decide, by decide⟩, .inl ⟨_, rfl, _, rfl, _, _, rfl, rfl, n0, ?_⟩⟩⟩
      exact q _ _ (Int.emod_nonneg _ (by omega)) (Int.emod_lt_of_pos _ n0) ⟨la, ce, r, t0 + 1, X3, by omega⟩ fr3
abbrev s__law_begun : Stmt := top 16
abbrev N__law_begun : List Str := ["_law_script", "_law_cells", "_law_cell"]
theorem sc__law_begun : FnScope N__law_begun ["_law_script"] (defScope s__law_begun) := ⟨rfl, rfl, rfl, by decide +kernel, rfl, by decide +kernel, by decide +kernel⟩
theorem k__law_begun (Fx : Fg K mg "_law_begun" s__law_begun) (T : Txt mg) : Kp P w K mg base 1 "_law_begun" ["_law_script"] (spBegun2 K) := by
  refine kpH Fx sc__law_begun (fun F => F.binds fun _ _ _ _ _ _ us hl => match us, hl with | [_], _ => rfl) (fun vs H Q E h => by obtain ⟨a, ns, rfl, _⟩ := h; rfl) fun f₀ cdv A outer s H vs Q E hr h => ?_
  refine ⟨_, (pss_cons (ps_setLc (i := 1) (own := [("_law_cell", 2)]) (g := gName 2) (tt := tYes) rfl sc__law_begun.nd rfl rfl (sw_true rfl rfl rfl (by decide +kernel)) (pi_list (pv 0)) (blkOk_by (N := N__law_begun) (sc := defScope s__law_begun) (by decide +kernel)) (fun _ _ _ _ _ => (pg_name (i := 2) sc__law_begun.nd rfl (Or.inl rfl))) (fun _ _ _ _ _ => pts_nil) (fun _ _ _ _ _ => (pe_callB call_abs (by rfl) T.b_abs (by decide +kernel) (pa_cons (pv 2) pa_nil))))
  (pss_one (ps_ret (pe_disp (pps_cons pe_str (pe_lc (own := [("_law_cell", 2)]) (g := gName 2) rfl sc__law_begun.nd (pi_list (pv 1)) (blkOk_by (N := N__law_begun) (sc := defScope s__law_begun) (by decide +kernel)) (fun _ _ _ _ _ => (pg_name (i := 2) sc__law_begun.nd rfl (Or.inl rfl))) (fun _ _ _ _ _ => (pts_one (pt_cmpR op_ge (pv 2) (pe_op op_pow pe_int pe_int) (nomark _)))) (fun _ _ _ _ _ => (pe_op op_sub (pv 2) (pe_op op_pow pe_int pe_int)))) (pps_cons pe_str (pv 1) (pps_cons pe_str pe_int (pps_cons pe_str pe_int pps_nil)))) (by rfl) (by rfl) (fun z => by cases z) (by decide))))), ?_⟩
  obtain ⟨a, ns, rfl, hS, hl, q⟩ := h
  have v0 : Sl K H (start N__law_begun [.ref a]) 0 (.list (ns.map .int)) := sl rfl (.lst hS (dz_ints ns))
  -- the cells
  refine seq_N (en_lcL (fun _ => true) (fun d => match d with | .int c => .int (absI c) | _ => .none) (ed_var v0) (by rw [List.length_map]; omega) fun d hd => ?_) (Evl.Ex.refl _) fun p xs F2 H2 g2 hp h2 r2 => ?_
  · obtain ⟨c, _, rfl⟩ := List.mem_map.mp hd
    refine turn_name (fun v => rfl) (fun v G _ _ => eb_yes) fun _ v' G x r' => ed_cb (eas_one (ed_var (sl rfl r'))) fun us F1 H1 z r Q q => ?_
    cases r with
    | cons r t =>
      cases t
      cases r
      exact ⟨c, rfl, q _ F1 H1 (Grow.refl z) (.int _)⟩
  rw [filter_yes, List.map_map] at r2
  have ex : xs = (ns.map absI).map V.int := by
    refine dpa_ints (bs := ns.map absI) (F := F2) (K := K) ?_
    rw [List.map_map]
    exact r2
  subst ex
  have v1 : Sl K F2 ((start N__law_begun [.ref a]).set 1 (some (.ref p))) 1 (.list ((ns.map absI).map .int)) := sl rfl (.lst (SqL.of h2) (dz_ints _))
  -- the state
  intro d hd
  have g3 := g2.trans (Grow.tmp (o := .dK []) g2.fh hd)
  refine pairs_c ((en_lcL (fun x => match x with | .int c => decide ((10 : Int) ^ (18 : Int).toNat ≤ c) | _ => false) (fun x => match x with | .int c => .int (c - (10 : Int) ^ (18 : Int).toNat) | _ => .none) (ed_var v1) (by rw [List.length_map, List.length_map]; omega) fun y hy => ?_ : EvN K F2 _ _ _)
    F2 _ (Evl.Ex.refl _) g3.fh _ fun l ls F4 H4 g4 hl4 h4 r4 => ?_)
  · obtain ⟨c, _, rfl⟩ := List.mem_map.mp hy
    refine turn_name (fun v => rfl) (fun v G _ r => eb_test (ed_I0 (ed_var (sl rfl r)) (ed_I ed_int ed_int ⟨by decide, by decide, by decide⟩ fun G => .int _) fun G => .bl _)) fun _ v' G x r' => ed_I0 (ed_var (sl rfl r')) (ed_I ed_int ed_int ⟨by decide, by decide, by decide⟩ fun G => .int _) fun G => .int _
  have el : ∃ la : List Int, ls = la.map V.int ∧ (∀ x ∈ la, 0 ≤ x) ∧ la.length ≤ 100 := by
    refine ⟨((ns.map absI).filter fun c => decide ((10 : Int) ^ (18 : Int).toNat ≤ c)).map fun c => c - (10 : Int) ^ (18 : Int).toNat, ?_, fun x hx => ?_, ?_⟩
    · refine dpa_ints (F := F4) (K := K) ?_
      rw [List.filter_map, List.map_map] at r4
      rw [List.map_map]
      exact r4
    · obtain ⟨c, hc, rfl⟩ := List.mem_map.mp hx
      have h := of_decide_eq_true (List.mem_filter.mp hc).2
      omega
    · rw [List.length_map]
      exact Nat.le_trans (List.length_filter_le _ _) (by rw [List.length_map]; omega)
  obtain ⟨la, rfl, lnn, lln⟩ := el
  have dp : H4 d = some (.dK []) := g4.hh _ _ upd_same
  have dl : d ≠ l := ne_of_none (upd_same (H := H2) (a := d) (o := .dK [])) hl4
  have pd : p ≠ d := ne_of_none (g2.fh _ _ h2) hd
  have pH4 : H4 p = some (.lst ((ns.map absI).map V.int)) := g4.fh _ _ (g4.ff _ _ h2)
  refine pairs_c ⟨_, rfl, pairs_cc (pairs_cc (pairs_nil ?_))⟩
  refine ⟨dp, [(.inr "large", .ref l), (.inr "cells", .ref p), (.inr "rest", .int 0), (.inr "turn", .int 0)], rfl, (by show 4 ≤ 15; decide), ?_⟩
  have hH : ∀ {b : Addr}, H2 b = none → H b = none := fun {b} h => Evl.fresh_back g2.hh h
  have hlH : H l = none := hH (by
    have e := Evl.fresh_back (Evl.Ex.new (o := .dK []) hd) hl4
    exact e)
  have mk : mergeK [] [(.inr "large", .ref l), (.inr "cells", .ref p), (.inr "rest", .int 0), (.inr "turn", .int 0)] = stK l p 0 0 := by
    rw [mergeK_nd _ _ (by
      show ([.inr "large", .inr "cells", .inr "rest", .inr "turn"] : List Key).Nodup
      decide +kernel)]
    rfl
  rw [mk]
  refine q d l p _ (fun b o e => ?_) (hH hd) hlH hp ⟨la, ns.map absI, 0, 0, ⟨upd_same, ?_, ?_, lnn, lln, by rw [List.length_map]; omega, Int.le_refl _, Int.le_refl _, ?_⟩, by decide⟩
  · rw [upd_ne (ne_of_none e (hH hd))]
    exact g4.hh _ _ (g3.hh _ _ e)
  · rw [upd_ne dl.symm]
    exact g4.fh _ _ h4
  · rw [upd_ne pd]
    exact pH4
  · intro e
    have e1 : upd H2 d (.dK []) p = some (.lst ((ns.map absI).map V.int)) := by rw [upd_ne pd]; exact g2.fh _ _ h2
    rw [e] at hl4
    rw [hl4] at e1
    cases e1

end

section
variable {P : Program} {w : World} {K : PySem.W.Frag} {mg : Str → Option Value} {base : Heap} {Ts : List (Addr × Str)}
abbrev s_is_number : Stmt := top 6
abbrev N_is_number : List Str := ["thing"]
theorem sc_is_number : FnScope N_is_number ["thing"] (defScope s_is_number) := ⟨rfl, rfl, rfl, by decide +kernel, rfl, by decide +kernel, by decide +kernel⟩
/- slots: 0 thing; own: [] -/
def B_is_number : WS := (wRet (wAndV (wIsi .int (wVar 0)) (wNotV (wIsi .bool (wVar 0)))))
def W_is_number : WF := bodyW B_is_number 1
theorem u_is_number {d0 : Dt} {q : Dt → Prop} {qx : Xv → Prop} : W_is_number [d0] q qx = B_is_number { nx := fun _ _ => q .none, rt := fun d _ => q d, ex := fun x _ => qx x } [some (.sh d0)] 0 := rfl
theorem k_is_number (Fx : Fg K mg "is_number" s_is_number) (T : Txt mg) : Kw P w K mg base 1 "is_number" ["thing"] W_is_number := by
  refine kw_of Fx sc_is_number (fun F => F.binds fun _ _ _ _ _ _ us hl => match us, hl with | [_], _ => rfl) fun f₀ cdv A outer s H E hg hr => ?_
  have hu := hu_of hr
  exact ⟨_, (pss_one (ps_ret (pe_and (pe_callB (call_isi1K (K := K) rfl) (by rfl) T.b_isinstance (by decide +kernel) (pa_cons (pv 0) (pa_cons (pe_bltn (v := .ty "int") (by rfl) T.b_int (by decide +kernel) rfl) pa_nil))) (pe_one (pe_not (pe_callB (call_isi1K (K := K) rfl) (by rfl) T.b_isinstance (by decide +kernel) (pa_cons (pv 0) (pa_cons (pe_bltn (v := .ty "bool") (by rfl) T.b_bool (by decide +kernel) rfl) pa_nil)))))))),
  (ss_ret (sn_andV (sn_isi .int (SndE.b sn_var)) (sn_notV (sn_isi .bool (SndE.b sn_var)))))⟩
abbrev s_is_name : Stmt := top 7
abbrev N_is_name : List Str := ["thing"]
theorem sc_is_name : FnScope N_is_name ["thing"] (defScope s_is_name) := ⟨rfl, rfl, rfl, by decide +kernel, rfl, by decide +kernel, by decide +kernel⟩
/- slots: 0 thing; own: [] -/
def B_is_name : WS := (wSeq (wIfS (wOr (wNot (wTest (wIsi .str (wVar 0)))) (wTest (wOp gtD (wCB lenD (wCons (wVar 0) wNil)) (wC (.int 6)))))
  (wRet (wC (.bool false))) wNext)
  (wRet (wAndV (wM0 Txt.isascii (wVar 0)) (wAndV (wM0 Txt.isalpha (wVar 0)) (wM0 Txt.islower (wVar 0))))))
def W_is_name : WF := bodyW B_is_name 1
theorem u_is_name {d0 : Dt} {q : Dt → Prop} {qx : Xv → Prop} : W_is_name [d0] q qx = B_is_name { nx := fun _ _ => q .none, rt := fun d _ => q d, ex := fun x _ => qx x } [some (.sh d0)] 0 := rfl
theorem k_is_name (Fx : Fg K mg "is_name" s_is_name) (T : Txt mg) : Kw P w K mg base 1 "is_name" ["thing"] W_is_name := by
  refine kw_of Fx sc_is_name (fun F => F.binds fun _ _ _ _ _ _ us hl => match us, hl with | [_], _ => rfl) fun f₀ cdv A outer s H E hg hr => ?_
  have hu := hu_of hr
  exact ⟨_, (pss_cons (ps_if (PW.pt (pw_or (pt_not (pt_val (pe_callB (call_isi1K (K := K) rfl) (by rfl) T.b_isinstance (by decide +kernel) (pa_cons (pv 0) (pa_cons (pe_bltn (v := .ty "str") (by rfl) T.b_str (by decide +kernel) rfl) pa_nil))))) (pw_or1 (pt_cmpR op_gtB (pe_callB (call_lenK (K := K) rfl) (by rfl) T.b_len (by decide +kernel) (pa_cons (pv 0) pa_nil)) (pe_glob (v := .int 6) (by rfl) (Classical.choose_spec T.c_MOST_LETTERS) ⟨_, rfl⟩) (nomark _)))))
  (pss_one (ps_ret pe_bl)) pss_nil)
  (pss_one (ps_ret (pe_and (pe_m0 PySem.F.slot_str_isascii PySem.F.type_str_isascii mt_isascii (pv 0)) (pe_and (pe_m0 PySem.F.slot_str_isalpha PySem.F.type_str_isalpha mt_isalpha (pv 0)) (pe_one (pe_m0 PySem.F.slot_str_islower PySem.F.type_str_islower mt_islower (pv 0)))))))),
  (ss_seq (ss_if (sn_or (sn_not (sn_tb (sn_isi .str (SndE.b sn_var)))) (sn_test (sn_op ro_gt (SndE.b (sn_cb co_len (sn_cons (SndE.b sn_var) sn_nil))) (SndE.b sn_int))))
  (ss_ret sn_bl) ss_next)
  (ss_ret (sn_andV (sn_m0 sn_var) (sn_andV (sn_m0 sn_var) (sn_m0 sn_var)))))⟩
abbrev s_is_pair : Stmt := top 8
abbrev N_is_pair : List Str := ["thing"]
theorem sc_is_pair : FnScope N_is_pair ["thing"] (defScope s_is_pair) := ⟨rfl, rfl, rfl, by decide +kernel, rfl, by decide +kernel, by decide +kernel⟩
/- slots: 0 thing; own: [] -/
def B_is_pair : WS := (wRet (wAndV (wIsi .tuple (wVar 0)) (wOp eqD (wCB lenD (wCons (wVar 0) wNil)) (wC (.int 2)))))
def W_is_pair : WF := bodyW B_is_pair 1
theorem u_is_pair {d0 : Dt} {q : Dt → Prop} {qx : Xv → Prop} : W_is_pair [d0] q qx = B_is_pair { nx := fun _ _ => q .none, rt := fun d _ => q d, ex := fun x _ => qx x } [some (.sh d0)] 0 := rfl
theorem k_is_pair (Fx : Fg K mg "is_pair" s_is_pair) (T : Txt mg) : Kw P w K mg base 1 "is_pair" ["thing"] W_is_pair := by
  refine kw_of Fx sc_is_pair (fun F => F.binds fun _ _ _ _ _ _ us hl => match us, hl with | [_], _ => rfl) fun f₀ cdv A outer s H E hg hr => ?_
  have hu := hu_of hr
  exact ⟨_, (pss_one (ps_ret (pe_and (pe_callB (call_isi1K (K := K) rfl) (by rfl) T.b_isinstance (by decide +kernel) (pa_cons (pv 0) (pa_cons (pe_bltn (v := .ty "tuple") (by rfl) T.b_tuple (by decide +kernel) rfl) pa_nil))) (pe_one (pe_cmpR (op_eqP (K := K) rfl hr.units) (pe_callB (call_lenK (K := K) rfl) (by rfl) T.b_len (by decide +kernel) (pa_cons (pv 0) pa_nil)) pe_int (nomark _)))))),
  (ss_ret (sn_andV (sn_isi .tuple (SndE.b sn_var)) (sn_op ro_eq (SndE.b (sn_cb co_len (sn_cons (SndE.b sn_var) sn_nil))) (SndE.b sn_int))))⟩
abbrev s_is_ascending : Stmt := top 9
abbrev N_is_ascending : List Str := ["row", "at"]
theorem sc_is_ascending : FnScope N_is_ascending ["row"] (defScope s_is_ascending) := ⟨rfl, rfl, rfl, by decide +kernel, rfl, by decide +kernel, by decide +kernel⟩
/- slots: 0 row, 1 at; own: [] -/
def B_is_ascending : WS := (wRet (wCB allD (wCons (wLc (wiR1 (wCons (wOp subD (wCB lenD (wCons (wVar 0) wNil)) (wC (.int 1))) wNil)) (wgName 1) wYes (wOp ltD (wOp ixD (wVar 0) (wVar 1)) (wOp ixD (wVar 0) (wOp addD (wVar 1) (wC (.int 1))))) [1]) wNil)))
def W_is_ascending : WF := bodyW B_is_ascending 2
theorem u_is_ascending {d0 : Dt} {q : Dt → Prop} {qx : Xv → Prop} : W_is_ascending [d0] q qx = B_is_ascending { nx := fun _ _ => q .none, rt := fun d _ => q d, ex := fun x _ => qx x } [some (.sh d0), none] 0 := rfl
theorem k_is_ascending (Fx : Fg K mg "is_ascending" s_is_ascending) (T : Txt mg) : Kw P w K mg base 1 "is_ascending" ["row"] W_is_ascending := by
  refine kw_of Fx sc_is_ascending (fun F => F.binds fun _ _ _ _ _ _ us hl => match us, hl with | [_], _ => rfl) fun f₀ cdv A outer s H E hg hr => ?_
  have hu := hu_of hr
  exact ⟨_, (pss_one (ps_ret (pe_callB (cr_all rfl) (by rfl) T.b_all (by decide +kernel) (pa_cons (pe_lc (own := [("at", 1)]) (g := gName 1) (tt := tYes) rfl sc_is_ascending.nd (pi_range1 (by rfl) T.b_range (pa_cons (pe_op op_sub (pe_callB (call_lenK (K := K) rfl) (by rfl) T.b_len (by decide +kernel) (pa_cons (pv 0) pa_nil)) pe_int) pa_nil)) (blkOk_by (N := N_is_ascending) (sc := defScope s_is_ascending) (by decide +kernel)) (fun _ _ _ _ _ => (pg_name (i := 1) sc_is_ascending.nd rfl (Or.inl rfl))) (fun _ _ _ _ _ => pts_nil) (fun _ _ _ _ _ => (pe_cmpR op_ltB (pe_ix (ix_seqK (K := K) rfl) (pv 0) (pv 1) (fun _ _ => rfl)) (pe_ix (ix_seqK (K := K) rfl) (pv 0) (pe_op (op_addA (K := K) rfl) (pv 1) pe_int) (fun _ _ => rfl)) (nomark _)))) pa_nil)))),
  (ss_ret (sn_cb co_all (sn_cons (SndE.b ((snn_lc (vs := [1]) (SndF.i (sf_range1 (sn_cons (SndE.b (sn_op ro_sub (SndE.b (sn_cb co_len (sn_cons (SndE.b sn_var) sn_nil))) (SndE.b sn_int))) sn_nil))) (sg_name (i := 1)) (by decide) sn_yes (sn_op ro_lt (SndE.b (sn_op ro_ix (SndE.b sn_var) (SndE.b sn_var))) (SndE.b (sn_op ro_ix (SndE.b sn_var) (SndE.b (sn_op ro_add (SndE.b sn_var) (SndE.b sn_int)))))))).e) sn_nil)))⟩
abbrev s_has_names : Stmt := top 10
abbrev N_has_names : List Str := ["thing", "names", "pair", "name", "_"]
theorem sc_has_names : FnScope N_has_names ["thing"] (defScope s_has_names) := ⟨rfl, rfl, rfl, by decide +kernel, rfl, by decide +kernel, by decide +kernel⟩
/- slots: 0 thing, 1 names, 2 pair, 3 name, 4 _; own: [] -/
def B_has_names : WS := (wSeq (wIfS (wOr (wNot (wTest (wIsi .tuple (wVar 0)))) (wNot (wTest (wCB allD (wCons (wLc (wiSeq (wVar 0)) (wgName 2) wYes (wCall0 W_is_pair (wCons (wVar 2) wNil)) [2]) wNil)))))
  (wRet (wC (.bool false))) wNext)
  (wSeq (wAsg (wLc (wiSeq (wVar 0)) (wgTup 2 (wgCons (wgName 3) (wgCons (wgName 4) wgNil))) wYes (wVar 3) [3, 4]) (wgName 1))
  (wRet (wAndV (wCB allD (wCons (wLc (wiSeq (wVar 1)) (wgName 3) wYes (wCall0 W_is_name (wCons (wVar 3) wNil)) [3]) wNil)) (wCall0 W_is_ascending (wCons (wVar 1) wNil))))))
def W_has_names : WF := bodyW B_has_names 5
theorem u_has_names {d0 : Dt} {q : Dt → Prop} {qx : Xv → Prop} : W_has_names [d0] q qx = B_has_names { nx := fun _ _ => q .none, rt := fun d _ => q d, ex := fun x _ => qx x } [some (.sh d0), none, none, none, none] 0 := rfl
theorem k_has_names (Fx : Fg K mg "has_names" s_has_names) (T : Txt mg) (k_is_pair : Kw P w K mg base 1 "is_pair" ["thing"] W_is_pair) (k_is_ascending : Kw P w K mg base 1 "is_ascending" ["row"] W_is_ascending) (k_is_name : Kw P w K mg base 1 "is_name" ["thing"] W_is_name) : Kw P w K mg base 2 "has_names" ["thing"] W_has_names := by
  refine kw_of Fx sc_has_names (fun F => F.binds fun _ _ _ _ _ _ us hl => match us, hl with | [_], _ => rfl) fun f₀ cdv A outer s H E hg hr => ?_
  have hu := hu_of hr
  exact ⟨_, (pss_cons (ps_if (PW.pt (pw_or (pt_not (pt_val (pe_callB (call_isi1K (K := K) rfl) (by rfl) T.b_isinstance (by decide +kernel) (pa_cons (pv 0) (pa_cons (pe_bltn (v := .ty "tuple") (by rfl) T.b_tuple (by decide +kernel) rfl) pa_nil))))) (pw_or1 (pt_not (pt_val (pe_callB (cr_all rfl) (by rfl) T.b_all (by decide +kernel) (pa_cons (pe_lc (own := [("pair", 2)]) (g := gName 2) (tt := tYes) rfl sc_has_names.nd (pi_seqA (K := K) rfl (pv 0)) (blkOk_by (N := N_has_names) (sc := defScope s_has_names) (by decide +kernel)) (fun _ _ _ _ _ => (pg_name (i := 2) sc_has_names.nd rfl (Or.inl rfl))) (fun _ _ _ _ _ => pts_nil) (fun _ _ _ _ _ => (Dw.pe_call0 k_is_pair rfl rfl rfl rfl rfl (by exact hg) (hr.mono (by decide)) (by rfl) (pa_cons (pv 2) pa_nil)))) pa_nil)))))))
  (pss_one (ps_ret pe_bl)) pss_nil)
  (pss_cons (ps_setLc (i := 1) (own := [("name", 3), ("_", 4)]) (g := gTup K 2 (gCons (gName 3) (gCons (gName 4) gNil))) (tt := tYes) rfl sc_has_names.nd rfl rfl (sw_true rfl rfl rfl (by decide +kernel)) (pi_seqA (K := K) rfl (pv 0)) (blkOk_by (N := N_has_names) (sc := defScope s_has_names) (by decide +kernel)) (fun _ _ _ _ _ => (pg_tup rfl (pgs_cons (pg_name (i := 3) sc_has_names.nd rfl (Or.inl rfl)) (pgs_cons (pg_name (i := 4) sc_has_names.nd rfl (Or.inl rfl)) pgs_nil)))) (fun _ _ _ _ _ => pts_nil) (fun _ _ _ _ _ => (pv 3)))
  (pss_one (ps_ret (pe_and (pe_callB (cr_all rfl) (by rfl) T.b_all (by decide +kernel) (pa_cons (pe_lc (own := [("name", 3)]) (g := gName 3) (tt := tYes) rfl sc_has_names.nd (pi_seqA (K := K) rfl (pv 1)) (blkOk_by (N := N_has_names) (sc := defScope s_has_names) (by decide +kernel)) (fun _ _ _ _ _ => (pg_name (i := 3) sc_has_names.nd rfl (Or.inl rfl))) (fun _ _ _ _ _ => pts_nil) (fun _ _ _ _ _ => (Dw.pe_call0 k_is_name rfl rfl rfl rfl rfl (by exact hg) (hr.mono (by decide)) (by rfl) (pa_cons (pv 3) pa_nil)))) pa_nil)) (pe_one (Dw.pe_call0 k_is_ascending rfl rfl rfl rfl rfl (by exact hg) (hr.mono (by decide)) (by rfl) (pa_cons (pv 1) pa_nil)))))))),
  (ss_seq (ss_if (sn_or (sn_not (sn_tb (sn_isi .tuple (SndE.b sn_var)))) (sn_not (sn_tb (sn_cb co_all (sn_cons (SndE.b ((snn_lc (vs := [2]) (SndF.i (sf_seq sn_var)) (sg_name (i := 2)) (by decide) sn_yes (sn_call0 (snr_cons sn_var snr_nil)))).e) sn_nil)))))
  (ss_ret sn_bl) ss_next)
  (ss_seq (ss_asg ((snn_lc (vs := [3, 4]) (SndF.i (sf_seq sn_var)) (sg_tup (sg_cons (sg_name (i := 3)) (sg_cons (sg_name (i := 4)) sg_nil))) (by decide) sn_yes sn_var)).e (sg_name (i := 1)))
  (ss_ret (sn_andV (sn_cb co_all (sn_cons (SndE.b ((snn_lc (vs := [3]) (SndF.i (sf_seq sn_var)) (sg_name (i := 3)) (by decide) sn_yes (sn_call0 (snr_cons sn_var snr_nil)))).e) sn_nil)) (sn_call0 (snr_cons sn_var snr_nil))))))⟩
abbrev s_is_plan : Stmt := top 12
abbrev N_is_plan : List Str := ["thing", "_", "moment"]
theorem sc_is_plan : FnScope N_is_plan ["thing"] (defScope s_is_plan) := ⟨rfl, rfl, rfl, by decide +kernel, rfl, by decide +kernel, by decide +kernel⟩
/- slots: 0 thing, 1 _, 2 moment; own: [] -/
def B_is_plan : WS := (wRet (wAndV (wCall0 W_has_names (wCons (wVar 0) wNil)) (wCB allD (wCons (wLc (wiSeq (wVar 0)) (wgTup 2 (wgCons (wgName 1) (wgCons (wgName 2) wgNil))) wYes (wCall0 W_is_number (wCons (wVar 2) wNil)) [1, 2]) wNil))))
def W_is_plan : WF := bodyW B_is_plan 3
theorem u_is_plan {d0 : Dt} {q : Dt → Prop} {qx : Xv → Prop} : W_is_plan [d0] q qx = B_is_plan { nx := fun _ _ => q .none, rt := fun d _ => q d, ex := fun x _ => qx x } [some (.sh d0), none, none] 0 := rfl
theorem k_is_plan (Fx : Fg K mg "is_plan" s_is_plan) (T : Txt mg) (k_is_number : Kw P w K mg base 1 "is_number" ["thing"] W_is_number) (k_has_names : Kw P w K mg base 2 "has_names" ["thing"] W_has_names) : Kw P w K mg base 3 "is_plan" ["thing"] W_is_plan := by
  refine kw_of Fx sc_is_plan (fun F => F.binds fun _ _ _ _ _ _ us hl => match us, hl with | [_], _ => rfl) fun f₀ cdv A outer s H E hg hr => ?_
  have hu := hu_of hr
  exact ⟨_, (pss_one (ps_ret (pe_and (Dw.pe_call0 k_has_names rfl rfl rfl rfl rfl (by exact hg) (hr.mono (by decide)) (by rfl) (pa_cons (pv 0) pa_nil)) (pe_one (pe_callB (cr_all rfl) (by rfl) T.b_all (by decide +kernel) (pa_cons (pe_lc (own := [("_", 1), ("moment", 2)]) (g := gTup K 2 (gCons (gName 1) (gCons (gName 2) gNil))) (tt := tYes) rfl sc_is_plan.nd (pi_seqA (K := K) rfl (pv 0)) (blkOk_by (N := N_is_plan) (sc := defScope s_is_plan) (by decide +kernel)) (fun _ _ _ _ _ => (pg_tup rfl (pgs_cons (pg_name (i := 1) sc_is_plan.nd rfl (Or.inl rfl)) (pgs_cons (pg_name (i := 2) sc_is_plan.nd rfl (Or.inl rfl)) pgs_nil)))) (fun _ _ _ _ _ => pts_nil) (fun _ _ _ _ _ => (Dw.pe_call0 k_is_number rfl rfl rfl rfl rfl (by exact hg) (hr.mono (by decide)) (by rfl) (pa_cons (pv 2) pa_nil)))) pa_nil)))))),
  (ss_ret (sn_andV (sn_call0 (snr_cons sn_var snr_nil)) (sn_cb co_all (sn_cons (SndE.b ((snn_lc (vs := [1, 2]) (SndF.i (sf_seq sn_var)) (sg_tup (sg_cons (sg_name (i := 1)) (sg_cons (sg_name (i := 2)) sg_nil))) (by decide) sn_yes (sn_call0 (snr_cons sn_var snr_nil)))).e) sn_nil))))⟩
abbrev s_moment_of : Stmt := top 13
abbrev N_moment_of : List Str := ["plan", "name"]
theorem sc_moment_of : FnScope N_moment_of ["plan", "name"] (defScope s_moment_of) := ⟨rfl, rfl, rfl, by decide +kernel, rfl, by decide +kernel, by decide +kernel⟩
/- slots: 0 plan, 1 name; own: [] -/
def B_moment_of : WS := (wSeq (wIfS (wNot (wTest (wCall0 W_is_plan (wCons (wVar 0) wNil))))
  (wRaiseP "BadPlan") wNext)
  (wSeq (wIfS (wNot (wTest (wCall0 W_is_name (wCons (wVar 1) wNil))))
  (wRaiseF "BadThing" "thing" (wVar 1)) wNext)
  (wRet (wDGet1 (wCB dictD (wCons (wVar 0) wNil)) (wVar 1)))))
def W_moment_of : WF := bodyW B_moment_of 2
theorem u_moment_of {d0 d1 : Dt} {q : Dt → Prop} {qx : Xv → Prop} : W_moment_of [d0, d1] q qx = B_moment_of { nx := fun _ _ => q .none, rt := fun d _ => q d, ex := fun x _ => qx x } [some (.sh d0), some (.sh d1)] 0 := rfl
theorem k_moment_of (Fx : Fg K mg "moment_of" s_moment_of) (T : Txt mg) (k_is_plan : Kw P w K mg base 3 "is_plan" ["thing"] W_is_plan) (k_is_name : Kw P w K mg base 1 "is_name" ["thing"] W_is_name) {C_BadPlan : Addr} (e_BadPlan : ExP K mg "BadPlan" C_BadPlan) {C_BadThing : Addr} (e_BadThing : ExJ P w K mg base "BadThing" C_BadThing "thing") : Kw P w K mg base 4 "moment_of" ["plan", "name"] W_moment_of := by
  refine kw_of Fx sc_moment_of (fun F => F.binds fun _ _ _ _ _ _ us hl => match us, hl with | [_, _], _ => rfl) fun f₀ cdv A outer s H E hg hr => ?_
  have hu := hu_of hr
  exact ⟨_, (pss_cons (ps_if (pt_not (pt_val (Dw.pe_call0 k_is_plan rfl rfl rfl rfl rfl (by exact hg) (hr.mono (by decide)) (by rfl) (pa_cons (pv 0) pa_nil))))
  (pss_one (ps_raise rfl (takes_of rfl rfl rfl rfl) (pmk_plain rfl rfl e_BadPlan (by rfl)))) pss_nil)
  (pss_cons (ps_if (pt_not (pt_val (Dw.pe_call0 k_is_name rfl rfl rfl rfl rfl (by exact hg) (hr.mono (by decide)) (by rfl) (pa_cons (pv 1) pa_nil))))
  (pss_one (ps_raise rfl (takes_of rfl rfl rfl rfl) (pmk_fld rfl rfl rfl rfl rfl e_BadThing (hr.mono (by decide)) (by rfl) (pv 1)))) pss_nil)
  (pss_one (ps_ret (pe_dget1 hu (pe_callTy (call_dictA (K := K) rfl rfl) (by rfl) T.b_dict (by decide +kernel) (pa_cons (pv 0) pa_nil)) (pv 1) ⟨rfl, rfl, rfl, rfl⟩))))),
  (ss_seq (ss_if (sn_not (sn_tb (sn_call0 (snr_cons sn_var snr_nil))))
  (ss_raiseP e_BadPlan.g) ss_next)
  (ss_seq (ss_if (sn_not (sn_tb (sn_call0 (snr_cons sn_var snr_nil))))
  (ss_raiseF e_BadThing.g sn_var) ss_next)
  (ss_ret (sn_dget1 (SndE.b ((snn_cb cn_dict (sn_cons (SndE.b sn_var) sn_nil))).e) sn_var))))⟩
abbrev s_is_limit : Stmt := top 14
abbrev N_is_limit : List Str := ["thing", "_", "end"]
theorem sc_is_limit : FnScope N_is_limit ["thing"] (defScope s_is_limit) := ⟨rfl, rfl, rfl, by decide +kernel, rfl, by decide +kernel, by decide +kernel⟩
/- slots: 0 thing, 1 _, 2 end; own: [] -/
def B_is_limit : WS := (wRet (wAndV (wCall0 W_has_names (wCons (wVar 0) wNil)) (wCB allD (wCons (wLc (wiSeq (wVar 0)) (wgTup 2 (wgCons (wgName 1) (wgCons (wgName 2) wgNil))) wYes (wOrV (wOp isND (wVar 2) (wC .none)) (wCall0 W_is_number (wCons (wVar 2) wNil))) [1, 2]) wNil))))
def W_is_limit : WF := bodyW B_is_limit 3
theorem u_is_limit {d0 : Dt} {q : Dt → Prop} {qx : Xv → Prop} : W_is_limit [d0] q qx = B_is_limit { nx := fun _ _ => q .none, rt := fun d _ => q d, ex := fun x _ => qx x } [some (.sh d0), none, none] 0 := rfl
theorem k_is_limit (Fx : Fg K mg "is_limit" s_is_limit) (T : Txt mg) (k_is_number : Kw P w K mg base 1 "is_number" ["thing"] W_is_number) (k_has_names : Kw P w K mg base 2 "has_names" ["thing"] W_has_names) : Kw P w K mg base 3 "is_limit" ["thing"] W_is_limit := by
  refine kw_of Fx sc_is_limit (fun F => F.binds fun _ _ _ _ _ _ us hl => match us, hl with | [_], _ => rfl) fun f₀ cdv A outer s H E hg hr => ?_
  have hu := hu_of hr
  exact ⟨_, (pss_one (ps_ret (pe_and (Dw.pe_call0 k_has_names rfl rfl rfl rfl rfl (by exact hg) (hr.mono (by decide)) (by rfl) (pa_cons (pv 0) pa_nil)) (pe_one (pe_callB (cr_all rfl) (by rfl) T.b_all (by decide +kernel) (pa_cons (pe_lc (own := [("_", 1), ("end", 2)]) (g := gTup K 2 (gCons (gName 1) (gCons (gName 2) gNil))) (tt := tYes) rfl sc_is_limit.nd (pi_seqA (K := K) rfl (pv 0)) (blkOk_by (N := N_is_limit) (sc := defScope s_is_limit) (by decide +kernel)) (fun _ _ _ _ _ => (pg_tup rfl (pgs_cons (pg_name (i := 1) sc_is_limit.nd rfl (Or.inl rfl)) (pgs_cons (pg_name (i := 2) sc_is_limit.nd rfl (Or.inl rfl)) pgs_nil)))) (fun _ _ _ _ _ => pts_nil) (fun _ _ _ _ _ => (pe_or (pe_cmpR op_isN (pv 2) pe_non (nomark _)) (pe_one (Dw.pe_call0 k_is_number rfl rfl rfl rfl rfl (by exact hg) (hr.mono (by decide)) (by rfl) (pa_cons (pv 2) pa_nil)))))) pa_nil)))))),
  (ss_ret (sn_andV (sn_call0 (snr_cons sn_var snr_nil)) (sn_cb co_all (sn_cons (SndE.b ((snn_lc (vs := [1, 2]) (SndF.i (sf_seq sn_var)) (sg_tup (sg_cons (sg_name (i := 1)) (sg_cons (sg_name (i := 2)) sg_nil))) (by decide) sn_yes (sn_orV (sn_op ro_isN (SndE.b sn_var) (SndE.b sn_non)) (sn_call0 (snr_cons sn_var snr_nil))))).e) sn_nil))))⟩
abbrev s__law_pick : Stmt := top 18
abbrev N__law_pick : List Str := ["_law_state", "_law_several"]
theorem sc__law_pick : FnScope N__law_pick ["_law_state", "_law_several"] (defScope s__law_pick) := ⟨rfl, rfl, rfl, by decide +kernel, rfl, by decide +kernel, by decide +kernel⟩
/- slots: 0 _law_state, 1 _law_several; own: [] -/
def B__law_pick : WS := (wRet (wOp ixD (wVar 1) (wDraw 0 (wCB lenD (wCons (wVar 1) wNil)))))
def W__law_pick : WFS := bodyWS B__law_pick 2
theorem u__law_pick {d0 : Dt} {b : Nat} {q : QD} {qx : QX} : W__law_pick [d0] b q qx = B__law_pick { nx := fun _ b1 => q .none b1, rt := q, ex := qx } [some .st, some (.sh d0)] b := rfl
theorem k__law_pick (Fx : Fg K mg "_law_pick" s__law_pick) (T : Txt mg) (k__law_draw : Kp P w K mg base 1 "_law_draw" ["_law_state", "_law_size"] spDraw2) : Kws P w K mg base Ts 2 "_law_pick" "_law_state" ["_law_several"] W__law_pick := by
  refine kws_of Fx sc__law_pick (fun F => F.binds fun _ _ _ _ _ _ us hl => match us, hl with | [_, _], _ => rfl) fun f₀ cdv A outer s H E hg hr => ?_
  have hu := hu_of hr
  exact ⟨_, (pss_one (ps_ret (pe_ix (ix_seqK (K := K) rfl) (pv 1) (pe_call00 k__law_draw rfl rfl rfl rfl rfl (hr.mono (by decide)) (by rfl) (pa_cons (pv 0) (pa_cons (pe_callB (call_lenK (K := K) rfl) (by rfl) T.b_len (by decide +kernel) (pa_cons (pv 1) pa_nil)) pa_nil))) (fun _ _ => rfl)))),
  fun fr hfr => (ss_ret (sn_op ro_ix (SndE.b sn_var) (SndE.b (sn_draw (sn_cb co_len (sn_cons (SndE.b sn_var) sn_nil))))))⟩
abbrev s__law_words : Stmt := top 19
abbrev N__law_words : List Str := ["_law_state", "_law_many", "_law_letters", "_law_found", "_law_drawn", "_law_word", "_law_spare", "_law_sign", "_law_letter", "_law_each"]
theorem sc__law_words : FnScope N__law_words ["_law_state", "_law_many"] (defScope s__law_words) := ⟨rfl, rfl, rfl, by decide +kernel, rfl, by decide +kernel, by decide +kernel⟩
/- slots: 0 _law_state, 1 _law_many, 2 _law_letters, 3 _law_found, 4 _law_drawn, 5 _law_word, 6 _law_spare, 7 _law_sign, 8 _law_letter, 9 _law_each; own: ['_law_found'] -/
def B__law_words : WS := (wSeq (wParM [2, 3] (wMSh (wC (.str "abcdefghijklmnopqrstuvwxyz")) (wMOw (wLst wNil) wMNil)))
  (wSeq (wWhile (wTest (wOp ltD (wCB lenD (wCons (wVarB 3) wNil)) (wVar 1)))
  (wSeq (wAsg (wJoin (wC (.str "")) (wLc (wiR1 (wCons (wOp addD (wC (.int 1)) (wDraw 0 (wC (.int 6)))) wNil)) (wgName 7) wYes (wCallS0 0 W__law_pick (wCons (wVar 2) wNil)) [7])) (wgName 4))
  (wSeq (wAsg (wCallS0 0 W__law_pick (wCons (wLst (wCons (wC (.str "a")) (wCons (wC (.str "b")) (wCons (wC (.str "c")) (wCons (wC (.str "aa")) (wCons (wC (.str "none")) (wCons (wC (.str "things")) (wCons (wC (.str "zzzzzz")) (wCons (wVar 4) (wCons (wVar 4) wNil)))))))))) wNil)) (wgName 5))
  (wSeq (wAsg (wOp addD (wLst (wCons (wVar 5) wNil)) (wLc (wiSeq (wVar 2)) (wgName 8) wYes (wOp addD (wSl slA (wVar 5) wNoPart (wPart (wC (.int 5)))) (wVar 8)) [8])) (wgName 6))
  (wAppend 3 (wOp ixD (wLc (wiSeq (wVar 6)) (wgName 9) (wTest (wOp (inD true) (wVar 9) (wVarB 3))) (wVar 9) [9]) (wC (.int 0))))))))
  (wRet (wCB sortedD (wCons (wVarB 3) wNil)))))
def W__law_words : WFS := bodyWS B__law_words 10
theorem u__law_words {d0 : Dt} {b : Nat} {q : QD} {qx : QX} : W__law_words [d0] b q qx = B__law_words { nx := fun _ b1 => q .none b1, rt := q, ex := qx } [some .st, some (.sh d0), none, none, none, none, none, none, none, none] b := rfl
theorem k__law_words (Fx : Fg K mg "_law_words" s__law_words) (T : Txt mg) (k__law_draw : Kp P w K mg base 1 "_law_draw" ["_law_state", "_law_size"] spDraw2) (k__law_pick : Kws P w K mg base Ts 2 "_law_pick" "_law_state" ["_law_several"] W__law_pick) : Kws P w K mg base Ts 3 "_law_words" "_law_state" ["_law_many"] W__law_words := by
  refine kws_of Fx sc__law_words (fun F => F.binds fun _ _ _ _ _ _ us hl => match us, hl with | [_, _], _ => rfl) fun f₀ cdv A outer s H E hg hr => ?_
  have hu := hu_of hr
  exact ⟨_, (pss_cons (ps_asg (pe_tupZ (pa_cons pe_str (pa_cons (pe_lst pa_nil) pa_nil))) (pg_tup rfl (pgs_cons (pg_name (i := 2) sc__law_words.nd rfl (Or.inr rfl)) (pgs_cons (pg_name (i := 3) sc__law_words.nd rfl (Or.inr rfl)) pgs_nil))))
  (pss_cons (ps_while (passes_of rfl) (pt_cmpR op_ltB (pe_callB (call_lenK (K := K) rfl) (by rfl) T.b_len (by decide +kernel) (pa_cons (pv 3) pa_nil)) (pv 1) (nomark _))
  (pss_cons (ps_set (i := 4) sc__law_words.nd rfl (Or.inl rfl) (pe_join pe_str (pe_lc (own := [("_law_sign", 7)]) (g := gName 7) (tt := tYes) rfl sc__law_words.nd (pi_range1 (by rfl) T.b_range (pa_cons (pe_op (op_addA (K := K) rfl) pe_int (pe_call00 k__law_draw rfl rfl rfl rfl rfl (hr.mono (by decide)) (by rfl) (pa_cons (pv 0) (pa_cons pe_int pa_nil)))) pa_nil)) (blkOk_by (N := N__law_words) (sc := defScope s__law_words) (by decide +kernel)) (fun _ _ _ _ _ => (pg_name (i := 7) sc__law_words.nd rfl (Or.inl rfl))) (fun _ _ _ _ _ => pts_nil) (fun _ _ _ _ _ => (Dw.pe_callS0 k__law_pick rfl rfl rfl rfl rfl (by exact hg) (hr.mono (by decide)) (by rfl) (pa_cons (pv 0) (pa_cons (pv 2) pa_nil)))))))
  (pss_cons (ps_set (i := 5) sc__law_words.nd rfl (Or.inr rfl) (Dw.pe_callS0 k__law_pick rfl rfl rfl rfl rfl (by exact hg) (hr.mono (by decide)) (by rfl) (pa_cons (pv 0) (pa_cons (pe_lst (pa_cons pe_str (pa_cons pe_str (pa_cons pe_str (pa_cons pe_str (pa_cons pe_str (pa_cons pe_str (pa_cons pe_str (pa_cons (pv 4) (pa_cons (pv 4) pa_nil)))))))))) pa_nil))))
  (pss_cons (ps_set (i := 6) sc__law_words.nd rfl (Or.inl rfl) (pe_op (op_addA (K := K) rfl) (pe_lst (pa_cons (pv 5) pa_nil)) (pe_lc (own := [("_law_letter", 8)]) (g := gName 8) (tt := tYes) rfl sc__law_words.nd (pi_seqA (K := K) rfl (pv 2)) (blkOk_by (N := N__law_words) (sc := defScope s__law_words) (by decide +kernel)) (fun _ _ _ _ _ => (pg_name (i := 8) sc__law_words.nd rfl (Or.inl rfl))) (fun _ _ _ _ _ => pts_nil) (fun _ _ _ _ _ => (pe_op (op_addA (K := K) rfl) (pe_slice (sl_any (K := K) rfl) (pv 5) po_none (po_some pe_int)) (pv 8))))))
  (pss_one (ps_expr (pe_bm PySem.F.plainAttrs_list PySem.F.slot_list_append PySem.F.type_list_append mt_append (pv 3) (pa_cons (pe_ix (ix_seqK (K := K) rfl) (pe_lc (own := [("_law_each", 9)]) (g := gName 9) rfl sc__law_words.nd (pi_seqA (K := K) rfl (pv 6)) (blkOk_by (N := N__law_words) (sc := defScope s__law_words) (by decide +kernel)) (fun _ _ _ _ _ => (pg_name (i := 9) sc__law_words.nd rfl (Or.inl rfl))) (fun _ _ _ _ _ => (pts_one (pt_cmpR (op_notInK (K := K) rfl) (pv 9) (pv 3) rfl))) (fun _ _ _ _ _ => (pv 9))) pe_int (fun _ _ => rfl)) pa_nil))))))))
  (pss_one (ps_ret (pe_callB (cr_sortedG (K := K) (mg := mg) rfl rfl (show _ + 64 < cLine from hr.units)) (by rfl) T.b_sorted (by decide +kernel) (pa_cons (pv 3) pa_nil)))))),
  fun fr hfr => (ss_seq (ss_parT (is := [2, 3]) (n := 2) (snm_sh (sn_str (x := "abcdefghijklmnopqrstuvwxyz") (by decide +kernel)) (snm_ow (snn_lst snr_nil (by decide)) snm_nil)) rfl rfl)
  (ss_seq (ss_while (sn_test (sn_op ro_lt (SndE.b (sn_cb co_len (sn_cons sn_varB sn_nil))) (SndE.b sn_var)))
  (ss_seq (ss_asg (sn_join (sn_str (x := "") (by decide +kernel)) (SndE.b ((snn_lc (vs := [7]) (SndF.i (sf_range1 (sn_cons (SndE.b (sn_op ro_add (SndE.b sn_int) (SndE.b (sn_draw sn_int)))) sn_nil))) (sg_name (i := 7)) (by decide) sn_yes (sn_callS0 hfr (snr_cons sn_var snr_nil)))).e)) (sg_name (i := 4)))
  (ss_seq (ss_asg (sn_callS0 hfr (snr_cons ((snn_lst (snr_cons (sn_str (x := "a") (by decide +kernel)) (snr_cons (sn_str (x := "b") (by decide +kernel)) (snr_cons (sn_str (x := "c") (by decide +kernel)) (snr_cons (sn_str (x := "aa") (by decide +kernel)) (snr_cons (sn_str (x := "none") (by decide +kernel)) (snr_cons (sn_str (x := "things") (by decide +kernel)) (snr_cons (sn_str (x := "zzzzzz") (by decide +kernel)) (snr_cons sn_var (snr_cons sn_var snr_nil))))))))) (by decide))).e snr_nil)) (sg_name (i := 5)))
  (ss_seq (ss_asg (sn_op ro_add (SndE.b ((snn_lst (snr_cons sn_var snr_nil) (by decide))).e) (SndE.b ((snn_lc (vs := [8]) (SndF.i (sf_seq sn_var)) (sg_name (i := 8)) (by decide) sn_yes (sn_op ro_add (SndE.b (sn_sl so_any (SndE.b sn_var) sp_none (sp_some sn_int))) (SndE.b sn_var)))).e)) (sg_name (i := 6)))
  (ss_append (sn_op ro_ix (SndE.b ((snn_lc (vs := [9]) (SndF.i (sf_seq sn_var)) (sg_name (i := 9)) (by decide) (sn_test (sn_op ro_in (SndE.b sn_var) sn_varB)) sn_var)).e) (SndE.b sn_int)))))))
  (ss_ret ((snn_cb cn_sorted (sn_cons sn_varB sn_nil))).e)))⟩
abbrev s__law_row : Stmt := top 20
abbrev N__law_row : List Str := ["_law_state", "_law_words_here", "_law_wide", "_law_found", "_law_far", "_law_word"]
theorem sc__law_row : FnScope N__law_row ["_law_state", "_law_words_here", "_law_wide"] (defScope s__law_row) := ⟨rfl, rfl, rfl, by decide +kernel, rfl, by decide +kernel, by decide +kernel⟩
/- slots: 0 _law_state, 1 _law_words_here, 2 _law_wide, 3 _law_found, 4 _law_far, 5 _law_word; own: ['_law_found'] -/
def B__law_row : WS := (wSeq (wParM [3, 4] (wMOw (wLst wNil) (wMSh (wCallS0 0 W__law_pick (wCons (wLst (wCons (wC (.int 0)) (wCons (wC (.int 0)) (wCons (wC (.int 0)) (wCons (wC (.int 0)) (wCons (wC (.int 0)) (wCons (wOp mulD (wC (.int 9)) (wOp powD (wC (.int 10)) (wC (.int 8)))) wNil))))))) wNil)) wMNil)))
  (wSeq (wFor (wiSeq (wVar 1)) (wgName 5)
  (wIfS (wTest (wOp gtD (wDraw 0 (wC (.int 4))) (wC (.int 0))))
  (wAppend 3 (wTup (wCons (wVar 5) (wCons (wOp addD (wOp subD (wDraw 0 (wOp addD (wOp mulD (wC (.int 2)) (wVar 2)) (wC (.int 1)))) (wVar 2)) (wVar 4)) wNil)))) wNext))
  (wRet (wCB tupleD (wCons (wVarB 3) wNil)))))
def W__law_row : WFS := bodyWS B__law_row 6
theorem u__law_row {d0 d1 : Dt} {b : Nat} {q : QD} {qx : QX} : W__law_row [d0, d1] b q qx = B__law_row { nx := fun _ b1 => q .none b1, rt := q, ex := qx } [some .st, some (.sh d0), some (.sh d1), none, none, none] b := rfl
theorem k__law_row (Fx : Fg K mg "_law_row" s__law_row) (T : Txt mg) (k__law_pick : Kws P w K mg base Ts 2 "_law_pick" "_law_state" ["_law_several"] W__law_pick) (k__law_draw : Kp P w K mg base 1 "_law_draw" ["_law_state", "_law_size"] spDraw2) : Kws P w K mg base Ts 3 "_law_row" "_law_state" ["_law_words_here", "_law_wide"] W__law_row := by
  refine kws_of Fx sc__law_row (fun F => F.binds fun _ _ _ _ _ _ us hl => match us, hl with | [_, _, _], _ => rfl) fun f₀ cdv A outer s H E hg hr => ?_
  have hu := hu_of hr
  exact ⟨_, (pss_cons (ps_par (i := 3) (j := 4) (by rfl) sc__law_row.nd rfl rfl (by decide) rfl rfl (pa_cons (pe_lst pa_nil) (pa_cons (Dw.pe_callS0 k__law_pick rfl rfl rfl rfl rfl (by exact hg) (hr.mono (by decide)) (by rfl) (pa_cons (pv 0) (pa_cons (pe_lst (pa_cons pe_int (pa_cons pe_int (pa_cons pe_int (pa_cons pe_int (pa_cons pe_int (pa_cons (pe_op op_mul pe_int (pe_op op_pow pe_int pe_int)) pa_nil))))))) pa_nil))) pa_nil)) (by rfl))
  (pss_cons (ps_for (passes_of rfl) rfl (pi_seqA (K := K) rfl (pv 1)) (pg_name (i := 5) sc__law_row.nd rfl (Or.inl rfl))
  (pss_one (ps_if (pt_cmpR op_gtB (pe_call00 k__law_draw rfl rfl rfl rfl rfl (hr.mono (by decide)) (by rfl) (pa_cons (pv 0) (pa_cons pe_int pa_nil))) pe_int (nomark _))
  (pss_one (ps_expr (pe_bm PySem.F.plainAttrs_list PySem.F.slot_list_append PySem.F.type_list_append mt_append (pv 3) (pa_cons (pe_tupZ (pa_cons (pv 5) (pa_cons (pe_op (op_addA (K := K) rfl) (pe_op op_sub (pe_call00 k__law_draw rfl rfl rfl rfl rfl (hr.mono (by decide)) (by rfl) (pa_cons (pv 0) (pa_cons (pe_op (op_addA (K := K) rfl) (pe_op op_mul pe_int (pv 2)) pe_int) pa_nil))) (pv 2)) (pv 4)) pa_nil))) pa_nil)))) pss_nil)))
  (pss_one (ps_ret (pe_callTy (call_tupleZ (K := K) rfl) (by rfl) T.b_tuple (by decide +kernel) (pa_cons (pv 3) pa_nil)))))),
  fun fr hfr => (ss_seq (ss_parM (snm_ow (snn_lst snr_nil (by decide)) (snm_sh (sn_callS0 hfr (snr_cons ((snn_lst (snr_cons sn_int (snr_cons sn_int (snr_cons sn_int (snr_cons sn_int (snr_cons sn_int (snr_cons (sn_op ro_mul (SndE.b sn_int) (SndE.b (sn_op ro_pow (SndE.b sn_int) (SndE.b sn_int)))) snr_nil)))))) (by decide))).e snr_nil)) snm_nil)))
  (ss_seq (ss_for (sf_seq sn_var) (sg_name (i := 5))
  (ss_if (sn_test (sn_op ro_gt (SndE.b (sn_draw sn_int)) (SndE.b sn_int)))
  (ss_append (sn_tup (snr_cons sn_var (snr_cons (sn_op ro_add (SndE.b (sn_op ro_sub (SndE.b (sn_draw (sn_op ro_add (SndE.b (sn_op ro_mul (SndE.b sn_int) (SndE.b sn_var))) (SndE.b sn_int)))) (SndE.b sn_var))) (SndE.b sn_var)) snr_nil)) (by decide))) ss_next))
  (ss_ret (sn_cb co_tuple (sn_cons sn_varB sn_nil)))))⟩
abbrev s__law_odd : Stmt := top 21
abbrev N__law_odd : List Str := ["_law_state", "_law_several"]
theorem sc__law_odd : FnScope N__law_odd ["_law_state"] (defScope s__law_odd) := ⟨rfl, rfl, rfl, by decide +kernel, rfl, by decide +kernel, by decide +kernel⟩
/- slots: 0 _law_state, 1 _law_several; own: [] -/
def B__law_odd : WS := (wSeq (wAsg (wLst (wCons (wC .none) (wCons (wC (.int 0)) (wCons (wC (.int 5)) (wCons (wC (.bool true)) (wCons (wC (.bool false)) (wCons (wUn negD (wC (.int 1))) (wCons (wC (.str "")) (wCons (wC (.str "a")) (wCons (wC (.str "ab")) (wCons (wTup wNil) (wCons (wLst wNil) (wCons wD0 (wCons (wTup (wCons (wTup (wCons (wC (.str "a")) (wCons (wC (.int 0)) wNil))) wNil)) (wCons (wLst (wCons (wTup (wCons (wC (.str "a")) (wCons (wC (.int 0)) wNil))) wNil)) (wCons (wTup (wCons (wTup (wCons (wC (.str "a")) (wCons (wC (.int 0)) wNil))) (wCons (wTup (wCons (wC (.str "b")) (wCons (wC (.int 1)) wNil))) wNil))) (wCons (wTup (wCons (wTup wNil) (wCons (wTup wNil) wNil))) wNil))))))))))))))))) (wgName 1))
  (wSeq (wAsg (wOp addD (wVar 1) (wLst (wCons (wTup (wCons (wTup (wCons (wC (.str "a")) (wCons (wC (.int 0)) wNil))) (wCons (wTup (wCons (wC (.str "a")) (wCons (wC (.int 1)) wNil))) wNil))) (wCons (wTup (wCons (wTup (wCons (wC (.str "b")) (wCons (wC (.int 0)) wNil))) (wCons (wTup (wCons (wC (.str "a")) (wCons (wC (.int 0)) wNil))) wNil))) (wCons (wTup (wCons (wTup (wCons (wC (.str "a")) (wCons (wC (.bool true)) wNil))) wNil)) (wCons (wTup (wCons (wTup (wCons (wC (.str "A")) (wCons (wC (.int 0)) wNil))) wNil)) (wCons (wTup (wCons (wC (.str "a")) (wCons (wC (.int 0)) wNil))) (wCons (wTup (wCons (wTup (wCons (wC (.str "a")) wNil)) wNil)) (wCons (wTup (wCons (wC (.int 5)) wNil)) wNil))))))))) (wgName 1))
  (wRet (wCallS0 0 W__law_pick (wCons (wOp addD (wVar 1) (wLst (wCons (wTup (wCons (wLst (wCons (wC (.str "a")) (wCons (wC (.int 0)) wNil))) wNil)) (wCons (wTup (wCons (wTup (wCons (wC (.str "abcdefg")) (wCons (wC (.int 0)) wNil))) wNil)) (wCons (wTup (wCons (wTup (wCons (wC (.str "")) (wCons (wC (.int 0)) wNil))) wNil)) (wCons (wTup (wCons (wTup (wCons (wC (.str "a")) (wCons (wC .none) wNil))) wNil)) (wCons (wDisp (wpCons (wC (.str "a")) (wC (.int 0)) wpNil)) (wCons (wTup (wCons (wTup (wCons (wTup (wCons (wC (.str "a")) (wCons (wC (.int 0)) wNil))) wNil)) (wCons (wTup wNil) wNil))) wNil)))))))) wNil)))))
def W__law_odd : WFS := bodyWS B__law_odd 2
theorem u__law_odd {b : Nat} {q : QD} {qx : QX} : W__law_odd [] b q qx = B__law_odd { nx := fun _ b1 => q .none b1, rt := q, ex := qx } [some .st, none] b := rfl
theorem k__law_odd (Fx : Fg K mg "_law_odd" s__law_odd) (T : Txt mg) (k__law_pick : Kws P w K mg base Ts 2 "_law_pick" "_law_state" ["_law_several"] W__law_pick) : Kws P w K mg base Ts 3 "_law_odd" "_law_state" [] W__law_odd := by
  refine kws_of Fx sc__law_odd (fun F => F.binds fun _ _ _ _ _ _ us hl => match us, hl with | [_], _ => rfl) fun f₀ cdv A outer s H E hg hr => ?_
  have hu := hu_of hr
  exact ⟨_, (pss_cons (ps_set (i := 1) sc__law_odd.nd rfl (Or.inl rfl) (pe_lst (pa_cons pe_non (pa_cons pe_int (pa_cons pe_int (pa_cons pe_bl (pa_cons pe_bl (pa_cons (pe_un un_neg pe_int) (pa_cons pe_str (pa_cons pe_str (pa_cons pe_str (pa_cons (pe_tupZ pa_nil) (pa_cons (pe_lst pa_nil) (pa_cons pe_dnewK (pa_cons (pe_tupZ (pa_cons (pe_tupZ (pa_cons pe_str (pa_cons pe_int pa_nil))) pa_nil)) (pa_cons (pe_lst (pa_cons (pe_tupZ (pa_cons pe_str (pa_cons pe_int pa_nil))) pa_nil)) (pa_cons (pe_tupZ (pa_cons (pe_tupZ (pa_cons pe_str (pa_cons pe_int pa_nil))) (pa_cons (pe_tupZ (pa_cons pe_str (pa_cons pe_int pa_nil))) pa_nil))) (pa_cons (pe_tupZ (pa_cons (pe_tupZ pa_nil) (pa_cons (pe_tupZ pa_nil) pa_nil))) pa_nil))))))))))))))))))
  (pss_cons (ps_set (i := 1) sc__law_odd.nd rfl (Or.inl rfl) (pe_op (op_addA (K := K) rfl) (pv 1) (pe_lst (pa_cons (pe_tupZ (pa_cons (pe_tupZ (pa_cons pe_str (pa_cons pe_int pa_nil))) (pa_cons (pe_tupZ (pa_cons pe_str (pa_cons pe_int pa_nil))) pa_nil))) (pa_cons (pe_tupZ (pa_cons (pe_tupZ (pa_cons pe_str (pa_cons pe_int pa_nil))) (pa_cons (pe_tupZ (pa_cons pe_str (pa_cons pe_int pa_nil))) pa_nil))) (pa_cons (pe_tupZ (pa_cons (pe_tupZ (pa_cons pe_str (pa_cons pe_bl pa_nil))) pa_nil)) (pa_cons (pe_tupZ (pa_cons (pe_tupZ (pa_cons pe_str (pa_cons pe_int pa_nil))) pa_nil)) (pa_cons (pe_tupZ (pa_cons pe_str (pa_cons pe_int pa_nil))) (pa_cons (pe_tupZ (pa_cons (pe_tupZ (pa_cons pe_str pa_nil)) pa_nil)) (pa_cons (pe_tupZ (pa_cons pe_int pa_nil)) pa_nil))))))))))
  (pss_one (ps_ret (Dw.pe_callS0 k__law_pick rfl rfl rfl rfl rfl (by exact hg) (hr.mono (by decide)) (by rfl) (pa_cons (pv 0) (pa_cons (pe_op (op_addA (K := K) rfl) (pv 1) (pe_lst (pa_cons (pe_tupZ (pa_cons (pe_lst (pa_cons pe_str (pa_cons pe_int pa_nil))) pa_nil)) (pa_cons (pe_tupZ (pa_cons (pe_tupZ (pa_cons pe_str (pa_cons pe_int pa_nil))) pa_nil)) (pa_cons (pe_tupZ (pa_cons (pe_tupZ (pa_cons pe_str (pa_cons pe_int pa_nil))) pa_nil)) (pa_cons (pe_tupZ (pa_cons (pe_tupZ (pa_cons pe_str (pa_cons pe_non pa_nil))) pa_nil)) (pa_cons (pe_disp (pps_cons pe_str pe_int pps_nil) (by rfl) (by rfl) (fun z => by cases z) (by decide)) (pa_cons (pe_tupZ (pa_cons (pe_tupZ (pa_cons (pe_tupZ (pa_cons pe_str (pa_cons pe_int pa_nil))) pa_nil)) (pa_cons (pe_tupZ pa_nil) pa_nil))) pa_nil)))))))) pa_nil))))))),
  fun fr hfr => (ss_seq (ss_asg ((snn_lst (snr_cons sn_non (snr_cons sn_int (snr_cons sn_int (snr_cons sn_bl (snr_cons sn_bl (snr_cons (sn_un uo_neg (SndE.b sn_int)) (snr_cons (sn_str (x := "") (by decide +kernel)) (snr_cons (sn_str (x := "a") (by decide +kernel)) (snr_cons (sn_str (x := "ab") (by decide +kernel)) (snr_cons (sn_tup snr_nil (by decide)) (snr_cons ((snn_lst snr_nil (by decide))).e (snr_cons (snn_d0).e (snr_cons (sn_tup (snr_cons (sn_tup (snr_cons (sn_str (x := "a") (by decide +kernel)) (snr_cons sn_int snr_nil)) (by decide)) snr_nil) (by decide)) (snr_cons ((snn_lst (snr_cons (sn_tup (snr_cons (sn_str (x := "a") (by decide +kernel)) (snr_cons sn_int snr_nil)) (by decide)) snr_nil) (by decide))).e (snr_cons (sn_tup (snr_cons (sn_tup (snr_cons (sn_str (x := "a") (by decide +kernel)) (snr_cons sn_int snr_nil)) (by decide)) (snr_cons (sn_tup (snr_cons (sn_str (x := "b") (by decide +kernel)) (snr_cons sn_int snr_nil)) (by decide)) snr_nil)) (by decide)) (snr_cons (sn_tup (snr_cons (sn_tup snr_nil (by decide)) (snr_cons (sn_tup snr_nil (by decide)) snr_nil)) (by decide)) snr_nil)))))))))))))))) (by decide))).e (sg_name (i := 1)))
  (ss_seq (ss_asg (sn_op ro_add (SndE.b sn_var) (SndE.b ((snn_lst (snr_cons (sn_tup (snr_cons (sn_tup (snr_cons (sn_str (x := "a") (by decide +kernel)) (snr_cons sn_int snr_nil)) (by decide)) (snr_cons (sn_tup (snr_cons (sn_str (x := "a") (by decide +kernel)) (snr_cons sn_int snr_nil)) (by decide)) snr_nil)) (by decide)) (snr_cons (sn_tup (snr_cons (sn_tup (snr_cons (sn_str (x := "b") (by decide +kernel)) (snr_cons sn_int snr_nil)) (by decide)) (snr_cons (sn_tup (snr_cons (sn_str (x := "a") (by decide +kernel)) (snr_cons sn_int snr_nil)) (by decide)) snr_nil)) (by decide)) (snr_cons (sn_tup (snr_cons (sn_tup (snr_cons (sn_str (x := "a") (by decide +kernel)) (snr_cons sn_bl snr_nil)) (by decide)) snr_nil) (by decide)) (snr_cons (sn_tup (snr_cons (sn_tup (snr_cons (sn_str (x := "A") (by decide +kernel)) (snr_cons sn_int snr_nil)) (by decide)) snr_nil) (by decide)) (snr_cons (sn_tup (snr_cons (sn_str (x := "a") (by decide +kernel)) (snr_cons sn_int snr_nil)) (by decide)) (snr_cons (sn_tup (snr_cons (sn_tup (snr_cons (sn_str (x := "a") (by decide +kernel)) snr_nil) (by decide)) snr_nil) (by decide)) (snr_cons (sn_tup (snr_cons sn_int snr_nil) (by decide)) snr_nil))))))) (by decide))).e)) (sg_name (i := 1)))
  (ss_ret (sn_callS0 hfr (snr_cons (sn_op ro_add (SndE.b sn_var) (SndE.b ((snn_lst (snr_cons (sn_tup (snr_cons ((snn_lst (snr_cons (sn_str (x := "a") (by decide +kernel)) (snr_cons sn_int snr_nil)) (by decide))).e snr_nil) (by decide)) (snr_cons (sn_tup (snr_cons (sn_tup (snr_cons (sn_str (x := "abcdefg") (by decide +kernel)) (snr_cons sn_int snr_nil)) (by decide)) snr_nil) (by decide)) (snr_cons (sn_tup (snr_cons (sn_tup (snr_cons (sn_str (x := "") (by decide +kernel)) (snr_cons sn_int snr_nil)) (by decide)) snr_nil) (by decide)) (snr_cons (sn_tup (snr_cons (sn_tup (snr_cons (sn_str (x := "a") (by decide +kernel)) (snr_cons sn_non snr_nil)) (by decide)) snr_nil) (by decide)) (snr_cons ((snn_disp (n := 1) (by decide) (sp_cons (sn_str (x := "a") (by decide +kernel)) sn_int sp_nil))).e (snr_cons (sn_tup (snr_cons (sn_tup (snr_cons (sn_tup (snr_cons (sn_str (x := "a") (by decide +kernel)) (snr_cons sn_int snr_nil)) (by decide)) snr_nil) (by decide)) (snr_cons (sn_tup snr_nil (by decide)) snr_nil)) (by decide)) snr_nil)))))) (by decide))).e)) snr_nil)))))⟩
abbrev s__law_is_row : Stmt := top 22
abbrev N__law_is_row : List Str := ["_law_thing", "_law_pair", "_law_sign"]
theorem sc__law_is_row : FnScope N__law_is_row ["_law_thing"] (defScope s__law_is_row) := ⟨rfl, rfl, rfl, by decide +kernel, rfl, by decide +kernel, by decide +kernel⟩
/- slots: 0 _law_thing, 1 _law_pair, 2 _law_sign; own: [] -/
def B__law_is_row : WS := (wSeq (wIfS (wNot (wTest (wIsi .tuple (wVar 0))))
  (wRet (wC (.bool false))) wNext)
  (wSeq (wFor (wiSeq (wVar 0)) (wgName 1)
  (wSeq (wIfS (wOr (wNot (wTest (wIsi .tuple (wVar 1)))) (wOr (wTest (wOp neD (wCB lenD (wCons (wVar 1) wNil)) (wC (.int 2)))) (wOr (wNot (wTest (wIsi .str (wOp ixD (wVar 1) (wC (.int 0)))))) (wNot (wTest (wChain leD leD (wC (.int 1)) (wCB lenD (wCons (wOp ixD (wVar 1) (wC (.int 0))) wNil)) (wC (.int 6))))))))
  (wRet (wC (.bool false))) wNext)
  (wSeq (wIfS (wTest (wOp neD (wLc (wiSeq (wOp ixD (wVar 1) (wC (.int 0)))) (wgName 2) (wTest (wOp (inSD true) (wVar 2) (wC (.str "abcdefghijklmnopqrstuvwxyz")))) (wVar 2) [2]) (wLst wNil)))
  (wRet (wC (.bool false))) wNext)
  (wIfS (wOr (wNot (wTest (wIsi .int (wOp ixD (wVar 1) (wC (.int 1)))))) (wTest (wIsi .bool (wOp ixD (wVar 1) (wC (.int 1))))))
  (wRet (wC (.bool false))) wNext))))
  (wRet (wOp eqD (wLc (wiSeq (wVar 0)) (wgName 1) wYes (wOp ixD (wVar 1) (wC (.int 0))) [1]) (wSSet (wLc (wiSeq (wVar 0)) (wgName 1) wYes (wOp ixD (wVar 1) (wC (.int 0))) [1]))))))
def W__law_is_row : WF := bodyW B__law_is_row 3
theorem u__law_is_row {d0 : Dt} {q : Dt → Prop} {qx : Xv → Prop} : W__law_is_row [d0] q qx = B__law_is_row { nx := fun _ _ => q .none, rt := fun d _ => q d, ex := fun x _ => qx x } [some (.sh d0), none, none] 0 := rfl
theorem k__law_is_row (Fx : Fg K mg "_law_is_row" s__law_is_row) (T : Txt mg) : Kw P w K mg base 1 "_law_is_row" ["_law_thing"] W__law_is_row := by
  refine kw_of Fx sc__law_is_row (fun F => F.binds fun _ _ _ _ _ _ us hl => match us, hl with | [_], _ => rfl) fun f₀ cdv A outer s H E hg hr => ?_
  have hu := hu_of hr
  exact ⟨_, (pss_cons (ps_if (pt_not (pt_val (pe_callB (call_isi1K (K := K) rfl) (by rfl) T.b_isinstance (by decide +kernel) (pa_cons (pv 0) (pa_cons (pe_bltn (v := .ty "tuple") (by rfl) T.b_tuple (by decide +kernel) rfl) pa_nil)))))
  (pss_one (ps_ret pe_bl)) pss_nil)
  (pss_cons (ps_for (passes_of rfl) rfl (pi_seqA (K := K) rfl (pv 0)) (pg_name (i := 1) sc__law_is_row.nd rfl (Or.inl rfl))
  (pss_cons (ps_if (PW.pt (pw_or (pt_not (pt_val (pe_callB (call_isi1K (K := K) rfl) (by rfl) T.b_isinstance (by decide +kernel) (pa_cons (pv 1) (pa_cons (pe_bltn (v := .ty "tuple") (by rfl) T.b_tuple (by decide +kernel) rfl) pa_nil))))) (pw_or (pt_cmpR (op_neP (K := K) rfl hr.units) (pe_callB (call_lenK (K := K) rfl) (by rfl) T.b_len (by decide +kernel) (pa_cons (pv 1) pa_nil)) pe_int (nomark _)) (pw_or (pt_not (pt_val (pe_callB (call_isi1K (K := K) rfl) (by rfl) T.b_isinstance (by decide +kernel) (pa_cons (pe_ix (ix_seqK (K := K) rfl) (pv 1) pe_int (fun _ _ => rfl)) (pa_cons (pe_bltn (v := .ty "str") (by rfl) T.b_str (by decide +kernel) rfl) pa_nil))))) (pw_or1 (pt_not (pt_chain op_leB op_leB pe_int (pe_callB (call_lenK (K := K) rfl) (by rfl) T.b_len (by decide +kernel) (pa_cons (pe_ix (ix_seqK (K := K) rfl) (pv 1) pe_int (fun _ _ => rfl)) pa_nil)) pe_int)))))))
  (pss_one (ps_ret pe_bl)) pss_nil)
  (pss_cons (ps_if (pt_cmpR (op_neP (K := K) rfl hr.units) (pe_lc (own := [("_law_sign", 2)]) (g := gName 2) rfl sc__law_is_row.nd (pi_seqA (K := K) rfl (pe_ix (ix_seqK (K := K) rfl) (pv 1) pe_int (fun _ _ => rfl))) (blkOk_by (N := N__law_is_row) (sc := defScope s__law_is_row) (by decide +kernel)) (fun _ _ _ _ _ => (pg_name (i := 2) sc__law_is_row.nd rfl (Or.inl rfl))) (fun _ _ _ _ _ => (pts_one (pt_cmpR op_notIn_sign (pv 2) pe_str rfl))) (fun _ _ _ _ _ => (pv 2))) (pe_lst pa_nil) (nomark _))
  (pss_one (ps_ret pe_bl)) pss_nil)
  (pss_one (ps_if (PW.pt (pw_or (pt_not (pt_val (pe_callB (call_isi1K (K := K) rfl) (by rfl) T.b_isinstance (by decide +kernel) (pa_cons (pe_ix (ix_seqK (K := K) rfl) (pv 1) pe_int (fun _ _ => rfl)) (pa_cons (pe_bltn (v := .ty "int") (by rfl) T.b_int (by decide +kernel) rfl) pa_nil))))) (pw_or1 (pt_val (pe_callB (call_isi1K (K := K) rfl) (by rfl) T.b_isinstance (by decide +kernel) (pa_cons (pe_ix (ix_seqK (K := K) rfl) (pv 1) pe_int (fun _ _ => rfl)) (pa_cons (pe_bltn (v := .ty "bool") (by rfl) T.b_bool (by decide +kernel) rfl) pa_nil)))))))
  (pss_one (ps_ret pe_bl)) pss_nil)))))
  (pss_one (ps_ret (pe_cmpR (op_eqP (K := K) rfl hr.units) (pe_lc (own := [("_law_pair", 1)]) (g := gName 1) (tt := tYes) rfl sc__law_is_row.nd (pi_seqA (K := K) rfl (pv 0)) (blkOk_by (N := N__law_is_row) (sc := defScope s__law_is_row) (by decide +kernel)) (fun _ _ _ _ _ => (pg_name (i := 1) sc__law_is_row.nd rfl (Or.inl rfl))) (fun _ _ _ _ _ => pts_nil) (fun _ _ _ _ _ => (pe_ix (ix_seqK (K := K) rfl) (pv 1) pe_int (fun _ _ => rfl)))) (pe_callB (cr_sortedK (w := w) rfl rfl (show _ + 64 < cLine from hr.units)) (by rfl) T.b_sorted (by decide +kernel) (pa_cons (pe_callTy (cr_setOfK (K := K) (w := w) rfl rfl rfl) (by rfl) T.b_set (by decide +kernel) (pa_cons (pe_lc (own := [("_law_pair", 1)]) (g := gName 1) (tt := tYes) rfl sc__law_is_row.nd (pi_seqA (K := K) rfl (pv 0)) (blkOk_by (N := N__law_is_row) (sc := defScope s__law_is_row) (by decide +kernel)) (fun _ _ _ _ _ => (pg_name (i := 1) sc__law_is_row.nd rfl (Or.inl rfl))) (fun _ _ _ _ _ => pts_nil) (fun _ _ _ _ _ => (pe_ix (ix_seqK (K := K) rfl) (pv 1) pe_int (fun _ _ => rfl)))) pa_nil)) pa_nil)) (nomark _)))))),
  (ss_seq (ss_if (sn_not (sn_tb (sn_isi .tuple (SndE.b sn_var))))
  (ss_ret sn_bl) ss_next)
  (ss_seq (ss_for (sf_seq sn_var) (sg_name (i := 1))
  (ss_seq (ss_if (sn_or (sn_not (sn_tb (sn_isi .tuple (SndE.b sn_var)))) (sn_or (sn_test (sn_op ro_ne (SndE.b (sn_cb co_len (sn_cons (SndE.b sn_var) sn_nil))) (SndE.b sn_int))) (sn_or (sn_not (sn_tb (sn_isi .str (SndE.b (sn_op ro_ix (SndE.b sn_var) (SndE.b sn_int)))))) (sn_not (sn_test (sn_chain ro_le ro_le (SndE.b sn_int) (SndE.b (sn_cb co_len (sn_cons (SndE.b (sn_op ro_ix (SndE.b sn_var) (SndE.b sn_int))) sn_nil))) (SndE.b sn_int)))))))
  (ss_ret sn_bl) ss_next)
  (ss_seq (ss_if (sn_test (sn_op ro_ne (SndE.b ((snn_lc (vs := [2]) (SndF.i (sf_seq (sn_op ro_ix (SndE.b sn_var) (SndE.b sn_int)))) (sg_name (i := 2)) (by decide) (sn_test (sn_op ro_notInS (SndE.b sn_var) (SndE.b (sn_str (x := "abcdefghijklmnopqrstuvwxyz") (by decide +kernel))))) sn_var)).e) (SndE.b ((snn_lst snr_nil (by decide))).e)))
  (ss_ret sn_bl) ss_next)
  (ss_if (sn_or (sn_not (sn_tb (sn_isi .int (SndE.b (sn_op ro_ix (SndE.b sn_var) (SndE.b sn_int)))))) (sn_tb (sn_isi .bool (SndE.b (sn_op ro_ix (SndE.b sn_var) (SndE.b sn_int))))))
  (ss_ret sn_bl) ss_next))))
  (ss_ret (sn_op ro_eq (SndE.b ((snn_lc (vs := [1]) (SndF.i (sf_seq sn_var)) (sg_name (i := 1)) (by decide) sn_yes (sn_op ro_ix (SndE.b sn_var) (SndE.b sn_int)))).e) (SndE.b ((snn_sset (SndE.b ((snn_lc (vs := [1]) (SndF.i (sf_seq sn_var)) (sg_name (i := 1)) (by decide) sn_yes (sn_op ro_ix (SndE.b sn_var) (SndE.b sn_int)))).e))).e)))))⟩
abbrev s__law_error : Stmt := top 23
abbrev N__law_error : List Str := ["_law_work", "_law_caught", "_law_error_here"]
theorem sc__law_error : FnScope N__law_error ["_law_work"] (defScope s__law_error) := ⟨rfl, rfl, rfl, by decide +kernel, rfl, by decide +kernel, by decide +kernel⟩
/- slots: 0 _law_work, 1 _law_caught, 2 _law_error_here; own: [] -/
abbrev s__law_is_bound : Stmt := top 24
abbrev N__law_is_bound : List Str := ["_law_thing", "_law_pair"]
theorem sc__law_is_bound : FnScope N__law_is_bound ["_law_thing"] (defScope s__law_is_bound) := ⟨rfl, rfl, rfl, by decide +kernel, rfl, by decide +kernel, by decide +kernel⟩
/- slots: 0 _law_thing, 1 _law_pair; own: [] -/
def B__law_is_bound : WS := (wSeq (wIfS (wOr (wNot (wTest (wIsi .tuple (wVar 0)))) (wTest (wOp neD (wLc (wiSeq (wVar 0)) (wgName 1) (wOr (wNot (wTest (wIsi .tuple (wVar 1)))) (wTest (wOp neD (wCB lenD (wCons (wVar 1) wNil)) (wC (.int 2))))) (wC (.int 1)) [1]) (wLst wNil))))
  (wRet (wC (.bool false))) wNext)
  (wRet (wCall0 W__law_is_row (wCons (wCB tupleD (wCons (wLc (wiSeq (wVar 0)) (wgName 1) wYes (wTup (wCons (wOp ixD (wVar 1) (wC (.int 0))) (wCons (wIf (wTest (wOp isND (wOp ixD (wVar 1) (wC (.int 1))) (wC .none))) (wC (.int 0)) (wOp ixD (wVar 1) (wC (.int 1)))) wNil))) [1]) wNil)) wNil))))
def W__law_is_bound : WF := bodyW B__law_is_bound 2
theorem u__law_is_bound {d0 : Dt} {q : Dt → Prop} {qx : Xv → Prop} : W__law_is_bound [d0] q qx = B__law_is_bound { nx := fun _ _ => q .none, rt := fun d _ => q d, ex := fun x _ => qx x } [some (.sh d0), none] 0 := rfl
theorem k__law_is_bound (Fx : Fg K mg "_law_is_bound" s__law_is_bound) (T : Txt mg) (k__law_is_row : Kw P w K mg base 1 "_law_is_row" ["_law_thing"] W__law_is_row) : Kw P w K mg base 2 "_law_is_bound" ["_law_thing"] W__law_is_bound := by
  refine kw_of Fx sc__law_is_bound (fun F => F.binds fun _ _ _ _ _ _ us hl => match us, hl with | [_], _ => rfl) fun f₀ cdv A outer s H E hg hr => ?_
  have hu := hu_of hr
  exact ⟨_, (pss_cons (ps_if (PW.pt (pw_or (pt_not (pt_val (pe_callB (call_isi1K (K := K) rfl) (by rfl) T.b_isinstance (by decide +kernel) (pa_cons (pv 0) (pa_cons (pe_bltn (v := .ty "tuple") (by rfl) T.b_tuple (by decide +kernel) rfl) pa_nil))))) (pw_or1 (pt_cmpR (op_neP (K := K) rfl hr.units) (pe_lc (own := [("_law_pair", 1)]) (g := gName 1) rfl sc__law_is_bound.nd (pi_seqA (K := K) rfl (pv 0)) (blkOk_by (N := N__law_is_bound) (sc := defScope s__law_is_bound) (by decide +kernel)) (fun _ _ _ _ _ => (pg_name (i := 1) sc__law_is_bound.nd rfl (Or.inl rfl))) (fun _ _ _ _ _ => (pts_one (PW.pt (pw_or (pt_not (pt_val (pe_callB (call_isi1K (K := K) rfl) (by rfl) T.b_isinstance (by decide +kernel) (pa_cons (pv 1) (pa_cons (pe_bltn (v := .ty "tuple") (by rfl) T.b_tuple (by decide +kernel) rfl) pa_nil))))) (pw_or1 (pt_cmpR (op_neP (K := K) rfl hr.units) (pe_callB (call_lenK (K := K) rfl) (by rfl) T.b_len (by decide +kernel) (pa_cons (pv 1) pa_nil)) pe_int (nomark _))))))) (fun _ _ _ _ _ => pe_int)) (pe_lst pa_nil) (nomark _)))))
  (pss_one (ps_ret pe_bl)) pss_nil)
  (pss_one (ps_ret (Dw.pe_call0 k__law_is_row rfl rfl rfl rfl rfl (by exact hg) (hr.mono (by decide)) (by rfl) (pa_cons (pe_callTy (call_tupleZ (K := K) rfl) (by rfl) T.b_tuple (by decide +kernel) (pa_cons (pe_lc (own := [("_law_pair", 1)]) (g := gName 1) (tt := tYes) rfl sc__law_is_bound.nd (pi_seqA (K := K) rfl (pv 0)) (blkOk_by (N := N__law_is_bound) (sc := defScope s__law_is_bound) (by decide +kernel)) (fun _ _ _ _ _ => (pg_name (i := 1) sc__law_is_bound.nd rfl (Or.inl rfl))) (fun _ _ _ _ _ => pts_nil) (fun _ _ _ _ _ => (pe_tupZ (pa_cons (pe_ix (ix_seqK (K := K) rfl) (pv 1) pe_int (fun _ _ => rfl)) (pa_cons (pe_ifExp (pt_cmpR op_isN (pe_ix (ix_seqK (K := K) rfl) (pv 1) pe_int (fun _ _ => rfl)) pe_non (nomark _)) pe_int (pe_ix (ix_seqK (K := K) rfl) (pv 1) pe_int (fun _ _ => rfl))) pa_nil))))) pa_nil)) pa_nil))))),
  (ss_seq (ss_if (sn_or (sn_not (sn_tb (sn_isi .tuple (SndE.b sn_var)))) (sn_test (sn_op ro_ne (SndE.b ((snn_lc (vs := [1]) (SndF.i (sf_seq sn_var)) (sg_name (i := 1)) (by decide) (sn_or (sn_not (sn_tb (sn_isi .tuple (SndE.b sn_var)))) (sn_test (sn_op ro_ne (SndE.b (sn_cb co_len (sn_cons (SndE.b sn_var) sn_nil))) (SndE.b sn_int)))) sn_int)).e) (SndE.b ((snn_lst snr_nil (by decide))).e))))
  (ss_ret sn_bl) ss_next)
  (ss_ret (sn_call0 (snr_cons (sn_cb co_tuple (sn_cons (SndE.b ((snn_lc (vs := [1]) (SndF.i (sf_seq sn_var)) (sg_name (i := 1)) (by decide) sn_yes (sn_tup (snr_cons (sn_op ro_ix (SndE.b sn_var) (SndE.b sn_int)) (snr_cons (sn_if (sn_test (sn_op ro_isN (SndE.b (sn_op ro_ix (SndE.b sn_var) (SndE.b sn_int))) (SndE.b sn_non))) sn_int (sn_op ro_ix (SndE.b sn_var) (SndE.b sn_int))) snr_nil)) (by decide)))).e) sn_nil)) snr_nil))))⟩
abbrev s__law_bound : Stmt := top 25
abbrev N__law_bound : List Str := ["_law_state", "_law_words_here", "_law_wide", "_law_word", "_law_num"]
theorem sc__law_bound : FnScope N__law_bound ["_law_state", "_law_words_here", "_law_wide"] (defScope s__law_bound) := ⟨rfl, rfl, rfl, by decide +kernel, rfl, by decide +kernel, by decide +kernel⟩
/- slots: 0 _law_state, 1 _law_words_here, 2 _law_wide, 3 _law_word, 4 _law_num; own: [] -/
def B__law_bound : WS := (wRet (wCB tupleD (wCons (wLc (wiSeq (wCallS0 0 W__law_row (wCons (wVar 1) (wCons (wVar 2) wNil)))) (wgTup 2 (wgCons (wgName 3) (wgCons (wgName 4) wgNil))) wYes (wTup (wCons (wVar 3) (wCons (wIf (wTest (wOp eqD (wDraw 0 (wC (.int 4))) (wC (.int 0)))) (wC .none) (wVar 4)) wNil))) [3, 4]) wNil)))
def W__law_bound : WFS := bodyWS B__law_bound 5
theorem u__law_bound {d0 d1 : Dt} {b : Nat} {q : QD} {qx : QX} : W__law_bound [d0, d1] b q qx = B__law_bound { nx := fun _ b1 => q .none b1, rt := q, ex := qx } [some .st, some (.sh d0), some (.sh d1), none, none] b := rfl
theorem k__law_bound (Fx : Fg K mg "_law_bound" s__law_bound) (T : Txt mg) (k__law_row : Kws P w K mg base Ts 3 "_law_row" "_law_state" ["_law_words_here", "_law_wide"] W__law_row) (k__law_draw : Kp P w K mg base 1 "_law_draw" ["_law_state", "_law_size"] spDraw2) : Kws P w K mg base Ts 4 "_law_bound" "_law_state" ["_law_words_here", "_law_wide"] W__law_bound := by
  refine kws_of Fx sc__law_bound (fun F => F.binds fun _ _ _ _ _ _ us hl => match us, hl with | [_, _, _], _ => rfl) fun f₀ cdv A outer s H E hg hr => ?_
  have hu := hu_of hr
  exact ⟨_, (pss_one (ps_ret (pe_callTy (call_tupleZ (K := K) rfl) (by rfl) T.b_tuple (by decide +kernel) (pa_cons (pe_lc (own := [("_law_word", 3), ("_law_num", 4)]) (g := gTup K 2 (gCons (gName 3) (gCons (gName 4) gNil))) (tt := tYes) rfl sc__law_bound.nd (pi_seqA (K := K) rfl (Dw.pe_callS0 k__law_row rfl rfl rfl rfl rfl (by exact hg) (hr.mono (by decide)) (by rfl) (pa_cons (pv 0) (pa_cons (pv 1) (pa_cons (pv 2) pa_nil))))) (blkOk_by (N := N__law_bound) (sc := defScope s__law_bound) (by decide +kernel)) (fun _ _ _ _ _ => (pg_tup rfl (pgs_cons (pg_name (i := 3) sc__law_bound.nd rfl (Or.inl rfl)) (pgs_cons (pg_name (i := 4) sc__law_bound.nd rfl (Or.inl rfl)) pgs_nil)))) (fun _ _ _ _ _ => pts_nil) (fun _ _ _ _ _ => (pe_tupZ (pa_cons (pv 3) (pa_cons (pe_ifExp (pt_cmpR (op_eqP (K := K) rfl hr.units) (pe_call00 k__law_draw rfl rfl rfl rfl rfl (hr.mono (by decide)) (by rfl) (pa_cons (pv 0) (pa_cons pe_int pa_nil))) pe_int (nomark _)) pe_non (pv 4)) pa_nil))))) pa_nil)))),
  fun fr hfr => (ss_ret (sn_cb co_tuple (sn_cons (SndE.b ((snn_lc (vs := [3, 4]) (SndF.i (sf_seq (sn_callS0 hfr (snr_cons sn_var (snr_cons sn_var snr_nil))))) (sg_tup (sg_cons (sg_name (i := 3)) (sg_cons (sg_name (i := 4)) sg_nil))) (by decide) sn_yes (sn_tup (snr_cons sn_var (snr_cons (sn_if (sn_test (sn_op ro_eq (SndE.b (sn_draw sn_int)) (SndE.b sn_int))) sn_non sn_var) snr_nil)) (by decide)))).e) sn_nil)))⟩
abbrev s__law_bent : Stmt := top 26
abbrev N__law_bent : List Str := ["_law_state", "_law_row_here", "_law_pairs", "_law_spot", "_law_way", "_law_word", "_law_num"]
theorem sc__law_bent : FnScope N__law_bent ["_law_state", "_law_row_here"] (defScope s__law_bent) := ⟨rfl, rfl, rfl, by decide +kernel, rfl, by decide +kernel, by decide +kernel⟩
/- slots: 0 _law_state, 1 _law_row_here, 2 _law_pairs, 3 _law_spot, 4 _law_way, 5 _law_word, 6 _law_num; own: ['_law_pairs'] -/
def B__law_bent : WS := (wSeq (wParM [2, 3] (wMOw (wCB listD (wCons (wVar 1) wNil)) (wMSh (wIf (wTest (wOp neD (wVar 1) (wTup wNil))) (wDraw 0 (wCB lenD (wCons (wVar 1) wNil))) (wC (.int 0))) wMNil)))
  (wSeq (wAsg (wDraw 0 (wC (.int 7))) (wgName 4))
  (wSeq (wIfS (wTest (wOp eqD (wVar 4) (wC (.int 0))))
  (wFrz 2 (wRet (wVar 2))) wNext)
  (wSeq (wIfS (wOr (wTest (wOp eqD (wVar 1) (wTup wNil))) (wTest (wOp eqD (wVar 4) (wC (.int 1)))))
  (wRet (wCallS0 0 W__law_odd wNil)) wNext)
  (wSeq (wIfS (wTest (wOp eqD (wVar 4) (wC (.int 2))))
  (wRet (wUn revD (wVar 1))) wNext)
  (wSeq (wIfS (wTest (wOp eqD (wVar 4) (wC (.int 3))))
  (wRet (wOp addD (wVar 1) (wSl slA (wVar 1) (wPart (wVar 3)) (wPart (wOp addD (wVar 3) (wC (.int 1))))))) wNext)
  (wSeq (wAsg (wOp ixD (wVarB 2) (wVar 3)) (wgTup 2 (wgCons (wgName 5) (wgCons (wgName 6) wgNil))))
  (wSeq (wSetL 2 (wVar 3) (wCallS0 0 W__law_pick (wCons (wLst (wCons (wTup (wCons (wVar 5) (wCons (wC (.bool true)) wNil))) (wCons (wTup (wCons (wUpper (wVar 5)) (wCons (wVar 6) wNil))) (wCons (wTup (wCons (wOp addD (wVar 5) (wC (.str "a"))) (wCons (wVar 6) wNil))) (wCons (wLst (wCons (wVar 5) (wCons (wVar 6) wNil))) (wCons (wTup (wCons (wVar 5) (wCons (wVar 6) (wCons (wC (.int 0)) wNil)))) (wCons (wTup (wCons (wVar 5) (wCons (wC (.str "None")) wNil))) wNil))))))) wNil)))
  (wRet (wCB tupleD (wCons (wVarB 2) wNil)))))))))))
def W__law_bent : WFS := bodyWS B__law_bent 7
theorem u__law_bent {d0 : Dt} {b : Nat} {q : QD} {qx : QX} : W__law_bent [d0] b q qx = B__law_bent { nx := fun _ b1 => q .none b1, rt := q, ex := qx } [some .st, some (.sh d0), none, none, none, none, none] b := rfl
theorem k__law_bent (Fx : Fg K mg "_law_bent" s__law_bent) (T : Txt mg) (k__law_draw : Kp P w K mg base 1 "_law_draw" ["_law_state", "_law_size"] spDraw2) (k__law_odd : Kws P w K mg base Ts 3 "_law_odd" "_law_state" [] W__law_odd) (k__law_pick : Kws P w K mg base Ts 2 "_law_pick" "_law_state" ["_law_several"] W__law_pick) : Kws P w K mg base Ts 4 "_law_bent" "_law_state" ["_law_row_here"] W__law_bent := by
  refine kws_of Fx sc__law_bent (fun F => F.binds fun _ _ _ _ _ _ us hl => match us, hl with | [_, _], _ => rfl) fun f₀ cdv A outer s H E hg hr => ?_
  have hu := hu_of hr
  exact ⟨_, (pss_cons (ps_par (i := 2) (j := 3) (by rfl) sc__law_bent.nd rfl rfl (by decide) rfl rfl (pa_cons (pe_callTy call_list_of (by rfl) T.b_list (by decide +kernel) (pa_cons (pv 1) pa_nil)) (pa_cons (pe_ifExp (pt_cmpR (op_neP (K := K) rfl hr.units) (pv 1) (pe_tupZ pa_nil) (nomark _)) (pe_call00 k__law_draw rfl rfl rfl rfl rfl (hr.mono (by decide)) (by rfl) (pa_cons (pv 0) (pa_cons (pe_callB (call_lenK (K := K) rfl) (by rfl) T.b_len (by decide +kernel) (pa_cons (pv 1) pa_nil)) pa_nil))) pe_int) pa_nil)) (by rfl))
  (pss_cons (ps_set (i := 4) sc__law_bent.nd rfl (Or.inl rfl) (pe_call00 k__law_draw rfl rfl rfl rfl rfl (hr.mono (by decide)) (by rfl) (pa_cons (pv 0) (pa_cons pe_int pa_nil))))
  (pss_cons (ps_if (pt_cmpR (op_eqP (K := K) rfl hr.units) (pv 4) pe_int (nomark _))
  (pss_one (ps_ret (pv 2))) pss_nil)
  (pss_cons (ps_if (PW.pt (pw_or (pt_cmpR (op_eqP (K := K) rfl hr.units) (pv 1) (pe_tupZ pa_nil) (nomark _)) (pw_or1 (pt_cmpR (op_eqP (K := K) rfl hr.units) (pv 4) pe_int (nomark _)))))
  (pss_one (ps_ret (Dw.pe_callS0 k__law_odd rfl rfl rfl rfl rfl (by exact hg) (hr.mono (by decide)) (by rfl) (pa_cons (pv 0) pa_nil)))) pss_nil)
  (pss_cons (ps_if (pt_cmpR (op_eqP (K := K) rfl hr.units) (pv 4) pe_int (nomark _))
  (pss_one (ps_ret (pe_revA (K := K) rfl (pv 1)))) pss_nil)
  (pss_cons (ps_if (pt_cmpR (op_eqP (K := K) rfl hr.units) (pv 4) pe_int (nomark _))
  (pss_one (ps_ret (pe_op (op_addA (K := K) rfl) (pv 1) (pe_slice (sl_any (K := K) rfl) (pv 1) (po_some (pv 3)) (po_some (pe_op (op_addA (K := K) rfl) (pv 3) pe_int)))))) pss_nil)
  (pss_cons (ps_asg (pe_ix (ix_seqK (K := K) rfl) (pv 2) (pv 3) (fun _ _ => rfl)) (pg_tup rfl (pgs_cons (pg_name (i := 5) sc__law_bent.nd rfl (Or.inl rfl)) (pgs_cons (pg_name (i := 6) sc__law_bent.nd rfl (Or.inl rfl)) pgs_nil))))
  (pss_cons (ps_asg (Dw.pe_callS0 k__law_pick rfl rfl rfl rfl rfl (by exact hg) (hr.mono (by decide)) (by rfl) (pa_cons (pv 0) (pa_cons (pe_lst (pa_cons (pe_tupZ (pa_cons (pv 5) (pa_cons pe_bl pa_nil))) (pa_cons (pe_tupZ (pa_cons (pe_upper (pv 5)) (pa_cons (pv 6) pa_nil))) (pa_cons (pe_tupZ (pa_cons (pe_op (op_addA (K := K) rfl) (pv 5) pe_str) (pa_cons (pv 6) pa_nil))) (pa_cons (pe_lst (pa_cons (pv 5) (pa_cons (pv 6) pa_nil))) (pa_cons (pe_tupZ (pa_cons (pv 5) (pa_cons (pv 6) (pa_cons pe_int pa_nil)))) (pa_cons (pe_tupZ (pa_cons (pv 5) (pa_cons pe_str pa_nil))) pa_nil))))))) pa_nil))) (pg_sub (pv 2) (pv 3) set_list))
  (pss_one (ps_ret (pe_callTy (call_tupleZ (K := K) rfl) (by rfl) T.b_tuple (by decide +kernel) (pa_cons (pv 2) pa_nil)))))))))))),
  fun fr hfr => (ss_seq (ss_parM (snm_ow (snn_cb cn_list (sn_cons (SndE.b sn_var) sn_nil)) (snm_sh (sn_if (sn_test (sn_op ro_ne (SndE.b sn_var) (SndE.b (sn_tup snr_nil (by decide))))) (sn_draw (sn_cb co_len (sn_cons (SndE.b sn_var) sn_nil))) sn_int) snm_nil)))
  (ss_seq (ss_asg (sn_draw sn_int) (sg_name (i := 4)))
  (ss_seq (ss_if (sn_test (sn_op ro_eq (SndE.b sn_var) (SndE.b sn_int)))
  (ss_frz (ss_ret sn_var)) ss_next)
  (ss_seq (ss_if (sn_or (sn_test (sn_op ro_eq (SndE.b sn_var) (SndE.b (sn_tup snr_nil (by decide))))) (sn_test (sn_op ro_eq (SndE.b sn_var) (SndE.b sn_int))))
  (ss_ret (sn_callS0 hfr snr_nil)) ss_next)
  (ss_seq (ss_if (sn_test (sn_op ro_eq (SndE.b sn_var) (SndE.b sn_int)))
  (ss_ret (sn_un uo_rev (SndE.b sn_var))) ss_next)
  (ss_seq (ss_if (sn_test (sn_op ro_eq (SndE.b sn_var) (SndE.b sn_int)))
  (ss_ret (sn_op ro_add (SndE.b sn_var) (SndE.b (sn_sl so_any (SndE.b sn_var) (sp_some sn_var) (sp_some (sn_op ro_add (SndE.b sn_var) (SndE.b sn_int))))))) ss_next)
  (ss_seq (ss_asg (sn_op ro_ix sn_varB (SndE.b sn_var)) (sg_tup (sg_cons (sg_name (i := 5)) (sg_cons (sg_name (i := 6)) sg_nil))))
  (ss_seq (ss_setL (sn_callS0 hfr (snr_cons ((snn_lst (snr_cons (sn_tup (snr_cons sn_var (snr_cons sn_bl snr_nil)) (by decide)) (snr_cons (sn_tup (snr_cons (sn_upper sn_var) (snr_cons sn_var snr_nil)) (by decide)) (snr_cons (sn_tup (snr_cons (sn_op ro_add (SndE.b sn_var) (SndE.b (sn_str (x := "a") (by decide +kernel)))) (snr_cons sn_var snr_nil)) (by decide)) (snr_cons ((snn_lst (snr_cons sn_var (snr_cons sn_var snr_nil)) (by decide))).e (snr_cons (sn_tup (snr_cons sn_var (snr_cons sn_var (snr_cons sn_int snr_nil))) (by decide)) (snr_cons (sn_tup (snr_cons sn_var (snr_cons (sn_str (x := "None") (by decide +kernel)) snr_nil)) (by decide)) snr_nil)))))) (by decide))).e snr_nil)) sn_var)
  (ss_ret (sn_cb co_tuple (sn_cons sn_varB sn_nil)))))))))))⟩
abbrev s_law : Stmt := top 27
abbrev N_law : List Str := ["_law_script", "_law_state", "_law_turn", "_law_words_here", "_law_row_here", "_law_item", "_law_due", "_law_name", "_law_told", "_law_odd_here", "_law_plan_here", "_law_error_here"]
theorem sc_law : FnScope N_law ["_law_script"] (defScope s_law) := ⟨rfl, rfl, rfl, by decide +kernel, rfl, by decide +kernel, by decide +kernel⟩
/- slots: 0 _law_script, 1 _law_state, 2 _law_turn, 3 _law_words_here, 4 _law_row_here, 5 _law_item, 6 _law_due, 7 _law_name, 8 _law_told, 9 _law_odd_here, 10 _law_plan_here, 11 _law_error_here; own: [] -/
def B_law : WS := (wSeq (wFor (wiR1 (wCons (wOp addD (wC (.int 10)) (wCB min2D (wCons (wLenSc 0) (wCons (wC (.int 40)) wNil)))) wNil)) (wgName 2)
  (wSeq (wAsg (wCallS0 1 W__law_words (wCons (wOp addD (wC (.int 1)) (wDraw 1 (wC (.int 6)))) wNil)) (wgName 3))
  (wSeq (wAsg (wCallS0 1 W__law_pick (wCons (wLst (wCons (wCallS0 1 W__law_row (wCons (wVar 3) (wCons (wC (.int 5)) wNil))) (wCons (wCallS0 1 W__law_bound (wCons (wVar 3) (wCons (wC (.int 5)) wNil))) wNil))) wNil)) (wgName 4))
  (wSeq (wAsg (wIf (wTest (wOp gtD (wDraw 1 (wC (.int 3))) (wC (.int 0)))) (wCallS0 1 W__law_bent (wCons (wVar 4) wNil)) (wVar 4)) (wgName 5))
  (wSeq (wAsg (wLst (wCons (wCall0 W__law_is_row (wCons (wVar 5) wNil)) (wCons (wCall0 W__law_is_bound (wCons (wVar 5) wNil)) wNil))) (wgName 6))
  (wSeq (wIfS (wOr (wTest (wOp neD (wCB reprX (wCons (wLst (wCons (wCall0 W_is_plan (wCons (wVar 5) wNil)) (wCons (wCall0 W_is_limit (wCons (wVar 5) wNil)) wNil))) wNil)) (wCB reprX (wCons (wVar 6) wNil)))) (wTest (wOp neD (wCB reprX (wCons (wLst (wCons (wCall0 W_is_plan (wKw [0] wNil (wCons (wVar 5) wNil))) (wCons (wCall0 W_is_limit (wKw [0] wNil (wCons (wVar 5) wNil))) wNil))) wNil)) (wCB reprX (wCons (wVar 6) wNil)))))
  (wRet (wC (.bool false))) wNext)
  (wSeq (wAsg (wCallS0 1 W__law_pick (wCons (wOp addD (wVar 3) (wLst (wCons (wC (.str "zzzzz")) wNil))) wNil)) (wgName 7))
  (wSeq (wIfS (wTest (wOp ixD (wVar 6) (wC (.int 0))))
  (wSeq (wAsg (wLst (wCons (wCall0 W_moment_of (wCons (wVar 5) (wCons (wVar 7) wNil))) (wCons (wCall0 W_moment_of (wKw [1, 0] wNil (wCons (wVar 7) (wCons (wVar 5) wNil)))) wNil))) (wgName 8))
  (wIfS (wTest (wOp neD (wCB reprX (wCons (wVar 8) wNil)) (wCB reprX (wCons (wOp repD (wLst (wCons (wDGet2 (wCB dictD (wCons (wVar 5) wNil)) (wVar 7) (wC .none)) wNil)) (wC (.int 2))) wNil))))
  (wRet (wC (.bool false))) wNext)) wNext)
  (wSeq (wIfS (wAnd (wNot (wTest (wOp ixD (wVar 6) (wC (.int 0))))) (wNot (wTest (wIsE subE "BadPlan" (wErr ES__law_error (wCall W_moment_of (wCons (wVar 5) (wCons (wC .none) wNil))))))))
  (wRet (wC (.bool false))) wNext)
  (wSeq (wParM [9, 10] (wMSh (wCallS0 1 W__law_pick (wCons (wLst (wCons (wC .none) (wCons (wC (.int 5)) (wCons (wC (.str "")) (wCons (wC (.str "A")) (wCons (wC (.str "abcdefg")) (wCons (wLst (wCons (wC (.str "a")) wNil)) (wCons (wTup (wCons (wC (.str "a")) (wCons (wC (.int 0)) wNil))) (wCons (wC (.bool true)) (wCons (wC (.str "a b")) wNil)))))))))) wNil)) (wMSh (wCallS0 1 W__law_row (wCons (wVar 3) (wCons (wC (.int 3)) wNil))) wMNil)))
  (wSeq (wAsg (wErr ES__law_error (wCall W_moment_of (wCons (wVar 10) (wCons (wVar 9) wNil)))) (wgName 11))
  (wIfS (wOr (wNot (wTest (wIsE subE "BadThing" (wVar 11)))) (wTest (wOp neD (wCB reprX (wCons (wFld fldE "thing" (wVar 11)) wNil)) (wCB reprX (wCons (wVar 9) wNil)))))
  (wRet (wC (.bool false))) wNext))))))))))))
  (wRet (wC (.bool true))))
abbrev lawR (n k : Nat) : Rho := some (.sc n) :: some .st :: List.replicate k none
/-- what is left to show: the law's body, over data -/
def LawD : Prop := ∀ n : Nat, n ≤ 63 → B_law { nx := fun _ _ => False, rt := fun d _ => d = .bool true, ex := fun _ _ => False } [some (.sc n), some .st, none, none, none, none, none, none, none, none, none, none] 900000000
theorem g_law {cs : List (Addr × Addr)} {fa : Addr} {oc kV doc pm cdv ct : Value} {od an : Option Addr} {osl : Array (Option Value)} (lk : K.lookup fa = some ⟨oc, od, .func (PySem.W.fnOf "law" "law" (defArgs s_law) (defBody s_law) (defScope s_law) .none kV doc pm an cdv ct), osl⟩) (hcd : PySem.W.codeIn K cdv "law" = true) (hroom : Room 8 callerA) (T : Txt mg) (hTs : ∀ p ∈ Ts, ∃ c, (c, p.1) ∈ cs) (k__law_words : ∀ base, K.In base → base.Ns mainGlobals mg → (∀ p ∈ cs, TabB base mg p.1 p.2) → Kws P w K mg base Ts 3 "_law_words" "_law_state" ["_law_many"] W__law_words) (k__law_draw : ∀ base, K.In base → base.Ns mainGlobals mg → (∀ p ∈ cs, TabB base mg p.1 p.2) → Kp P w K mg base 1 "_law_draw" ["_law_state", "_law_size"] spDraw2) (k__law_pick : ∀ base, K.In base → base.Ns mainGlobals mg → (∀ p ∈ cs, TabB base mg p.1 p.2) → Kws P w K mg base Ts 2 "_law_pick" "_law_state" ["_law_several"] W__law_pick) (k__law_bound : ∀ base, K.In base → base.Ns mainGlobals mg → (∀ p ∈ cs, TabB base mg p.1 p.2) → Kws P w K mg base Ts 4 "_law_bound" "_law_state" ["_law_words_here", "_law_wide"] W__law_bound) (k__law_row : ∀ base, K.In base → base.Ns mainGlobals mg → (∀ p ∈ cs, TabB base mg p.1 p.2) → Kws P w K mg base Ts 3 "_law_row" "_law_state" ["_law_words_here", "_law_wide"] W__law_row) (k__law_bent : ∀ base, K.In base → base.Ns mainGlobals mg → (∀ p ∈ cs, TabB base mg p.1 p.2) → Kws P w K mg base Ts 4 "_law_bent" "_law_state" ["_law_row_here"] W__law_bent) (k__law_is_bound : ∀ base, K.In base → base.Ns mainGlobals mg → (∀ p ∈ cs, TabB base mg p.1 p.2) → Kw P w K mg base 2 "_law_is_bound" ["_law_thing"] W__law_is_bound) (k__law_is_row : ∀ base, K.In base → base.Ns mainGlobals mg → (∀ p ∈ cs, TabB base mg p.1 p.2) → Kw P w K mg base 1 "_law_is_row" ["_law_thing"] W__law_is_row) (k_is_limit : ∀ base, K.In base → base.Ns mainGlobals mg → (∀ p ∈ cs, TabB base mg p.1 p.2) → Kw P w K mg base 3 "is_limit" ["thing"] W_is_limit) (k_is_plan : ∀ base, K.In base → base.Ns mainGlobals mg → (∀ p ∈ cs, TabB base mg p.1 p.2) → Kw P w K mg base 3 "is_plan" ["thing"] W_is_plan) (k_moment_of : ∀ base, K.In base → base.Ns mainGlobals mg → (∀ p ∈ cs, TabB base mg p.1 p.2) → Kw P w K mg base 4 "moment_of" ["plan", "name"] W_moment_of) (k__law_begun : ∀ base, K.In base → base.Ns mainGlobals mg → (∀ p ∈ cs, TabB base mg p.1 p.2) → Kp P w K mg base 1 "_law_begun" ["_law_script"] (spBegun2 K)) {C_BadPlan : Addr} (e_BadPlan : ExP K mg "BadPlan" C_BadPlan) {C_BadThing : Addr} (e_BadThing : ∀ base, ExJ P w K mg base "BadThing" C_BadThing "thing") {CE__law_error : Value} (F__law_error : Fg K mg "_law_error" s__law_error) (hx__law_error : ExmOk K mg "CornerError" ES__law_error CE__law_error) (F_is_limit : Fg K mg "is_limit" s_is_limit) (F_is_plan : Fg K mg "is_plan" s_is_plan) (F_moment_of : Fg K mg "moment_of" s_moment_of) (hEK : EKn K mg subE) (hEF : EFn K mg fldE) {CD_law PT_law : Addr} (hcd_law : cdv = .ref CD_law) (hcs_law : (CD_law, PT_law) ∈ cs) (hm_law : (PT_law, (("law" : Str) ++ ".<locals>.") ++ "<lambda>") ∈ Ts) (hq_law : ∀ p ∈ Ts, p.1 = PT_law → p.2 = (("law" : Str) ++ ".<locals>.") ++ "<lambda>") (hD : LawD) : LawG P w K mg cs fa 63 := by
  subst hcd_law
  refine lawG_of (st := s_law) (x := "_law_script") (N := N_law) lk hcd sc_law hroom (fun s u => .of_eq rfl) fun base H s a ns hl hk hmg hT tH hS hr => ?_
  have k__law_words := k__law_words base hk hmg hT
  have k__law_draw := k__law_draw base hk hmg hT
  have k__law_pick := k__law_pick base hk hmg hT
  have k__law_bound := k__law_bound base hk hmg hT
  have k__law_row := k__law_row base hk hmg hT
  have k__law_bent := k__law_bent base hk hmg hT
  have k__law_is_bound := k__law_is_bound base hk hmg hT
  have k__law_is_row := k__law_is_row base hk hmg hT
  have k_is_limit := k_is_limit base hk hmg hT
  have k_is_plan := k_is_plan base hk hmg hT
  have k_moment_of := k_moment_of base hk hmg hT
  have k__law_begun := k__law_begun base hk hmg hT
  have tb_law := hT _ hcs_law
  have e_BadThing := e_BadThing base
  have hu := hu_of hr
  have hg := law_guards (envOfC "law" (defScope s_law) s.heap.objs.size fa (.ref CD_law))
  refine ⟨_, pss_cons (ps_set (i := 1) sc_law.nd rfl (Or.inl rfl) (pe_kp k__law_begun (hr.mono (by decide)) (by rfl) (pa_cons (pv 0) pa_nil)))
  (pss_cons (ps_for PassesOwn.never rfl (pi_range1 (by rfl) T.b_range (pa_cons (pe_op (op_addA (K := K) rfl) pe_int (pe_callB (call_min2 rfl) (by rfl) T.b_min (by decide +kernel) (pa_cons (pe_callB (call_lenK (K := K) rfl) (by rfl) T.b_len (by decide +kernel) (pa_cons (pv 0) pa_nil)) (pa_cons pe_int pa_nil)))) pa_nil)) (pg_name (i := 2) sc_law.nd rfl (Or.inl rfl))
  (pss_cons (ps_set (i := 3) sc_law.nd rfl (Or.inl rfl) (Dw.pe_callS0 k__law_words rfl rfl rfl rfl rfl (by exact hg) (hr.mono (by decide)) (by rfl) (pa_cons (pv 1) (pa_cons (pe_op (op_addA (K := K) rfl) pe_int (pe_call00 k__law_draw rfl rfl rfl rfl rfl (hr.mono (by decide)) (by rfl) (pa_cons (pv 1) (pa_cons pe_int pa_nil)))) pa_nil))))
  (pss_cons (ps_set (i := 4) sc_law.nd rfl (Or.inl rfl) (Dw.pe_callS0 k__law_pick rfl rfl rfl rfl rfl (by exact hg) (hr.mono (by decide)) (by rfl) (pa_cons (pv 1) (pa_cons (pe_lst (pa_cons (Dw.pe_callS0 k__law_row rfl rfl rfl rfl rfl (by exact hg) (hr.mono (by decide)) (by rfl) (pa_cons (pv 1) (pa_cons (pv 3) (pa_cons pe_int pa_nil)))) (pa_cons (Dw.pe_callS0 k__law_bound rfl rfl rfl rfl rfl (by exact hg) (hr.mono (by decide)) (by rfl) (pa_cons (pv 1) (pa_cons (pv 3) (pa_cons pe_int pa_nil)))) pa_nil))) pa_nil))))
  (pss_cons (ps_set (i := 5) sc_law.nd rfl (Or.inr rfl) (pe_ifExp (pt_cmpR op_gtB (pe_call00 k__law_draw rfl rfl rfl rfl rfl (hr.mono (by decide)) (by rfl) (pa_cons (pv 1) (pa_cons pe_int pa_nil))) pe_int (nomark _)) (Dw.pe_callS0 k__law_bent rfl rfl rfl rfl rfl (by exact hg) (hr.mono (by decide)) (by rfl) (pa_cons (pv 1) (pa_cons (pv 4) pa_nil))) (pv 4)))
  (pss_cons (ps_set (i := 6) sc_law.nd rfl (Or.inl rfl) (pe_lst (pa_cons (Dw.pe_call0 k__law_is_row rfl rfl rfl rfl rfl (by exact hg) (hr.mono (by decide)) (by rfl) (pa_cons (pv 5) pa_nil)) (pa_cons (Dw.pe_call0 k__law_is_bound rfl rfl rfl rfl rfl (by exact hg) (hr.mono (by decide)) (by rfl) (pa_cons (pv 5) pa_nil)) pa_nil))))
  (pss_cons (ps_if (PW.pt (pw_or (pt_cmpR (op_neP (K := K) rfl hr.units) (pe_callB (call_reprX (K := K) (mg := mg) rfl hg hr.units) (by rfl) T.b_repr (by decide +kernel) (pa_cons (pe_lst (pa_cons (Dw.pe_call0 k_is_plan rfl rfl rfl rfl rfl (by exact hg) (hr.mono (by decide)) (by rfl) (pa_cons (pv 5) pa_nil)) (pa_cons (Dw.pe_call0 k_is_limit rfl rfl rfl rfl rfl (by exact hg) (hr.mono (by decide)) (by rfl) (pa_cons (pv 5) pa_nil)) pa_nil))) pa_nil)) (pe_callB (call_reprX (K := K) (mg := mg) rfl hg hr.units) (by rfl) T.b_repr (by decide +kernel) (pa_cons (pv 6) pa_nil)) (nomark _)) (pw_or1 (pt_cmpR (op_neP (K := K) rfl hr.units) (pe_callB (call_reprX (K := K) (mg := mg) rfl hg hr.units) (by rfl) T.b_repr (by decide +kernel) (pa_cons (pe_lst (pa_cons (Dw.pe_callKn0 (is := [0]) (ks := ["thing"]) (a := 0) (b := 1) k_is_plan F_is_plan rfl rfl rfl rfl rfl (by exact hg) (hr.mono (by decide)) (by rfl) (pk_cons (pv 5) pk_nil) (fun _ _ _ _ _ _ us ws h1 h2 => match us, ws, h1, h2 with | [], [_], _, _ => rfl) (by decide)) (pa_cons (Dw.pe_callKn0 (is := [0]) (ks := ["thing"]) (a := 0) (b := 1) k_is_limit F_is_limit rfl rfl rfl rfl rfl (by exact hg) (hr.mono (by decide)) (by rfl) (pk_cons (pv 5) pk_nil) (fun _ _ _ _ _ _ us ws h1 h2 => match us, ws, h1, h2 with | [], [_], _, _ => rfl) (by decide)) pa_nil))) pa_nil)) (pe_callB (call_reprX (K := K) (mg := mg) rfl hg hr.units) (by rfl) T.b_repr (by decide +kernel) (pa_cons (pv 6) pa_nil)) (nomark _)))))
  (pss_one (ps_ret pe_bl)) pss_nil)
  (pss_cons (ps_set (i := 7) sc_law.nd rfl (Or.inl rfl) (Dw.pe_callS0 k__law_pick rfl rfl rfl rfl rfl (by exact hg) (hr.mono (by decide)) (by rfl) (pa_cons (pv 1) (pa_cons (pe_op (op_addA (K := K) rfl) (pv 3) (pe_lst (pa_cons pe_str pa_nil))) pa_nil))))
  (pss_cons (ps_if (pt_val (pe_ix (ix_seqK (K := K) rfl) (pv 6) pe_int (fun _ _ => rfl)))
  (pss_cons (ps_set (i := 8) sc_law.nd rfl (Or.inl rfl) (pe_lst (pa_cons (Dw.pe_call0 k_moment_of rfl rfl rfl rfl rfl (by exact hg) (hr.mono (by decide)) (by rfl) (pa_cons (pv 5) (pa_cons (pv 7) pa_nil))) (pa_cons (Dw.pe_callKn0 (is := [1, 0]) (ks := ["name", "plan"]) (a := 0) (b := 2) k_moment_of F_moment_of rfl rfl rfl rfl rfl (by exact hg) (hr.mono (by decide)) (by rfl) (pk_cons (pv 7) (pk_cons (pv 5) pk_nil)) (fun _ _ _ _ _ _ us ws h1 h2 => match us, ws, h1, h2 with | [], [_, _], _, _ => rfl) (by decide)) pa_nil))))
  (pss_one (ps_if (pt_cmpR (op_neP (K := K) rfl hr.units) (pe_callB (call_reprX (K := K) (mg := mg) rfl hg hr.units) (by rfl) T.b_repr (by decide +kernel) (pa_cons (pv 8) pa_nil)) (pe_callB (call_reprX (K := K) (mg := mg) rfl hg hr.units) (by rfl) T.b_repr (by decide +kernel) (pa_cons (pe_op op_rep (pe_lst (pa_cons (pe_dget2 hu (pe_callTy (call_dictA (K := K) rfl rfl) (by rfl) T.b_dict (by decide +kernel) (pa_cons (pv 5) pa_nil)) (pv 7) pe_non ⟨rfl, rfl, rfl, rfl⟩) pa_nil)) pe_int) pa_nil)) (nomark _))
  (pss_one (ps_ret pe_bl)) pss_nil))) pss_nil)
  (pss_cons (ps_if (PW.pt (pw_and (pt_not (pt_val (pe_ix (ix_seqK (K := K) rfl) (pv 6) pe_int (fun _ _ => rfl)))) (pw_and1 (pt_not (pt_val (pe_callB (call_isErr (K := K) rfl) (by rfl) T.b_isinstance (by decide +kernel) (pa_cons (pe_errL (cg := "_law_caught") (eg := "_law_error_here") (T := Ts) (k := 4) F__law_error (by rfl) (fun F => F.binds fun _ _ _ _ _ _ us hl => match us, hl with | [_], _ => rfl) sc__law_error (Or.inl rfl) (fun g cdv => err_gives rfl rfl rfl (by decide +kernel) rfl hx__law_error.1 rfl rfl rfl rfl rfl) tb_law rfl hm_law hq_law (by exact hg) (hr.mono (by decide)) (sc0 := defScope s_law) rfl (lamS_by (by decide +kernel)) rfl (fun _ _ _ _ _ => rfl) (fun A outer s H E f c' hg hr => (Dw.pe_call k_moment_of rfl rfl rfl rfl rfl (takes_of rfl rfl rfl rfl) (by exact hg) (hr.mono (by decide)) (by rfl) (pa_cons (pv 5) (pa_cons pe_non pa_nil))))) (pa_cons (pe_glob (v := .ref C_BadPlan) (by rfl) e_BadPlan.g rfl) pa_nil))))))))
  (pss_one (ps_ret pe_bl)) pss_nil)
  (pss_cons (ps_asg (pe_tupZ (pa_cons (Dw.pe_callS0 k__law_pick rfl rfl rfl rfl rfl (by exact hg) (hr.mono (by decide)) (by rfl) (pa_cons (pv 1) (pa_cons (pe_lst (pa_cons pe_non (pa_cons pe_int (pa_cons pe_str (pa_cons pe_str (pa_cons pe_str (pa_cons (pe_lst (pa_cons pe_str pa_nil)) (pa_cons (pe_tupZ (pa_cons pe_str (pa_cons pe_int pa_nil))) (pa_cons pe_bl (pa_cons pe_str pa_nil)))))))))) pa_nil))) (pa_cons (Dw.pe_callS0 k__law_row rfl rfl rfl rfl rfl (by exact hg) (hr.mono (by decide)) (by rfl) (pa_cons (pv 1) (pa_cons (pv 3) (pa_cons pe_int pa_nil)))) pa_nil))) (pg_tup rfl (pgs_cons (pg_name (i := 9) sc_law.nd rfl (Or.inr rfl)) (pgs_cons (pg_name (i := 10) sc_law.nd rfl (Or.inr rfl)) pgs_nil))))
  (pss_cons (ps_set (i := 11) sc_law.nd rfl (Or.inl rfl) (pe_errL (cg := "_law_caught") (eg := "_law_error_here") (T := Ts) (k := 4) F__law_error (by rfl) (fun F => F.binds fun _ _ _ _ _ _ us hl => match us, hl with | [_], _ => rfl) sc__law_error (Or.inl rfl) (fun g cdv => err_gives rfl rfl rfl (by decide +kernel) rfl hx__law_error.1 rfl rfl rfl rfl rfl) tb_law rfl hm_law hq_law (by exact hg) (hr.mono (by decide)) (sc0 := defScope s_law) rfl (lamS_by (by decide +kernel)) rfl (fun _ _ _ _ _ => rfl) (fun A outer s H E f c' hg hr => (Dw.pe_call k_moment_of rfl rfl rfl rfl rfl (takes_of rfl rfl rfl rfl) (by exact hg) (hr.mono (by decide)) (by rfl) (pa_cons (pv 10) (pa_cons (pv 9) pa_nil))))))
  (pss_one (ps_if (PW.pt (pw_or (pt_not (pt_val (pe_callB (call_isErr (K := K) rfl) (by rfl) T.b_isinstance (by decide +kernel) (pa_cons (pv 11) (pa_cons (pe_glob (v := .ref C_BadThing) (by rfl) e_BadThing.g rfl) pa_nil))))) (pw_or1 (pt_cmpR (op_neP (K := K) rfl hr.units) (pe_callB (call_reprX (K := K) (mg := mg) rfl hg hr.units) (by rfl) T.b_repr (by decide +kernel) (pa_cons (pe_xa (K := K) rfl (pv 11)) pa_nil)) (pe_callB (call_reprX (K := K) (mg := mg) rfl hg hr.units) (by rfl) T.b_repr (by decide +kernel) (pa_cons (pv 9) pa_nil)) (nomark _)))))
  (pss_one (ps_ret pe_bl)) pss_nil)))))))))))))
  (pss_one (ps_ret pe_bl))), ?_⟩
  refine law_in (k := 10) (T := Ts) (fun p hp => let ⟨c, hc⟩ := hTs p hp; LamX.TabS.nil (tH _ hc)) hS hl (fun fr hfr => (ss_seq (ss_for (sf_range1 (sn_cons (SndE.b (sn_op ro_add (SndE.b sn_int) (SndE.b (sn_cb co_min2 (sn_cons (SndE.b sn_lenSc) (sn_cons (SndE.b sn_int) sn_nil)))))) sn_nil)) (sg_name (i := 2))
  (ss_seq (ss_asg (sn_callS0 hfr (snr_cons (sn_op ro_add (SndE.b sn_int) (SndE.b (sn_draw sn_int))) snr_nil)) (sg_name (i := 3)))
  (ss_seq (ss_asg (sn_callS0 hfr (snr_cons ((snn_lst (snr_cons (sn_callS0 hfr (snr_cons sn_var (snr_cons sn_int snr_nil))) (snr_cons (sn_callS0 hfr (snr_cons sn_var (snr_cons sn_int snr_nil))) snr_nil)) (by decide))).e snr_nil)) (sg_name (i := 4)))
  (ss_seq (ss_asg (sn_if (sn_test (sn_op ro_gt (SndE.b (sn_draw sn_int)) (SndE.b sn_int))) (sn_callS0 hfr (snr_cons sn_var snr_nil)) sn_var) (sg_name (i := 5)))
  (ss_seq (ss_asg ((snn_lst (snr_cons (sn_call0 (snr_cons sn_var snr_nil)) (snr_cons (sn_call0 (snr_cons sn_var snr_nil)) snr_nil)) (by decide))).e (sg_name (i := 6)))
  (ss_seq (ss_if (sn_or (sn_test (sn_op ro_ne (SndE.b (sn_cb co_reprX (sn_cons (SndE.b ((snn_lst (snr_cons (sn_call0 (snr_cons sn_var snr_nil)) (snr_cons (sn_call0 (snr_cons sn_var snr_nil)) snr_nil)) (by decide))).e) sn_nil))) (SndE.b (sn_cb co_reprX (sn_cons (SndE.b sn_var) sn_nil))))) (sn_test (sn_op ro_ne (SndE.b (sn_cb co_reprX (sn_cons (SndE.b ((snn_lst (snr_cons (sn_call0 (snr_kw snr_nil (snr_cons sn_var snr_nil) (by decide))) (snr_cons (sn_call0 (snr_kw snr_nil (snr_cons sn_var snr_nil) (by decide))) snr_nil)) (by decide))).e) sn_nil))) (SndE.b (sn_cb co_reprX (sn_cons (SndE.b sn_var) sn_nil))))))
  (ss_ret sn_bl) ss_next)
  (ss_seq (ss_asg (sn_callS0 hfr (snr_cons (sn_op ro_add (SndE.b sn_var) (SndE.b ((snn_lst (snr_cons (sn_str (x := "zzzzz") (by decide +kernel)) snr_nil) (by decide))).e)) snr_nil)) (sg_name (i := 7)))
  (ss_seq (ss_if (sn_tb (sn_op ro_ix (SndE.b sn_var) (SndE.b sn_int)))
  (ss_seq (ss_asg ((snn_lst (snr_cons (sn_call0 (snr_cons sn_var (snr_cons sn_var snr_nil))) (snr_cons (sn_call0 (snr_kw snr_nil (snr_cons sn_var (snr_cons sn_var snr_nil)) (by decide))) snr_nil)) (by decide))).e (sg_name (i := 8)))
  (ss_if (sn_test (sn_op ro_ne (SndE.b (sn_cb co_reprX (sn_cons (SndE.b sn_var) sn_nil))) (SndE.b (sn_cb co_reprX (sn_cons (SndE.b (sn_op ro_rep (SndE.b ((snn_lst (snr_cons (sn_dget2 (SndE.b ((snn_cb cn_dict (sn_cons (SndE.b sn_var) sn_nil))).e) sn_var sn_non) snr_nil) (by decide))).e) (SndE.b sn_int))) sn_nil)))))
  (ss_ret sn_bl) ss_next)) ss_next)
  (ss_seq (ss_if (sn_and (sn_not (sn_tb (sn_op ro_ix (SndE.b sn_var) (SndE.b sn_int)))) (sn_not (sn_tb (sn_isE hEK (by decide +kernel) e_BadPlan.g (sn_err hfr hx__law_error.2 (fun E => (sn_call (snr_cons sn_var (snr_cons sn_non snr_nil)))))))))
  (ss_ret sn_bl) ss_next)
  (ss_seq (ss_parT (is := [9, 10]) (n := 2) (snm_sh (sn_callS0 hfr (snr_cons ((snn_lst (snr_cons sn_non (snr_cons sn_int (snr_cons (sn_str (x := "") (by decide +kernel)) (snr_cons (sn_str (x := "A") (by decide +kernel)) (snr_cons (sn_str (x := "abcdefg") (by decide +kernel)) (snr_cons ((snn_lst (snr_cons (sn_str (x := "a") (by decide +kernel)) snr_nil) (by decide))).e (snr_cons (sn_tup (snr_cons (sn_str (x := "a") (by decide +kernel)) (snr_cons sn_int snr_nil)) (by decide)) (snr_cons sn_bl (snr_cons (sn_str (x := "a b") (by decide +kernel)) snr_nil))))))))) (by decide))).e snr_nil)) (snm_sh (sn_callS0 hfr (snr_cons sn_var (snr_cons sn_int snr_nil))) snm_nil)) rfl rfl)
  (ss_seq (ss_asg (sn_err hfr hx__law_error.2 (fun E => (sn_call (snr_cons sn_var (snr_cons sn_var snr_nil))))) (sg_name (i := 11)))
  (ss_if (sn_or (sn_not (sn_tb (sn_isE hEK (by decide +kernel) e_BadThing.g sn_var))) (sn_test (sn_op ro_ne (SndE.b (sn_cb co_reprX (sn_cons (SndE.b (sn_fld hEF sn_var)) sn_nil))) (SndE.b (sn_cb co_reprX (sn_cons (SndE.b sn_var) sn_nil))))))
  (ss_ret sn_bl) ss_next))))))))))))
  (ss_ret sn_bl))) (hD ns.length hl)

end
end Dw
set_option Elab.async false
set_option linter.all false
set_option maxRecDepth 100000
set_option maxHeartbeats 4000000
namespace Dw
open PySem PySem.Spec PyProof.Rows L2 Cn LamX
local macro_rules | `(tactic| walk_at "dw") => `(tactic| simp only [e_var, e_varB, e_c, e_op, e_un, e_isB, e_test, e_not, e_and, e_or, e_yes, e_notV, e_andV, e_orV, e_if, e_chain, e_nil, e_cons, e_cb, e_tup, e_lst, e_d0, e_lc, e_dget, e_dget1, e_dget2, e_isi, e_isi2, e_m0, e_call, e_call0, e_callS, e_callS0, e_draw, e_sl, e_noPart, e_part, e_join, e_sortIt, e_upper, e_sset, e_lset, e_errP, e_errJ, e_isE, e_fld, e_err, e_kw, e_noOw0, e_noOwO, e_noOwS, e_noOwT, e_noOwC, e_noOwN, e_wpNil, e_wpCons, e_disp, e_disp1, e_inS, e_notInS, e_lenSc, e_iSeq, e_iR1, e_iR2, e_iEnum, e_iEnumA, e_iZip, e_gName, e_gNil, e_gCons, e_gTup1, e_gLst1, e_gTup2, e_gLst2, e_gTup3, e_gLst3, e_gTup4, e_gLst4, e_gTup5, e_gLst5, e_next, e_ret, e_retN, e_ifS, e_drop, e_break, e_cont, e_asg, e_asgN, e_frz, e_mNil, e_mSh, e_mOw, e_parM2, e_parE2, e_parM3, e_parE3, e_parM4, e_parE4, e_append, e_for, e_dput, e_setL, e_raiseP, e_raiseF, e_br1, e_br0, e_addI, e_subI, e_addS, e_addL, e_addT, e_mulI, e_modI, e_fdivI, e_powI, e_revL, e_revT, e_negI, e_ltI, e_ltS, e_leI, e_leS, e_gtI, e_gtS, e_geI, e_geS, e_isN, e_notN, e_lenS, e_lenL, e_lenT, e_max2, e_min2, e_tupL, e_tupT, e_lstL, e_lstT, e_slS, e_slL, e_slT, e_int1I, e_absI, e_seqL, e_seqT, e_seqS, e_rng1, e_rng2, e_enumL, e_enumAL, e_enumAT, e_zipL, e_none1, e_none2, e_none3, e_none4, e_none5, e_none6, e_none7, e_keyS, e_keyI, e_at0, e_put0, e_at1, e_put1, e_at2, e_put2, e_at3, e_put3, e_at4, e_put4, e_at5, e_put5, e_at6, e_put6, e_at7, e_put7, e_at8, e_put8, e_at9, e_put9, e_at10, e_put10, e_at11, e_put11, e_at12, e_put12, e_at13, e_put13, e_at14, e_put14, e_at15, e_put15, e_at16, e_put16, e_at17, e_put17, e_at18, e_put18, e_at19, e_put19, e_at20, e_put20, e_at21, e_put21, e_at22, e_put22, e_at23, e_put23, e_at24, e_put24, e_at25, e_put25, e_at26, e_put26, e_at27, e_put27, e_at28, e_put28, e_at29, e_put29, e_wipe0, e_wipe1, e_isi_int_none, e_isi_int_bool, e_isi_int_int, e_isi_int_str, e_isi_int_list, e_isi_int_tuple, e_isi_int_dict, e_isi_bool_none, e_isi_bool_bool, e_isi_bool_int, e_isi_bool_str, e_isi_bool_list, e_isi_bool_tuple, e_isi_bool_dict, e_isi_str_none, e_isi_str_bool, e_isi_str_int, e_isi_str_str, e_isi_str_list, e_isi_str_tuple, e_isi_str_dict, e_isi_list_none, e_isi_list_bool, e_isi_list_int, e_isi_list_str, e_isi_list_list, e_isi_list_tuple, e_isi_list_dict, e_isi_tuple_none, e_isi_tuple_bool, e_isi_tuple_int, e_isi_tuple_str, e_isi_tuple_list, e_isi_tuple_tuple, e_isi_tuple_dict, e_isi_dict_none, e_isi_dict_bool, e_isi_dict_int, e_isi_dict_str, e_isi_dict_list, e_isi_dict_tuple, e_isi_dict_dict, Bool.not_true, Bool.not_false, Bool.or_true, Bool.or_false, Bool.true_or, Bool.false_or])
/-! ### forms, plans and limits -/
mutual
def Dt.pd : Dt → Bool
  | .list xs => pdAll xs
  | .tuple xs => pdAll xs
  | .obj _ _ => false
  | .err _ _ => false
  | _ => true
def pdAll : List Dt → Bool
  | [] => true
  | x :: xs => x.pd && pdAll xs
end
theorem pdAll_mem : ∀ {xs : List Dt} {d : Dt}, pdAll xs = true → d ∈ xs → d.pd = true
  | x :: xs, d, h, m => by
    unfold pdAll at h
    obtain ⟨h1, h2⟩ := Bool.and_eq_true_iff.mp h
    rcases List.mem_cons.mp m with rfl | m
    · exact h1
    · exact pdAll_mem h2 m
def isNum : Dt → Bool
  | .int _ => true
  | _ => false
def isEnd : Dt → Bool
  | .none => true
  | .int _ => true
  | _ => false
def isName : Dt → Bool
  | .str x => nameOk x
  | _ => false
def isPair : Dt → Bool
  | .tuple [_, _] => true
  | _ => false
def isList : Dt → Bool
  | .list _ => true
  | .tuple _ => true
  | _ => false
def fstT : Dt → Dt
  | .tuple (a :: _) => a
  | _ => .none
def sndT : Dt → Dt
  | .tuple [_, b] => b
  | _ => .none
def strT : Dt → Str
  | .str x => x
  | _ => default
theorem pair_ofT {d : Dt} (h : isPair d = true) : ∃ a b, d = .tuple [a, b] := by
  unfold isPair at h
  split at h
  · exact ⟨_, _, rfl⟩
  · cases h
theorem str_ofT {d : Dt} (h : isName d = true) : d = .str (strT d) := by
  unfold isName at h
  split at h
  · rfl
  · cases h
theorem pd_pair {a b : Dt} (h : Dt.pd (.tuple [a, b]) = true) : a.pd = true ∧ b.pd = true := by
  simp only [Dt.pd, pdAll, Bool.and_eq_true] at h
  exact ⟨h.1, h.2.1⟩
def hasNames : Dt → Bool
  | .tuple xs => xs.all isPair && ((xs.map fstT).all isName && ascS ((xs.map fstT).map strT))
  | _ => false
def itemsT : Dt → List Dt
  | .tuple xs => xs
  | _ => []
def isPlan (d : Dt) : Bool := hasNames d && ((itemsT d).map sndT).all isNum
def isLimit (d : Dt) : Bool := hasNames d && ((itemsT d).map sndT).all isEnd
theorem natD_map (n : Nat) : natD 0 n = (List.range n).map fun (i : Nat) => Dt.int (i : Int) := List.map_congr_left fun i _ => by rw [Int.zero_add]
theorem w_is_number {d : Dt} {q qx} (hd : d.pd = true) (h : q (.bool (isNum d))) : W_is_number [d] q qx := by
  cases d <;> first | exact h | cases hd
theorem w_is_name {d : Dt} {q qx} (hd : d.pd = true) (h : q (.bool (isName d))) : W_is_name [d] q qx := by
  cases d <;> first | exact h | cases hd | skip
  rename_i x
  rw [u_is_name]
  unfold B_is_name
  refine seq_mk fun N hN => ?_
  walk_at "dw"
  refine fun hl => br_of (fun h6 => ?_) (fun h6 => hN _ _ ?_)
  · have e : isName (.str x) = false := by
      show nameOk x = false
      unfold nameOk
      rw [decide_eq_false (by have := of_decide_eq_true h6; omega)]
      rfl
    rw [e] at h
    exact h
  · have e : isName (.str x) = (PySem.Txt.isascii x && (PySem.Txt.isalpha x && PySem.Txt.islower x)) := by
      show nameOk x = _
      unfold nameOk
      rw [decide_eq_true (by have := of_decide_eq_false h6; omega)]
      rfl
    rw [e] at h
    walk_at "dw"
    cases h1 : PySem.Txt.isascii x <;> cases h2 : PySem.Txt.isalpha x <;> rw [h1, h2] at h <;> exact h
theorem w_is_pair {d : Dt} {q qx} (hd : d.pd = true) (h : q (.bool (isPair d))) : W_is_pair [d] q qx := by
  cases d <;> first | exact h | cases hd | skip
  rename_i xs
  rw [u_is_pair]
  unfold B_is_pair
  walk_at "dw"
  refine fun hl => i_eqI ?_
  have e : isPair (.tuple xs) = decide (((xs.length : Nat) : Int) = 2) := by
    match xs with
    | [] => rfl
    | [_] => rfl
    | [_, _] => rfl
    | _ :: _ :: _ :: xs =>
      show false = _
      rw [decide_eq_false]
      simp only [List.length_cons]
      omega
  rw [e] at h
  exact h
theorem w_is_ascending {ss : List Str} {q qx} (h : q (.bool (ascS ss))) : W_is_ascending [.list (ss.map .str)] q qx := by
  rw [u_is_ascending]
  unfold B_is_ascending
  walk_at "dw"
  refine fun hl => And.intro (by omega) ?_
  have ht : ((((ss.map Dt.str).length : Nat) : Int) - 1).toNat = ss.length - 1 := by
    rw [List.length_map]
    omega
  rw [ht, natD_map]
  refine lcW_mapT (fun (i : Nat) => Dt.int (i : Int)) (fun i => .bool (strLt (ss.getD i default) (ss.getD (i + 1) default))) (fun i hi b yes hy => ?_) ?_
  · have hi' := List.mem_range.mp hi
    walk_at "dw"
    refine i_ixL (d := .str (ss.getD i default)) (atI_ofNat ?_) (i_ixL (d := .str (ss.getD (i + 1) default)) ?_ ?_)
    · rw [List.getElem?_map, List.getD_eq_getElem?_getD, List.getElem?_eq_getElem (by omega)]
      rfl
    · have : ((i : Nat) : Int) + 1 = ((i + 1 : Nat) : Int) := by omega
      rw [this]
      refine atI_ofNat ?_
      rw [List.getElem?_map, List.getD_eq_getElem?_getD, List.getElem?_eq_getElem (by omega)]
      rfl
    · walk_at "dw"
      exact hy
  · refine i_all (bs := (List.range (ss.length - 1)).map fun i => strLt (ss.getD i default) (ss.getD (i + 1) default)) (by rw [List.map_map]; rfl) ?_
    have e := ascS_range ss
    unfold strLt
    rw [e]
    exact h
theorem w_has_names {d : Dt} {q qx} (hd : d.pd = true) (h : q (.bool (hasNames d))) : W_has_names [d] q qx := by
  rw [u_has_names]
  unfold B_has_names
  refine seq_mk fun N hN => ?_
  cases d <;> first | (walk_at "dw"; exact h) | cases hd | skip
  rename_i xs
  have hp : pdAll xs = true := by simpa only [Dt.pd] using hd
  walk_at "dw"
  refine lcW_map (fun d => .bool (isPair d)) (fun d hd b yes hy => by walk_at "dw"; exact w_is_pair (pdAll_mem hp hd) hy) ?_
  refine i_all (bs := xs.map isPair) (by rw [List.map_map]; rfl) ?_
  have e : (xs.map isPair).all id = xs.all isPair := by rw [List.all_map]; rfl
  simp only [e_var, e_varB, e_c, e_op, e_un, e_isB, e_test, e_not, e_and, e_or, e_yes, e_notV, e_andV, e_orV, e_if, e_chain, e_nil, e_cons, e_cb, e_tup, e_lst, e_d0, e_lc, e_dget, e_dget1, e_dget2, e_isi, e_isi2, e_m0, e_call, e_call0, e_callS, e_callS0, e_draw, e_sl, e_noPart, e_part, e_join, e_sortIt, e_upper, e_sset, e_lset, e_errP, e_errJ, e_isE, e_fld, e_err, e_kw, e_noOw0, e_noOwO, e_noOwS, e_noOwT, e_noOwC, e_noOwN, e_wpNil, e_wpCons, e_disp, e_disp1, e_inS, e_notInS, e_lenSc, e_iSeq, e_iR1, e_iR2, e_iEnum, e_iEnumA, e_iZip, e_gName, e_gNil, e_gCons, e_gTup1, e_gLst1, e_gTup2, e_gLst2, e_gTup3, e_gLst3, e_gTup4, e_gLst4, e_gTup5, e_gLst5, e_next, e_ret, e_retN, e_ifS, e_drop, e_break, e_cont, e_asg, e_asgN, e_frz, e_mNil, e_mSh, e_mOw, e_parM2, e_parE2, e_parM3, e_parE3, e_parM4, e_parE4, e_append, e_for, e_dput, e_setL, e_raiseP, e_raiseF, e_br1, e_br0, e_addI, e_subI, e_addS, e_addL, e_addT, e_mulI, e_modI, e_fdivI, e_powI, e_revL, e_revT, e_negI, e_ltI, e_ltS, e_leI, e_leS, e_gtI, e_gtS, e_geI, e_geS, e_isN, e_notN, e_lenS, e_lenL, e_lenT, e_max2, e_min2, e_tupL, e_tupT, e_lstL, e_lstT, e_slS, e_slL, e_slT, e_int1I, e_absI, e_seqL, e_seqT, e_seqS, e_rng1, e_rng2, e_enumL, e_enumAL, e_enumAT, e_zipL, e_none1, e_none2, e_none3, e_none4, e_none5, e_none6, e_none7, e_keyS, e_keyI, e_at0, e_put0, e_at1, e_put1, e_at2, e_put2, e_at3, e_put3, e_at4, e_put4, e_at5, e_put5, e_at6, e_put6, e_at7, e_put7, e_at8, e_put8, e_at9, e_put9, e_at10, e_put10, e_at11, e_put11, e_at12, e_put12, e_at13, e_put13, e_at14, e_put14, e_at15, e_put15, e_at16, e_put16, e_at17, e_put17, e_at18, e_put18, e_at19, e_put19, e_at20, e_put20, e_at21, e_put21, e_at22, e_put22, e_at23, e_put23, e_at24, e_put24, e_at25, e_put25, e_at26, e_put26, e_at27, e_put27, e_at28, e_put28, e_at29, e_put29, e_wipe0, e_wipe1, e_isi_int_none, e_isi_int_bool, e_isi_int_int, e_isi_int_str, e_isi_int_list, e_isi_int_tuple, e_isi_int_dict, e_isi_bool_none, e_isi_bool_bool, e_isi_bool_int, e_isi_bool_str, e_isi_bool_list, e_isi_bool_tuple, e_isi_bool_dict, e_isi_str_none, e_isi_str_bool, e_isi_str_int, e_isi_str_str, e_isi_str_list, e_isi_str_tuple, e_isi_str_dict, e_isi_list_none, e_isi_list_bool, e_isi_list_int, e_isi_list_str, e_isi_list_list, e_isi_list_tuple, e_isi_list_dict, e_isi_tuple_none, e_isi_tuple_bool, e_isi_tuple_int, e_isi_tuple_str, e_isi_tuple_list, e_isi_tuple_tuple, e_isi_tuple_dict, e_isi_dict_none, e_isi_dict_bool, e_isi_dict_int, e_isi_dict_str, e_isi_dict_list, e_isi_dict_tuple, e_isi_dict_dict, Bool.not_true, Bool.not_false, Bool.or_true, Bool.or_false, Bool.true_or, Bool.false_or, e]
  have hn : hasNames (.tuple xs) = (xs.all isPair && ((xs.map fstT).all isName && ascS ((xs.map fstT).map strT))) := rfl
  rw [hn] at h
  refine br_of (fun h1 => ?_) (fun h1 => hN _ _ ?_)
  · rw [Bool.not_eq_true'] at h1
    rw [h1] at h
    exact h
  · rw [Bool.not_eq_false'] at h1
    rw [h1] at h
    refine seq_mk fun N hN => ?_
    walk_at "dw"
    refine lcW_map fstT (fun d hd b yes hy => ?_) (hN _ _ ?_)
    · obtain ⟨a, b', rfl⟩ := pair_ofT (List.all_eq_true.mp h1 d hd)
      walk_at "dw"
      exact hy
    walk_at "dw"
    have fpd : ∀ d ∈ xs.map fstT, d.pd = true := fun d hd => by
      obtain ⟨p, hp1, rfl⟩ := List.mem_map.mp hd
      obtain ⟨a, b', rfl⟩ := pair_ofT (List.all_eq_true.mp h1 p hp1)
      exact (pd_pair (pdAll_mem hp hp1)).1
    refine lcW_map (fun d => .bool (isName d)) (fun d hd b yes hy => by walk_at "dw"; exact w_is_name (fpd d hd) hy) ?_
    refine i_all (bs := (xs.map fstT).map isName) (by simp only [List.map_map]; rfl) ?_
    have e2 : ((xs.map fstT).map isName).all id = (xs.map fstT).all isName := by rw [List.all_map]; rfl
    simp only [e_var, e_varB, e_c, e_op, e_un, e_isB, e_test, e_not, e_and, e_or, e_yes, e_notV, e_andV, e_orV, e_if, e_chain, e_nil, e_cons, e_cb, e_tup, e_lst, e_d0, e_lc, e_dget, e_dget1, e_dget2, e_isi, e_isi2, e_m0, e_call, e_call0, e_callS, e_callS0, e_draw, e_sl, e_noPart, e_part, e_join, e_sortIt, e_upper, e_sset, e_lset, e_errP, e_errJ, e_isE, e_fld, e_err, e_kw, e_noOw0, e_noOwO, e_noOwS, e_noOwT, e_noOwC, e_noOwN, e_wpNil, e_wpCons, e_disp, e_disp1, e_inS, e_notInS, e_lenSc, e_iSeq, e_iR1, e_iR2, e_iEnum, e_iEnumA, e_iZip, e_gName, e_gNil, e_gCons, e_gTup1, e_gLst1, e_gTup2, e_gLst2, e_gTup3, e_gLst3, e_gTup4, e_gLst4, e_gTup5, e_gLst5, e_next, e_ret, e_retN, e_ifS, e_drop, e_break, e_cont, e_asg, e_asgN, e_frz, e_mNil, e_mSh, e_mOw, e_parM2, e_parE2, e_parM3, e_parE3, e_parM4, e_parE4, e_append, e_for, e_dput, e_setL, e_raiseP, e_raiseF, e_br1, e_br0, e_addI, e_subI, e_addS, e_addL, e_addT, e_mulI, e_modI, e_fdivI, e_powI, e_revL, e_revT, e_negI, e_ltI, e_ltS, e_leI, e_leS, e_gtI, e_gtS, e_geI, e_geS, e_isN, e_notN, e_lenS, e_lenL, e_lenT, e_max2, e_min2, e_tupL, e_tupT, e_lstL, e_lstT, e_slS, e_slL, e_slT, e_int1I, e_absI, e_seqL, e_seqT, e_seqS, e_rng1, e_rng2, e_enumL, e_enumAL, e_enumAT, e_zipL, e_none1, e_none2, e_none3, e_none4, e_none5, e_none6, e_none7, e_keyS, e_keyI, e_at0, e_put0, e_at1, e_put1, e_at2, e_put2, e_at3, e_put3, e_at4, e_put4, e_at5, e_put5, e_at6, e_put6, e_at7, e_put7, e_at8, e_put8, e_at9, e_put9, e_at10, e_put10, e_at11, e_put11, e_at12, e_put12, e_at13, e_put13, e_at14, e_put14, e_at15, e_put15, e_at16, e_put16, e_at17, e_put17, e_at18, e_put18, e_at19, e_put19, e_at20, e_put20, e_at21, e_put21, e_at22, e_put22, e_at23, e_put23, e_at24, e_put24, e_at25, e_put25, e_at26, e_put26, e_at27, e_put27, e_at28, e_put28, e_at29, e_put29, e_wipe0, e_wipe1, e_isi_int_none, e_isi_int_bool, e_isi_int_int, e_isi_int_str, e_isi_int_list, e_isi_int_tuple, e_isi_int_dict, e_isi_bool_none, e_isi_bool_bool, e_isi_bool_int, e_isi_bool_str, e_isi_bool_list, e_isi_bool_tuple, e_isi_bool_dict, e_isi_str_none, e_isi_str_bool, e_isi_str_int, e_isi_str_str, e_isi_str_list, e_isi_str_tuple, e_isi_str_dict, e_isi_list_none, e_isi_list_bool, e_isi_list_int, e_isi_list_str, e_isi_list_list, e_isi_list_tuple, e_isi_list_dict, e_isi_tuple_none, e_isi_tuple_bool, e_isi_tuple_int, e_isi_tuple_str, e_isi_tuple_list, e_isi_tuple_tuple, e_isi_tuple_dict, e_isi_dict_none, e_isi_dict_bool, e_isi_dict_int, e_isi_dict_str, e_isi_dict_list, e_isi_dict_tuple, e_isi_dict_dict, Bool.not_true, Bool.not_false, Bool.or_true, Bool.or_false, Bool.true_or, Bool.false_or, e2]
    refine br_of (fun h2 => ?_) (fun h2 => ?_)
    · rw [h2] at h
      have es : xs.map fstT = ((xs.map fstT).map strT).map Dt.str := by
        rw [List.map_map]
        refine ((List.map_congr_left fun d hd => ?_).trans (List.map_id _)).symm
        exact (str_ofT (List.all_eq_true.mp h2 d hd)).symm
      rw [es]
      exact w_is_ascending h
    · rw [h2] at h
      exact h
theorem w_is_plan {d : Dt} {q qx} (hd : d.pd = true) (h : q (.bool (isPlan d))) : W_is_plan [d] q qx := by
  rw [u_is_plan]
  unfold B_is_plan
  walk_at "dw"
  refine w_has_names hd ?_
  walk_at "dw"
  refine br_of (fun h1 => ?_) (fun h1 => ?_)
  · cases d <;> first | cases h1 | skip
    rename_i xs
    have hp : pdAll xs = true := by simpa only [Dt.pd] using hd
    have hx := (Bool.and_eq_true_iff.mp (show (xs.all isPair && ((xs.map fstT).all isName && ascS ((xs.map fstT).map strT))) = true from h1)).1
    walk_at "dw"
    refine lcW_map (fun d => .bool (isNum (sndT d))) (fun d hd b yes hy => ?_) ?_
    · obtain ⟨a, b', rfl⟩ := pair_ofT (List.all_eq_true.mp hx d hd)
      walk_at "dw"
      exact w_is_number (pd_pair (pdAll_mem hp hd)).2 hy
    · refine i_all (bs := (xs.map sndT).map isNum) (by rw [List.map_map, List.map_map]; rfl) ?_
      have e : isPlan (.tuple xs) = ((xs.map sndT).map isNum).all id := by
        unfold isPlan
        simp only [h1, Bool.true_and, List.all_map, itemsT]
        rfl
      rw [e] at h
      exact h
  · have e : isPlan d = false := by unfold isPlan; rw [h1]; rfl
    rw [e] at h
    exact h
theorem w_is_limit {d : Dt} {q qx} (hd : d.pd = true) (h : q (.bool (isLimit d))) : W_is_limit [d] q qx := by
  rw [u_is_limit]
  unfold B_is_limit
  walk_at "dw"
  refine w_has_names hd ?_
  walk_at "dw"
  refine br_of (fun h1 => ?_) (fun h1 => ?_)
  · cases d <;> first | cases h1 | skip
    rename_i xs
    have hp : pdAll xs = true := by simpa only [Dt.pd] using hd
    have hx := (Bool.and_eq_true_iff.mp (show (xs.all isPair && ((xs.map fstT).all isName && ascS ((xs.map fstT).map strT))) = true from h1)).1
    walk_at "dw"
    refine lcW_map (fun d => .bool (isEnd (sndT d))) (fun d hd b yes hy => ?_) ?_
    · obtain ⟨a, b', rfl⟩ := pair_ofT (List.all_eq_true.mp hx d hd)
      have hb := (pd_pair (pdAll_mem hp hd)).2
      walk_at "dw"
      cases b' <;> first | exact hy | cases hb | exact w_is_number hb hy
    · refine i_all (bs := (xs.map sndT).map isEnd) (by rw [List.map_map, List.map_map]; rfl) ?_
      have e : isLimit (.tuple xs) = ((xs.map sndT).map isEnd).all id := by
        unfold isLimit
        simp only [h1, Bool.true_and, List.all_map, itemsT]
        rfl
      rw [e] at h
      exact h
  · have e : isLimit d = false := by unfold isLimit; rw [h1]; rfl
    rw [e] at h
    exact h
/-! ### plans and limits that are right -/
def planT (ps : Plan) : Dt := .tuple (ps.map prT)
def optT : Option Int → Dt
  | none => .none
  | some n => .int n
def lrT (q : Str × Option Int) : Dt := .tuple [.str q.1, optT q.2]
def limT (ls : Lim) : Dt := .tuple (ls.map lrT)
theorem planT_lim (ps : Plan) : limT (lim ps) = planT ps := by
  unfold limT planT lim
  rw [List.map_map]
  rfl
/-- ascending, with names -/
structure GoodN {α : Type} (l : List (Str × α)) : Prop where
  ok : ∀ p ∈ l, nameOk p.1 = true
  asc : Asc l
theorem ascS_iff : ∀ {l : List Str}, ascS l = true ↔ l.Pairwise nlt
  | [] => by simp [ascS]
  | [x] => by simp [ascS]
  | x :: y :: r => by
    have ih := ascS_iff (l := y :: r)
    unfold ascS
    rw [Bool.and_eq_true, ih, decide_eq_true_iff]
    constructor
    · intro ⟨h1, h2⟩
      refine List.Pairwise.cons (fun z hz => ?_) h2
      rcases List.mem_cons.mp hz with rfl | hz
      · exact h1
      · exact nlt_trans h1 ((List.pairwise_cons.mp h2).1 z hz)
    · intro h
      obtain ⟨h1, h2⟩ := List.pairwise_cons.mp h
      exact ⟨h1 y List.mem_cons_self, h2⟩
theorem pdAll_of : ∀ {xs : List Dt}, (∀ d ∈ xs, d.pd = true) → pdAll xs = true
  | [], _ => rfl
  | x :: xs, h => by
    unfold pdAll
    rw [h x List.mem_cons_self, pdAll_of fun d hd => h d (List.mem_cons_of_mem _ hd)]
    rfl
theorem planT_pd (ps : Plan) : (planT ps).pd = true := by
  unfold planT Dt.pd
  refine pdAll_of fun d hd => ?_
  obtain ⟨p, _, rfl⟩ := List.mem_map.mp hd
  rfl
theorem limT_pd (ps : Lim) : (limT ps).pd = true := by
  unfold limT Dt.pd
  refine pdAll_of fun d hd => ?_
  obtain ⟨⟨x, e⟩, _, rfl⟩ := List.mem_map.mp hd
  cases e <;> rfl
theorem hasNames_lim {ls : Lim} : hasNames (limT ls) = true ↔ GoodN ls := by
  have e : hasNames (limT ls) = ((ls.map lrT).all isPair && (((ls.map lrT).map fstT).all isName && ascS (((ls.map lrT).map fstT).map strT))) := rfl
  have e1 : (ls.map lrT).all isPair = true := by
    rw [List.all_map]
    exact List.all_eq_true.mpr fun _ _ => rfl
  have e2 : ((ls.map lrT).map fstT).all isName = ls.all fun q => nameOk q.1 := by
    simp only [List.map_map, List.all_map]
    rfl
  have e3 : ((ls.map lrT).map fstT).map strT = ls.map (·.1) := by
    simp only [List.map_map]
    rfl
  rw [e, e1, e2, e3, Bool.true_and, Bool.and_eq_true, ascS_iff, List.all_eq_true]
  exact ⟨fun h => ⟨h.1, h.2⟩, fun h => ⟨h.ok, h.asc⟩⟩
theorem isLimit_lim {ls : Lim} (h : GoodN ls) : isLimit (limT ls) = true := by
  unfold isLimit
  rw [hasNames_lim.mpr h, Bool.true_and]
  show ((ls.map lrT).map sndT).all isEnd = true
  simp only [List.map_map, List.all_map]
  exact List.all_eq_true.mpr fun q _ => by
    obtain ⟨x, e⟩ := q
    cases e <;> rfl
theorem GoodN.lim {ps : Plan} (h : GoodN ps) : GoodN (Cn.lim ps) := ⟨fun p hp => by
  obtain ⟨q, hq, rfl⟩ := List.mem_map.mp hp
  exact h.ok q hq, lim_asc h.asc⟩
theorem isPlan_plan {ps : Plan} (h : GoodN ps) : isPlan (planT ps) = true := by
  unfold isPlan
  rw [← planT_lim, hasNames_lim.mpr h.lim, Bool.true_and, planT_lim]
  show ((ps.map prT).map sndT).all isNum = true
  simp only [List.map_map, List.all_map]
  exact List.all_eq_true.mpr fun q _ => rfl
theorem map_ofT {α : Type} {f : α → Dt} : ∀ {xs : List Dt}, (∀ d ∈ xs, ∃ p, d = f p) → ∃ ps : List α, xs = ps.map f
  | [], _ => ⟨[], rfl⟩
  | x :: xs, h => by
    obtain ⟨p, rfl⟩ := h x List.mem_cons_self
    obtain ⟨ps, rfl⟩ := map_ofT (xs := xs) fun d hd => h d (List.mem_cons_of_mem _ hd)
    exact ⟨p :: ps, rfl⟩
theorem plan_of {d : Dt} (h : isPlan d = true) : ∃ ps, d = planT ps ∧ GoodN ps := by
  unfold isPlan at h
  obtain ⟨h1, h2⟩ := Bool.and_eq_true_iff.mp h
  cases d <;> first | cases h1 | skip
  rename_i xs
  have h3 : (xs.all isPair && ((xs.map fstT).all isName && ascS ((xs.map fstT).map strT))) = true := h1
  obtain ⟨h4, h5⟩ := Bool.and_eq_true_iff.mp h3
  obtain ⟨h5, h6⟩ := Bool.and_eq_true_iff.mp h5
  have h2 : (xs.map sndT).all isNum = true := h2
  have key : ∀ d ∈ xs, ∃ p : Str × Int, d = prT p := fun d hd => by
    obtain ⟨a, b, rfl⟩ := pair_ofT (List.all_eq_true.mp h4 d hd)
    have e1 := List.all_eq_true.mp h5 a (List.mem_map.mpr ⟨_, hd, rfl⟩)
    have e2 := List.all_eq_true.mp h2 b (List.mem_map.mpr ⟨_, hd, rfl⟩)
    rw [str_ofT e1]
    cases b <;> first | exact ⟨(_, _), rfl⟩ | cases e2
  have : ∃ ps : Plan, xs = ps.map prT := map_ofT key
  obtain ⟨ps, rfl⟩ := this
  have hl : hasNames (limT (Cn.lim ps)) = true := by rw [planT_lim]; exact h1
  have g := hasNames_lim.mp hl
  refine ⟨ps, rfl, fun p hp => g.ok (p.1, some p.2) (List.mem_map.mpr ⟨p, hp, rfl⟩), ?_⟩
  have ga := g.asc
  unfold Asc Cn.lim at ga
  rw [List.map_map] at ga
  exact ga
theorem limit_of {d : Dt} (h : isLimit d = true) : ∃ ps, d = limT ps ∧ GoodN ps := by
  unfold isLimit at h
  obtain ⟨h1, h2⟩ := Bool.and_eq_true_iff.mp h
  cases d <;> first | cases h1 | skip
  rename_i xs
  have h3 : (xs.all isPair && ((xs.map fstT).all isName && ascS ((xs.map fstT).map strT))) = true := h1
  obtain ⟨h4, h5⟩ := Bool.and_eq_true_iff.mp h3
  obtain ⟨h5, h6⟩ := Bool.and_eq_true_iff.mp h5
  have h2 : (xs.map sndT).all isEnd = true := h2
  have key : ∀ d ∈ xs, ∃ p : Str × Option Int, d = lrT p := fun d hd => by
    obtain ⟨a, b, rfl⟩ := pair_ofT (List.all_eq_true.mp h4 d hd)
    have e1 := List.all_eq_true.mp h5 a (List.mem_map.mpr ⟨_, hd, rfl⟩)
    have e2 := List.all_eq_true.mp h2 b (List.mem_map.mpr ⟨_, hd, rfl⟩)
    rw [str_ofT e1]
    cases b <;> first | exact ⟨(_, none), rfl⟩ | exact ⟨(_, some _), rfl⟩ | cases e2
  have : ∃ ps : Lim, xs = ps.map lrT := map_ofT key
  obtain ⟨ps, rfl⟩ := this
  exact ⟨ps, rfl, hasNames_lim.mp h1⟩
def kvT (acc : Plan) : List (Key × Dt) := acc.map fun q => (Sum.inr q.1, Dt.int q.2)
theorem kvT_get : ∀ (acc : Plan) (x : Str), kvGet (kvT acc) (Sum.inr x) = (lk acc x).map Dt.int
  | [], x => rfl
  | q :: acc, x => by
    have ih := kvT_get acc x
    unfold kvGet kvT at ih ⊢
    unfold lk at ih ⊢
    rw [List.map_cons, List.find?_cons, List.find?_cons]
    by_cases h : q.1 = x
    · rw [decide_eq_true h, decide_eq_true (by show (Sum.inr q.1 : Key) = Sum.inr x; rw [h])]
      rfl
    · rw [decide_eq_false h, decide_eq_false (by show ¬ (Sum.inr q.1 : Key) = Sum.inr x; intro e; exact h (Sum.inr.inj e))]
      exact ih
theorem kvT_put (acc : Plan) (x : Str) (v : Int) : kvPut (kvT acc) (Sum.inr x) (.int v) = kvT (putQ acc x v) := by
  have e1 : ((kvT acc).any fun kv => decide (kv.1 = (Sum.inr x : Key))) = acc.any fun p => decide (p.1 = x) := by
    unfold kvT
    rw [List.any_map]
    congr 1
    funext p
    exact decide_eq_decide.mpr ⟨fun e => Sum.inr.inj e, fun e => by show (Sum.inr p.1 : Key) = Sum.inr x; rw [e]⟩
  unfold kvPut putQ
  rw [e1]
  by_cases h : (acc.any fun p => decide (p.1 = x)) = true
  · rw [if_pos h, if_pos h]
    unfold kvT
    rw [List.map_map, List.map_map]
    refine List.map_congr_left fun p _ => ?_
    show (if (Sum.inr p.1 : Key) = Sum.inr x then ((Sum.inr p.1 : Key), Dt.int v) else _) = _
    by_cases hp : p.1 = x
    · rw [if_pos (by rw [hp])]
      show _ = (Sum.inr (if p.1 = x then (p.1, v) else p).1, Dt.int (if p.1 = x then (p.1, v) else p).2)
      rw [if_pos hp]
    · rw [if_neg (fun e => hp (Sum.inr.inj e))]
      show _ = (Sum.inr (if p.1 = x then (p.1, v) else p).1, Dt.int (if p.1 = x then (p.1, v) else p).2)
      rw [if_neg hp]
  · rw [if_neg h, if_neg h]
    unfold kvT
    rw [List.map_append]
    rfl
theorem kvT_items : ∀ acc : Plan, itemsI (kvT acc) = some acc
  | [] => rfl
  | q :: acc => by
    show (itemsI (kvT acc)).map (q :: ·) = _
    rw [kvT_items acc]
    rfl
theorem kvT_len (acc : Plan) : (kvT acc).length = acc.length := List.length_map _
theorem putQ_mem {acc : Plan} {x : Str} {v : Int} {p : Str × Int} (h : p ∈ putQ acc x v) : p.1 = x ∨ ∃ r ∈ acc, p.1 = r.1 := by
  unfold putQ at h
  split at h
  · obtain ⟨r, hr, rfl⟩ := List.mem_map.mp h
    by_cases c : r.1 = x
    · rw [if_pos c]; exact .inl c
    · rw [if_neg c]; exact .inr ⟨r, hr, rfl⟩
  · rcases List.mem_append.mp h with h | h
    · exact .inr ⟨p, h, rfl⟩
    · rw [List.mem_singleton.mp h]; exact .inl rfl
theorem nameOk_len {x : Str} (h : nameOk x = true) : x.length ≤ 6 := by
  unfold nameOk at h
  exact of_decide_eq_true (Bool.and_eq_true_iff.mp h).1
/-- names that are names all along -/
def NamesOk (acc : Plan) : Prop := ∀ p ∈ acc, nameOk p.1 = true
theorem NamesOk.put {acc : Plan} {x : Str} {v : Int} (h : NamesOk acc) (hx : nameOk x = true) : NamesOk (putQ acc x v) := fun p hp => by
  rcases putQ_mem hp with e | ⟨r, hr, e⟩
  · rw [e]; exact hx
  · rw [e]; exact h r hr
theorem joinM_good {pss : List Plan} (h : NamesOk (joinAll pss)) : GoodN (joinM pss) := ⟨fun p hp => h p ((List.mergeSort_perm _ _).mem_iff.mp hp), joinM_asc pss⟩
def lastO : Option Int → Option Int → Option Int
  | some a, some b => some (mx a b)
  | _, _ => none
theorem lastO_room (a b : Option Int) : decide (lastO a b = b) = roomM a b := by
  cases a with
  | none => cases b <;> rfl
  | some x =>
    cases b with
    | none => rfl
    | some y =>
      show decide (some (mx x y) = some y) = decide (x ≤ y)
      refine decide_eq_decide.mpr ?_
      rw [Option.some.injEq]
      unfold mx
      split <;> omega
def kvL (acc : Lim) : List (Key × Dt) := acc.map fun q => (Sum.inr q.1, optT q.2)
theorem kvL_get : ∀ (acc : Lim) (x : Str), kvGet (kvL acc) (Sum.inr x) = (lk acc x).map optT
  | [], x => rfl
  | q :: acc, x => by
    have ih := kvL_get acc x
    unfold kvGet kvL at ih ⊢
    unfold lk at ih ⊢
    rw [List.map_cons, List.find?_cons, List.find?_cons]
    by_cases h : q.1 = x
    · rw [decide_eq_true h, decide_eq_true (by show (Sum.inr q.1 : Key) = Sum.inr x; rw [h])]
      rfl
    · rw [decide_eq_false h, decide_eq_false (by show ¬ (Sum.inr q.1 : Key) = Sum.inr x; intro e; exact h (Sum.inr.inj e))]
      exact ih
theorem kvPut_new {kvs : List (Key × Dt)} {k : Key} {d : Dt} (h : k ∉ kvs.map (·.1)) : kvPut kvs k d = kvs ++ [(k, d)] := by
  unfold kvPut
  have e : (kvs.any fun kv => decide (kv.1 = k)) = false := by
    rw [List.any_eq_false]
    intro p hp hc
    exact h (List.mem_map.mpr ⟨p, hp, of_decide_eq_true hc⟩)
  rw [e]
  rfl
theorem kvMerge_nd : ∀ (more acc : List (Key × Dt)), ((acc ++ more).map (·.1)).Nodup → kvMerge acc more = acc ++ more
  | [], acc, _ => (List.append_nil _).symm
  | p :: more, acc, h => by
    have hn : p.1 ∉ acc.map (·.1) := fun hm => by
      rw [List.map_append, List.map_cons] at h
      exact absurd (List.mem_cons_self) ((List.nodup_append.mp h).2.2 _ hm _ · rfl)
    show kvMerge (kvPut acc p.1 p.2) more = _
    rw [kvPut_new hn, kvMerge_nd more _ (by rw [List.append_assoc]; exact h), List.append_assoc]
    rfl
theorem pairs_lim : ∀ ls : Lim, pairsO (ls.map lrT) = some (kvL ls)
  | [] => rfl
  | q :: ls => by
    show (match pairO (lrT q), pairsO (ls.map lrT) with | some p, some ps => some (p :: ps) | _, _ => none) = _
    rw [pairs_lim ls]
    rfl
theorem dict_lim {ls : Lim} (h : GoodN ls) : kvMerge [] (kvL ls) = kvL ls := by
  rw [kvMerge_nd _ _ (by
    rw [List.nil_append]
    unfold kvL
    rw [List.map_map]
    have e2 : ls.map ((fun p : Key × Dt => p.1) ∘ fun q : Str × Option Int => ((Sum.inr q.1 : Key), optT q.2)) = (ls.map (·.1)).map (Sum.inr : Str → Key) := by
      rw [List.map_map]
      rfl
    rw [e2]
    exact List.Pairwise.map _ (fun a b h e => h (Sum.inr.inj e)) h.asc.nd), List.nil_append]
theorem optT_pl (a : Option Int) : (optT a).pl = some (optD a) := by cases a <;> rfl
theorem optD_eqv (a b : Option Int) : PyData.eqv (optD a) (optD b) = decide (a = b) := by
  cases a <;> cases b <;> (simp only [optD]; unfold PyData.eqv)
  · rfl
  · rfl
  · rfl
  · rename_i x y
    by_cases c : x = y <;> simp [c]
theorem optD_depth (a : Option Int) : (optD a).depth ≤ 60 := by cases a <;> (simp only [optD]; unfold PyData.depth; omega)
theorem planT_pl (a : Plan) : (planT a).pl = some (planD a) := pl_tuple (plAll_map (fun _ => rfl) a)
theorem limT_pl (a : Lim) : (limT a).pl = some (limD a) := pl_tuple (plAll_map (g := lrD) (fun q => by obtain ⟨x, e⟩ := q; cases e <;> rfl) a)
theorem i_nePlan {a b : Plan} {q : Dt → Prop} (h : q (.bool (!decide (a = b)))) : neD (planT a) (planT b) q := i_ne (planT_pl a) (planT_pl b) (plan_depth a) (by rw [plan_eqv]; exact h)
theorem i_eqPlan {a b : Plan} {q : Dt → Prop} (h : q (.bool (decide (a = b)))) : eqD (planT a) (planT b) q := i_eq (planT_pl a) (planT_pl b) (plan_depth a) (by rw [plan_eqv]; exact h)
theorem i_neLim {a b : Lim} {q : Dt → Prop} (h : q (.bool (!decide (a = b)))) : neD (limT a) (limT b) q := i_ne (limT_pl a) (limT_pl b) (lim_depth a) (by rw [lim_eqv]; exact h)
theorem i_eqLim {a b : Lim} {q : Dt → Prop} (h : q (.bool (decide (a = b)))) : eqD (limT a) (limT b) q := i_eq (limT_pl a) (limT_pl b) (lim_depth a) (by rw [lim_eqv]; exact h)
/-! ### draws -/
theorem whW_succ {wt : WT} {w : WS} {D : WEnds} {n : Nat} {ρ : Rho} {b : Nat} : whW wt w D (n + 1) ρ b = wt ρ b (fun k b1 => br k (w { D with nx := whW wt w D n, ct := whW wt w D n, bk := D.nx } ρ b1) (D.nx ρ b1)) D.ex := rfl
/-- [e for x in xs], where e draws: what is told of each item holds of all -/
theorem lcW_dem {α : Type} {g : WG} {we : WE} {ρ : Rho} {k : Nat} (c : α → Dt) (P : α → Dt → Prop) {xs : List α} (h : ∀ x ∈ xs, ∀ b (yes : Dt → Nat → Prop), k ≤ b → (∀ y b', P x y → b ≤ b' + k → yes y b') → g (c x) ρ fun ρ2 => we ρ2 b yes FX)
    {b : Nat} {q : List Dt → Nat → Prop} (hb : k * xs.length ≤ b) (hq : ∀ r b', Paired P xs r → b ≤ b' + k * xs.length → q r b') : lcW g wYes we ρ (xs.map c) b q := by
  induction xs generalizing b q with
  | nil => exact hq [] b .nil (by omega)
  | cons x xs ih =>
    rw [List.length_cons, Nat.mul_succ] at hb
    refine h x List.mem_cons_self b _ (by omega) fun y b' py hb' => ih (fun d hd => h d (List.mem_cons_of_mem _ hd)) (by omega) fun r b2 hr hb2 => hq (y :: r) b2 (.cons py hr) ?_
    rw [List.length_cons, Nat.mul_succ]
    omega
theorem paired_of_map {α β : Type} {R : α → β → Prop} {f : α → β} : ∀ {l : List α}, (∀ a ∈ l, R a (f a)) → Paired R l (l.map f)
  | [], _ => .nil
  | a :: l, h => .cons (h a List.mem_cons_self) (paired_of_map fun x hx => h x (List.mem_cons_of_mem _ hx))
theorem w_pickL {ds : List Dt} {b : Nat} {q qx} (h0 : 0 < ds.length) (hl : ds.length < 1000000) (hb : 1 ≤ b) (h : ∀ d ∈ ds, ∀ b', b ≤ b' + 1 → q d b') : W__law_pick [.list ds] b q qx := by
  rw [u__law_pick]
  unfold B__law_pick
  walk_at "dw"
  refine fun _ => i_draw (by omega) (by omega) hb fun r r0 r1 => ?_
  have hk : r.toNat < ds.length := by omega
  refine i_ixL (d := ds[r.toNat]) ?_ (h _ (List.getElem_mem _) _ (by omega))
  have e := atI_ofNat (List.getElem?_eq_getElem hk)
  rw [Int.toNat_of_nonneg r0] at e
  exact e
theorem w_pickT {ds : List Dt} {b : Nat} {q qx} (h0 : 0 < ds.length) (hl : ds.length < 1000000) (hb : 1 ≤ b) (h : ∀ d ∈ ds, ∀ b', b ≤ b' + 1 → q d b') : W__law_pick [.tuple ds] b q qx := by
  rw [u__law_pick]
  unfold B__law_pick
  walk_at "dw"
  refine fun _ => i_draw (by omega) (by omega) hb fun r r0 r1 => ?_
  have hk : r.toNat < ds.length := by omega
  refine i_ixT (d := ds[r.toNat]) ?_ (h _ (List.getElem_mem _) _ (by omega))
  have e := atI_ofNat (List.getElem?_eq_getElem hk)
  rw [Int.toNat_of_nonneg r0] at e
  exact e
theorem w_pickS {x : Str} {b : Nat} {q qx} (h0 : 0 < x.length) (hb : 1 ≤ b) (h : ∀ c ∈ x.cps.toList, ∀ b', b ≤ b' + 1 → q (.str ⟨#[c]⟩) b') : W__law_pick [.str x] b q qx := by
  rw [u__law_pick]
  unfold B__law_pick
  walk_at "dw"
  refine fun hl => i_draw (by omega) (by omega) hb fun r r0 r1 => ?_
  have hx : x.length = x.cps.toList.length := rfl
  have hk : r.toNat < x.cps.toList.length := by omega
  refine i_ixS (k := x.cps.toList[r.toNat]) ?_ (h _ (List.getElem_mem _) _ (by omega))
  have e := atI_ofNat (List.getElem?_eq_getElem hk)
  rw [Int.toNat_of_nonneg r0] at e
  exact e
theorem low_len {x : Str} (h : Low x) : x.length ≤ 6 := h.2.1
theorem atI_zero {α : Type} {x : α} {xs : List α} : atI (x :: xs) 0 = some x := atI_ofNat (j := 0) rfl
theorem strs_flat (ss : List Str) : (ss.map Dt.str).all flatD = true := by
  rw [List.all_map]
  exact List.all_eq_true.mpr fun _ _ => rfl
theorem strs_toV (ss : List Str) : (ss.map Dt.str).map toV = ss.map V.str := by
  rw [List.map_map]
  rfl
theorem i_notInS {x : Str} {ss : List Str} {q : Dt → Prop} (h : q (.bool (!decide (x ∈ ss)))) : inD true (.str x) (.list (ss.map .str)) q := by
  unfold inD itemsOf
  dsimp only
  rw [strs_toV]
  refine ⟨⟨rfl, strs_flat ss⟩, ?_⟩
  rw [if_pos rfl]
  show q (.bool (!inV (.str x) (ss.map V.str)))
  rw [inV_strs]
  exact h
theorem i_inS {x : Str} {ss : List Str} {q : Dt → Prop} (h : q (.bool (decide (x ∈ ss)))) : inD false (.str x) (.list (ss.map .str)) q := by
  unfold inD itemsOf
  dsimp only
  rw [strs_toV]
  refine ⟨⟨rfl, strs_flat ss⟩, ?_⟩
  rw [if_neg (by decide)]
  show q (.bool (inV (.str x) (ss.map V.str)))
  rw [inV_strs]
  exact h
/-- words as the laws draw them -/
structure WordsOk (ws : List Str) : Prop where
  asc : ws.Pairwise nlt
  low : ∀ x ∈ ws, Low x
theorem paired_signs {P : Int → Dt → Prop} {cs0 : List Nat} : ∀ {l : List Nat} {r : List Dt}, Paired (fun (_ : Nat) y => ∃ c ∈ cs0, y = Dt.str ⟨#[c]⟩) l r → ∃ cs : List Nat, r = (cs.map fun c => (⟨#[c]⟩ : Str)).map Dt.str ∧ cs.length = l.length ∧ ∀ c ∈ cs, c ∈ cs0
  | _, _, .nil => ⟨[], rfl, rfl, fun _ h => absurd h List.not_mem_nil⟩
  | _, _, .cons h t => by
    obtain ⟨c, hc, rfl⟩ := h
    obtain ⟨cs, rfl, e, m⟩ := paired_signs (P := P) t
    exact ⟨c :: cs, rfl, by rw [List.length_cons, List.length_cons, e], fun x hx => (List.mem_cons.mp hx).elim (fun e => e ▸ hc) (m x)⟩
theorem signs_sum (cs : List Nat) : ((cs.map fun c => (⟨#[c]⟩ : Str)).map (·.length)).sum = cs.length := by
  induction cs with
  | nil => rfl
  | cons c cs ih =>
    rw [List.map_cons, List.map_cons, List.sum_cons, ih, List.length_cons]
    show 1 + cs.length = _
    omega
theorem w_words {m : Nat} {b : Nat} {q qx} (hm : m ≤ 20) (hb : 8 * m ≤ b) (h : ∀ ws b', WordsOk ws → ws.length = m → b ≤ b' + 8 * m → q (.list (ws.map .str)) b') : W__law_words [.int (m : Int)] b q qx := by
  rw [u__law_words]
  unfold B__law_words
  refine seq_mk fun N hN => ?_
  walk_at "dw"
  refine hN _ _ ?_
  clear hN
  refine seq_mk fun N hN => ?_
  generalize hL' : ("abcdefghijklmnopqrstuvwxyz" : Str) = L
  have hL : lettersS = L := hL'
  refine while_mk (fun r ρ b' => ∃ (found : List Str) (s4 s5 s6 s7 s8 s9 : Option Sv), ρ = [some .st, some (.sh (.int (m : Int))), some (.sh (.str L)), some (.ow (.list (found.map .str))), s4, s5, s6, s7, s8, s9] ∧ found.length + r = m ∧ found.Nodup ∧ (∀ x ∈ found, Low x) ∧ 8 * r ≤ b' ∧ b ≤ b' + 8 * (m - r))
    m ⟨[], _, _, _, _, _, _, rfl, by simp, List.nodup_nil, fun _ h => absurd h List.not_mem_nil, hb, by omega⟩ fun r ρ b' i N2 hN2 => ?_
  obtain ⟨found, s4, s5, s6, s7, s8, s9, rfl, hl, nd, low, hb1, hb2⟩ := i
  walk_at "dw"
  refine fun _ => br_of (fun hlt => ?_) fun hlt => hN _ _ ?_
  · have hlt := of_decide_eq_true hlt
    rw [List.length_map] at hlt
    have hlast := hN2

    clear hN
    -- the drawn word
    refine seq_mk fun N2 hN2 => ?_
    walk_at "dw"
    refine i_draw (by decide) (by decide) (by omega) fun k k0 k1 => ?_
    refine And.intro (by omega) ?_
    rw [natD_map]
    refine lcW_dem (k := 1) (fun (i : Nat) => Dt.int (i : Int)) (fun _ y => ∃ c ∈ L.cps.toList, y = Dt.str ⟨#[c]⟩) (fun i hi b1 yes hb' hy => ?_) (by rw [List.length_range]; omega) fun rr b1 hr hb3 => ?_
    · walk_at "dw"
      exact w_pickS (by rw [← hL]; decide +kernel) hb' fun c hc b2 hb2 => hy _ _ ⟨c, hc, rfl⟩ hb2
    rw [List.length_range] at hb3
    obtain ⟨cs, rfl, hcl, hcm⟩ := paired_signs (P := fun _ _ => True) hr
    rw [List.length_range] at hcl
    have hlow := drawn_low (fun c hc => by rw [hL]; exact hcm c hc) (by omega) (by omega)
    refine i_join (ys := cs.map fun c => (⟨#[c]⟩ : Str)) rfl (by rw [signs_sum]; show _ + _ * 0 ≤ _; omega) (by have := low_len hlow; omega) ?_
    refine hN2 _ _ ?_
    clear hN2
    generalize PySem.Txt.join "" (cs.map fun c => (⟨#[c]⟩ : Str)) = dw at hlow
    -- the word
    refine seq_mk fun N2 hN2 => ?_
    walk_at "dw"
    refine w_pickL (Nat.zero_lt_succ _) (by simp only [List.length_cons, List.length_nil]; omega) (by omega) fun d hd b2 hb4 => ?_
    obtain ⟨word, rfl, hword⟩ : ∃ word, d = .str word ∧ Low word := by
      simp only [List.mem_cons, List.not_mem_nil, or_false] at hd
      rcases hd with rfl | rfl | rfl | rfl | rfl | rfl | rfl | rfl | rfl
      · exact ⟨_, rfl, low_a⟩
      · exact ⟨_, rfl, low_b⟩
      · exact ⟨_, rfl, low_c⟩
      · exact ⟨_, rfl, low_aa⟩
      · exact ⟨_, rfl, low_none⟩
      · exact ⟨_, rfl, low_things⟩
      · exact ⟨_, rfl, low_z⟩
      · exact ⟨_, rfl, hlow⟩
      · exact ⟨_, rfl, hlow⟩
    refine hN2 _ _ ?_
    clear hN2
    -- what may come next
    refine seq_mk fun N2 hN2 => ?_
    walk_at "dw"
    refine lcW_mapT (fun c => Dt.str ⟨#[c]⟩) (fun c => .str (cutL word c)) (fun c hc b3 yes hy => ?_) ?_
    · walk_at "dw"
      refine And.intro ?_ hy
      have h1 := cutS_length word none (some 5)
      have h2 := low_len hword
      show (cutS word none (some 5)).length + 1 ≤ 100000
      omega
    have es : [Dt.str word] ++ L.cps.toList.map (fun c => Dt.str (cutL word c)) = (spare word).map .str := by
      rw [← hL]
      unfold spare nexts
      rw [List.map_cons, List.map_map]
      rfl
    refine And.intro (by rw [← hL]; simp only [List.length_map, letters_len, List.length_cons, List.length_nil]; omega) ?_
    rw [es]
    refine hN2 _ _ ?_
    clear hN2
    walk_at "dw"
    refine lcW_fmT Dt.str (fun s => if s ∈ found then none else some (Dt.str s)) (fun s hs b3 yes no hy => ?_) ?_
    · walk_at "dw"
      refine i_notInS ?_
      walk_at "dw"
      by_cases c : s ∈ found
      · rw [if_pos c] at hy
        rw [decide_eq_true c]
        exact hy
      · rw [if_neg c] at hy
        rw [decide_eq_false c]
        exact hy
    · have ef : (spare word).filterMap (fun s => if s ∈ found then none else some (Dt.str s)) = ((spare word).filter fun s => decide (s ∉ found)).map Dt.str := by
        generalize spare word = l
        induction l with
        | nil => rfl
        | cons x l ih2 =>
          by_cases c : x ∈ found
          · rw [List.filterMap_cons, if_pos c, List.filter_cons_of_neg (by simpa using c)]
            exact ih2
          · rw [List.filterMap_cons, if_neg c, List.filter_cons_of_pos (by simpa using c), List.map_cons, ← ih2]
      rw [ef]
      have hne := spare_free word found (by omega)
      cases hc : (spare word).filter (fun s => decide (s ∉ found)) with
      | nil => exact absurd hc hne
      | cons y l =>
        have hy : y ∈ (spare word).filter (fun s => decide (s ∉ found)) := by rw [hc]; exact List.mem_cons_self
        obtain ⟨h1, h2⟩ := List.mem_filter.mp hy
        have h2' : y ∉ found := of_decide_eq_true h2
        refine i_ixL (d := .str y) atI_zero (And.intro (by rw [List.length_map]; omega) ?_)
        have ea : found.map Dt.str ++ [Dt.str y] = (found ++ [y]).map .str := by rw [List.map_append]; rfl
        rw [ea]
        refine hlast (r - 1) _ _ (by omega) ⟨found ++ [y], _, _, _, _, _, _, rfl, by rw [List.length_append]; simp only [List.length_cons, List.length_nil]; omega, List.nodup_append.mpr ⟨nd, by simp, fun a ha c hc => by rw [List.mem_singleton.mp hc]; exact fun e => h2' (e ▸ ha)⟩, fun x hx => ?_, by omega, by omega⟩
        rcases List.mem_append.mp hx with hx | hx
        · exact low x hx
        · rw [List.mem_singleton.mp hx]
          exact spare_low hword h1
  · have hlt := of_decide_eq_false hlt
    rw [List.length_map] at hlt
    walk_at "dw"
    refine i_sortedS (h _ _ ⟨sortS_asc nd, fun x hx => low x ((sortS_perm found).mem_iff.mp hx)⟩ ?_ (by omega))
    rw [(sortS_perm found).length_eq]
    omega

/-- rows of drawn words: names in the words' order, moments near enough -/
structure RowOk {α : Type} (ws : List Str) (ps : List (Str × α)) : Prop where
  sub : (ps.map (·.1)).Sublist ws
theorem RowOk.good {α : Type} {ws : List Str} {ps : List (Str × α)} (r : RowOk ws ps) (w : WordsOk ws) : GoodN ps := ⟨fun p hp => nameOk_of (w.low _ (r.sub.subset (List.mem_map.mpr ⟨p, hp, rfl⟩))), List.Pairwise.sublist r.sub w.asc⟩
theorem RowOk.len {α : Type} {ws : List Str} {ps : List (Str × α)} (r : RowOk ws ps) : ps.length ≤ ws.length := by
  have := r.sub.length_le
  rwa [List.length_map] at this
def Near (ps : Plan) : Prop := ∀ p ∈ ps, -10000000000 ≤ p.2 ∧ p.2 ≤ 10000000000
theorem w_row {ws : List Str} {wide : Int} {b : Nat} {q qx} (h0 : 0 ≤ wide) (h1 : wide ≤ 100000000) (hl : ws.length ≤ 1000) (hb : 1 + 2 * ws.length ≤ b) (h : ∀ ps b', RowOk ws ps → Near ps → b ≤ b' + (1 + 2 * ws.length) → q (planT ps) b') : W__law_row [.list (ws.map .str), .int wide] b q qx := by
  rw [u__law_row]
  unfold B__law_row
  refine seq_mk fun N hN => ?_
  walk_at "dw"
  refine And.intro ⟨by decide, by decide, by decide⟩ (And.intro (.inl ⟨by decide, by decide⟩) ?_)
  refine w_pickL (Nat.zero_lt_succ _) (by simp only [List.length_cons, List.length_nil]; omega) (by omega) fun d hd b1 hb1 => ?_
  obtain ⟨far, rfl, hf⟩ : ∃ far : Int, d = .int far ∧ 0 ≤ far ∧ far ≤ 900000000 := by
    simp only [List.mem_cons, List.not_mem_nil, or_false] at hd
    rcases hd with rfl | rfl | rfl | rfl | rfl | rfl
    all_goals first | exact ⟨0, rfl, by decide, by decide⟩ | exact ⟨_, rfl, by decide, by decide⟩
  refine hN _ _ ?_
  clear hN
  refine seq_mk fun N hN => ?_
  walk_at "dw"
  refine forW_ind Dt.str (fun rest ρ b' => ∃ (done : List Str) (ps : Plan) (s5 : Option Sv), done ++ rest = ws ∧ (ps.map (·.1)).Sublist done ∧ Near ps ∧ 2 * rest.length ≤ b' ∧ b ≤ b' + (1 + 2 * (ws.length - rest.length)) ∧ ρ = [some .st, some (.sh (.list (ws.map .str))), some (.sh (.int wide)), some (.ow (.list (ps.map prT))), some (.sh (.int far)), s5])
    (fun ρ b' i => ?_) (fun x rest ρ b' i N2 hN2 => ?_) ⟨[], [], _, rfl, List.Sublist.refl _, fun _ h => absurd h List.not_mem_nil, by omega, by omega, rfl⟩
  · obtain ⟨done, ps, s5, e, sub, nr, _, hb2, rfl⟩ := i
    refine hN _ _ ?_
    walk_at "dw"
    rw [List.append_nil] at e
    subst e
    exact h ps _ ⟨sub⟩ nr (by simpa using hb2)
  · obtain ⟨done, ps, s5, e, sub, nr, hb3, hb2, rfl⟩ := i
    have el : done.length + (rest.length + 1) = ws.length := by rw [← e, List.length_append, List.length_cons]
    rw [List.length_cons] at hb3 hb2
    have pl : ps.length ≤ done.length := by
      have := sub.length_le
      rwa [List.length_map] at this
    walk_at "dw"
    refine i_draw (by decide) (by decide) (by omega) fun r r0 r1 => br_of (fun hr => ?_) fun hr => ?_
    · refine And.intro (.inl ⟨by decide, by decide⟩) (i_draw (by omega) (by omega) (by omega) fun m m0 m1 => And.intro (by rw [List.length_map]; omega) (hN2 _ _ ?_))
      refine ⟨done ++ [x], ps ++ [(x, m - wide + far)], _, by rw [List.append_assoc]; exact e, ?_, fun p hp => ?_, by omega, by omega, by rw [List.map_append]; rfl⟩
      · rw [List.map_append]
        exact sub.append (List.Sublist.refl _)
      · rcases List.mem_append.mp hp with hp | hp
        · exact nr p hp
        · rw [List.mem_singleton.mp hp]
          exact ⟨by show _ ≤ m - wide + far; omega, by show m - wide + far ≤ _; omega⟩
    · refine hN2 _ _ ⟨done ++ [x], ps, _, by rw [List.append_assoc]; exact e, sub.trans (List.sublist_append_left _ _), nr, by omega, by omega, rfl⟩
theorem paired_bound : ∀ {ps : Plan} {r : List Dt}, Paired (fun (p : Str × Int) y => ∃ e : Option Int, (e = none ∨ e = some p.2) ∧ y = lrT (p.1, e)) ps r → ∃ ls : Lim, r = ls.map lrT ∧ ls.map (·.1) = ps.map (·.1) ∧ ∀ l ∈ ls, ∀ m, l.2 = some m → ∃ p ∈ ps, p.2 = m
  | _, _, .nil => ⟨[], rfl, rfl, fun _ h => absurd h List.not_mem_nil⟩
  | _, _, .cons (a := p) h t => by
    obtain ⟨e, he, rfl⟩ := h
    obtain ⟨ls, rfl, e1, e2⟩ := paired_bound t
    refine ⟨(p.1, e) :: ls, rfl, by rw [List.map_cons, List.map_cons, e1], fun l hl m hm => ?_⟩
    rcases List.mem_cons.mp hl with rfl | hl
    · rcases he with rfl | rfl
      · cases hm
      · cases hm
        exact ⟨p, List.mem_cons_self, rfl⟩
    · obtain ⟨p', h1, h2⟩ := e2 l hl m hm
      exact ⟨p', List.mem_cons_of_mem _ h1, h2⟩
def NearL (ls : Lim) : Prop := ∀ l ∈ ls, ∀ m, l.2 = some m → -10000000000 ≤ m ∧ m ≤ 10000000000
theorem w_bound {ws : List Str} {wide : Int} {b : Nat} {q qx} (h0 : 0 ≤ wide) (h1 : wide ≤ 100000000) (hl : ws.length ≤ 1000) (hb : 1 + 3 * ws.length ≤ b) (h : ∀ ls b', RowOk ws ls → NearL ls → b ≤ b' + (1 + 3 * ws.length) → q (limT ls) b') : W__law_bound [.list (ws.map .str), .int wide] b q qx := by
  rw [u__law_bound]
  unfold B__law_bound
  walk_at "dw"
  refine w_row h0 h1 hl (by omega) fun ps b1 ok nr hb1 => ?_
  unfold planT
  walk_at "dw"
  have pl := ok.len
  refine lcW_dem (k := 1) prT (fun (p : Str × Int) y => ∃ e : Option Int, (e = none ∨ e = some p.2) ∧ y = lrT (p.1, e)) (fun p hp b2 yes hb2 hy => ?_) (by omega) fun r b2 hr hb2 => ?_
  · unfold prT
    walk_at "dw"
    refine i_draw (by decide) (by decide) (by omega) fun m m0 m1 => i_eqI ?_
    walk_at "dw"
    exact br_of (fun _ => hy _ _ ⟨none, .inl rfl, rfl⟩ (by omega)) fun _ => hy _ _ ⟨some p.2, .inr rfl, rfl⟩ (by omega)
  · obtain ⟨ls, rfl, e1, e2⟩ := paired_bound hr
    refine h ls _ ⟨by rw [e1]; exact ok.sub⟩ (fun l hl m hm => ?_) (by omega)
    obtain ⟨p, hp, rfl⟩ := e2 l hl m hm
    exact nr p hp
theorem joinM_len (pss : List Plan) : (joinM pss).length ≤ total pss := by
  have h := joins_len pss []
  have e : (joinM pss).length = (joinAll pss).length := List.length_mergeSort _
  rw [e]
  simp only [List.length_nil, Nat.zero_add] at h
  exact h
theorem later_good {a : Plan} (g : GoodN a) (n : Int) : GoodN (laterM a n) := ⟨fun p hp => by
  obtain ⟨r, hr, rfl⟩ := List.mem_map.mp hp
  exact g.ok r hr, later_asc g.asc n⟩
theorem planT_inj {a b : Plan} (h : planT a = planT b) : a = b := by
  have h1 := planT_pl a
  rw [h, planT_pl b] at h1
  have h2 := Option.some.inj h1
  have := plan_eqv b a
  rw [h2] at this
  have e := plan_eqv a a
  rw [e] at this
  exact (show b = a by simpa using this).symm
theorem limT_inj {a b : Lim} (h : limT a = limT b) : a = b := by
  have h1 := limT_pl a
  rw [h, limT_pl b] at h1
  have h2 := Option.some.inj h1
  have := lim_eqv b a
  rw [h2] at this
  have e := lim_eqv a a
  rw [e] at this
  exact (show b = a by simpa using this).symm
/-! ### a law's own look at rows and bounds -/
def rowPair : Dt → Bool
  | .tuple [.str x, .int _] => nameOk x
  | _ => false
def bndPair : Dt → Bool
  | .tuple [.str x, .int _] => nameOk x
  | .tuple [.str x, .none] => nameOk x
  | _ => false
def nmT (d : Dt) : Str := strT (fstT d)
theorem rowPair_eq (d : Dt) : rowPair d = (isPair d && (isName (fstT d) && isNum (sndT d))) := by
  unfold rowPair
  split
  · rename_i x i
    show nameOk x = (true && (nameOk x && true))
    rw [Bool.and_true, Bool.true_and]
  · rename_i h
    cases d <;> first | rfl | skip
    rename_i xs
    match xs, h with
    | [], _ => rfl
    | [_], _ => rfl
    | _ :: _ :: _ :: _, _ => rfl
    | [a, b], h =>
      show false = (isName a && isNum b)
      cases a <;> first | rfl | skip
      cases b <;> first | (rw [show isNum _ = false from rfl, Bool.and_false]; done) | skip
      exact absurd rfl (h _ _)
theorem isPlan_rows (xs : List Dt) : isPlan (.tuple xs) = (xs.all rowPair && decide ((xs.map nmT).Pairwise nlt)) := by
  have e1 : isPlan (.tuple xs) = ((xs.all isPair && ((xs.map fstT).all isName && ascS ((xs.map fstT).map strT))) && (xs.map sndT).all isNum) := rfl
  have e2 : ascS ((xs.map fstT).map strT) = decide ((xs.map nmT).Pairwise nlt) := by
    rw [List.map_map]
    exact Bool.eq_iff_iff.mpr (ascS_iff.trans decide_eq_true_iff.symm)
  have e3 : xs.all rowPair = (xs.all isPair && ((xs.map fstT).all isName && (xs.map sndT).all isNum)) := by
    rw [List.all_map, List.all_map]
    induction xs with
    | nil => rfl
    | cons d xs ih =>
      have ih := ih rfl (by rw [List.map_map]; exact Bool.eq_iff_iff.mpr (ascS_iff.trans decide_eq_true_iff.symm))
      rw [List.all_cons, List.all_cons, List.all_cons, List.all_cons, ih, rowPair_eq]
      show _ = (isPair d && xs.all isPair && (isName (fstT d) && xs.all (isName ∘ fstT) && (isNum (sndT d) && xs.all (isNum ∘ sndT))))
      cases isPair d <;> cases isName (fstT d) <;> cases isNum (sndT d) <;> cases xs.all isPair <;> cases xs.all (isName ∘ fstT) <;> rfl
  rw [e1, e2, e3]
  cases xs.all isPair <;> cases (xs.map fstT).all isName <;> cases (xs.map sndT).all isNum <;> cases decide ((xs.map nmT).Pairwise nlt) <;> rfl
theorem letters_not (x : Str) : (x.cps.toList.filterMap fun c => if letterS c = true then none else some (Dt.str ⟨#[c]⟩)) = [] ↔ x.cps.toList.all letterS = true := by
  rw [List.filterMap_eq_nil_iff, List.all_eq_true]
  refine ⟨fun h c hc => ?_, fun h c hc => by rw [if_pos (h c hc)]⟩
  by_cases e : letterS c = true
  · exact e
  · have := h c hc
    rw [if_neg e] at this
    cases this
theorem memS_eq (c : Nat) : decide (c ∈ ("abcdefghijklmnopqrstuvwxyz" : Str).cps.toList) = letterS c := by
  unfold letterS
  exact Bool.eq_iff_iff.mpr (decide_eq_true_iff.trans List.contains_iff_mem.symm)
theorem i_neNil {ds : List Dt} {q : Dt → Prop} (hp : ∃ es, plAll ds = some es ∧ PyData.depthAll es ≤ 50) (h : q (.bool (!decide (ds = [])))) : neD (.list ds) (.list []) q := by
  obtain ⟨es, e1, e2⟩ := hp
  refine i_ne (pl_list e1) (y := .list []) rfl (by show PyData.depthAll es + 1 ≤ 60; omega) ?_
  have e : PyData.eqv (.list es) (.list []) = decide (ds = []) := by
    cases ds with
    | nil =>
      cases e1
      simp only [PyData.eqv, PyData.eqvAll, decide_true]
    | cons d ds =>
      unfold plAll at e1
      split at e1
      · cases e1
        rw [decide_eq_false (by simp)]
        simp only [PyData.eqv, PyData.eqvAll]
      · cases e1
  rw [e]
  exact h
theorem i_eqNil {ds : List Dt} {q : Dt → Prop} (hp : ∃ es, plAll ds = some es ∧ PyData.depthAll es ≤ 50) (h : q (.bool (decide (ds = [])))) : eqD (.list ds) (.list []) q := by
  obtain ⟨es, e1, e2⟩ := hp
  refine i_eq (pl_list e1) (y := .list []) rfl (by show PyData.depthAll es + 1 ≤ 60; omega) ?_
  have e : PyData.eqv (.list es) (.list []) = decide (ds = []) := by
    cases ds with
    | nil =>
      cases e1
      simp only [PyData.eqv, PyData.eqvAll, decide_true]
    | cons d ds =>
      unfold plAll at e1
      split at e1
      · cases e1
        rw [decide_eq_false (by simp)]
        simp only [PyData.eqv, PyData.eqvAll]
      · cases e1
  rw [e]
  exact h
theorem pl_strs : ∀ {ds : List Dt}, (∀ d ∈ ds, ∃ x, d = .str x) → ∃ es, plAll ds = some es ∧ PyData.depthAll es ≤ 50
  | [], _ => ⟨[], rfl, Nat.zero_le _⟩
  | d :: ds, h => by
    obtain ⟨es, e1, e2⟩ := pl_strs fun x hx => h x (List.mem_cons_of_mem _ hx)
    obtain ⟨x, rfl⟩ := h d List.mem_cons_self
    refine ⟨.str x :: es, ?_, ?_⟩
    · unfold plAll
      rw [e1]
      rfl
    · unfold PyData.depthAll
      exact Nat.max_le.mpr ⟨Nat.zero_le _, e2⟩
theorem pl_ints : ∀ {ds : List Dt}, (∀ d ∈ ds, ∃ x, d = .int x) → ∃ es, plAll ds = some es ∧ PyData.depthAll es ≤ 50
  | [], _ => ⟨[], rfl, Nat.zero_le _⟩
  | d :: ds, h => by
    obtain ⟨es, e1, e2⟩ := pl_ints fun x hx => h x (List.mem_cons_of_mem _ hx)
    obtain ⟨x, rfl⟩ := h d List.mem_cons_self
    refine ⟨.int x :: es, ?_, ?_⟩
    · unfold plAll
      rw [e1]
      rfl
    · unfold PyData.depthAll
      exact Nat.max_le.mpr ⟨Nat.zero_le _, e2⟩
theorem w_is_row {d : Dt} {q qx} (hd : d.pd = true) (hl : (itemsT d).length < 4000) (h : q (.bool (isPlan d))) : W__law_is_row [d] q qx := by
  rw [u__law_is_row]
  unfold B__law_is_row
  refine seq_mk fun N hN => ?_
  cases d <;> first | (walk_at "dw"; exact h) | cases hd | skip
  rename_i xs
  have hp : pdAll xs = true := by simpa only [Dt.pd] using hd
  have hl : xs.length < 4000 := hl
  rw [isPlan_rows] at h
  walk_at "dw"
  refine hN _ _ ?_
  clear hN
  refine seq_mk fun N hN => ?_
  walk_at "dw"
  have e0 : xs = xs.map id := (List.map_id xs).symm
  rw [e0]
  refine forW_ind id (fun rest ρ b => (∀ d ∈ rest, d.pd = true) ∧ (∀ k : Bool, (k = rest.all rowPair) → k = xs.all rowPair) ∧ ∃ s1 s2, ρ = [some (.sh (.tuple (xs.map id))), s1, s2]) (fun ρ b i => ?_) (fun p rest ρ b i N2 hN2 => ?_) ⟨fun d hd => pdAll_mem hp hd, fun k hk => hk, _, _, rfl⟩
  · obtain ⟨_, hk, s1, s2, rfl⟩ := i
    have hall : xs.all rowPair = true := (hk true rfl).symm
    rw [hall, Bool.true_and] at h
    refine hN _ _ ?_
    walk_at "dw"
    have key : ∀ d ∈ xs, ∃ y b, d = .tuple [.str y, b] := fun d hd => by
      have := List.all_eq_true.mp hall d hd
      unfold rowPair at this
      split at this
      · exact ⟨_, _, rfl⟩
      · cases this
    rw [← e0]
    have em : xs.map (fun d => Dt.str (nmT d)) = (xs.map nmT).map Dt.str := by rw [List.map_map]; rfl
    refine lcW_map (fun d => .str (nmT d)) (fun d hd b yes hy => ?_) (lcW_map (fun d => .str (nmT d)) (fun d hd b yes hy => ?_) ?_)
    · obtain ⟨y, b', rfl⟩ := key d hd
      walk_at "dw"
      exact i_ixT (d := .str y) atI_zero hy
    · obtain ⟨y, b', rfl⟩ := key d hd
      walk_at "dw"
      exact i_ixT (d := .str y) atI_zero hy
    rw [em]
    refine i_sset rfl (by rw [List.length_map]; exact hl) fun ts hts => i_eqLS ?_
    have e3 : decide (xs.map nmT = ts) = decide ((xs.map nmT).Pairwise nlt) := by
      rw [← sset_names (xs.map nmT), ← hts]
      refine decide_eq_decide.mpr ⟨fun e => by rw [e], fun e => ?_⟩
      have inj : ∀ {a b : List Str}, a.map (Sum.inr : Str → Key) = b.map Sum.inr → a = b := by
        intro a
        induction a with
        | nil => intro b e; cases b with | nil => rfl | cons _ _ => cases e
        | cons x a ih => intro b e; cases b with
          | nil => cases e
          | cons y b =>
            injection e with e1 e2
            rw [Sum.inr.inj e1, ih e2]
      exact (inj e).symm
    rw [e3]
    exact h
  · obtain ⟨hpd, hk, s1, s2, rfl⟩ := i
    simp only [id, e_var, e_varB, e_c, e_op, e_un, e_isB, e_test, e_not, e_and, e_or, e_yes, e_notV, e_andV, e_orV, e_if, e_chain, e_nil, e_cons, e_cb, e_tup, e_lst, e_d0, e_lc, e_dget, e_dget1, e_dget2, e_isi, e_isi2, e_m0, e_call, e_call0, e_callS, e_callS0, e_draw, e_sl, e_noPart, e_part, e_join, e_sortIt, e_upper, e_sset, e_lset, e_errP, e_errJ, e_isE, e_fld, e_err, e_kw, e_noOw0, e_noOwO, e_noOwS, e_noOwT, e_noOwC, e_noOwN, e_wpNil, e_wpCons, e_disp, e_disp1, e_inS, e_notInS, e_lenSc, e_iSeq, e_iR1, e_iR2, e_iEnum, e_iEnumA, e_iZip, e_gName, e_gNil, e_gCons, e_gTup1, e_gLst1, e_gTup2, e_gLst2, e_gTup3, e_gLst3, e_gTup4, e_gLst4, e_gTup5, e_gLst5, e_next, e_ret, e_retN, e_ifS, e_drop, e_break, e_cont, e_asg, e_asgN, e_frz, e_mNil, e_mSh, e_mOw, e_parM2, e_parE2, e_parM3, e_parE3, e_parM4, e_parE4, e_append, e_for, e_dput, e_setL, e_raiseP, e_raiseF, e_br1, e_br0, e_addI, e_subI, e_addS, e_addL, e_addT, e_mulI, e_modI, e_fdivI, e_powI, e_revL, e_revT, e_negI, e_ltI, e_ltS, e_leI, e_leS, e_gtI, e_gtS, e_geI, e_geS, e_isN, e_notN, e_lenS, e_lenL, e_lenT, e_max2, e_min2, e_tupL, e_tupT, e_lstL, e_lstT, e_slS, e_slL, e_slT, e_int1I, e_absI, e_seqL, e_seqT, e_seqS, e_rng1, e_rng2, e_enumL, e_enumAL, e_enumAT, e_zipL, e_none1, e_none2, e_none3, e_none4, e_none5, e_none6, e_none7, e_keyS, e_keyI, e_at0, e_put0, e_at1, e_put1, e_at2, e_put2, e_at3, e_put3, e_at4, e_put4, e_at5, e_put5, e_at6, e_put6, e_at7, e_put7, e_at8, e_put8, e_at9, e_put9, e_at10, e_put10, e_at11, e_put11, e_at12, e_put12, e_at13, e_put13, e_at14, e_put14, e_at15, e_put15, e_at16, e_put16, e_at17, e_put17, e_at18, e_put18, e_at19, e_put19, e_at20, e_put20, e_at21, e_put21, e_at22, e_put22, e_at23, e_put23, e_at24, e_put24, e_at25, e_put25, e_at26, e_put26, e_at27, e_put27, e_at28, e_put28, e_at29, e_put29, e_wipe0, e_wipe1, e_isi_int_none, e_isi_int_bool, e_isi_int_int, e_isi_int_str, e_isi_int_list, e_isi_int_tuple, e_isi_int_dict, e_isi_bool_none, e_isi_bool_bool, e_isi_bool_int, e_isi_bool_str, e_isi_bool_list, e_isi_bool_tuple, e_isi_bool_dict, e_isi_str_none, e_isi_str_bool, e_isi_str_int, e_isi_str_str, e_isi_str_list, e_isi_str_tuple, e_isi_str_dict, e_isi_list_none, e_isi_list_bool, e_isi_list_int, e_isi_list_str, e_isi_list_list, e_isi_list_tuple, e_isi_list_dict, e_isi_tuple_none, e_isi_tuple_bool, e_isi_tuple_int, e_isi_tuple_str, e_isi_tuple_list, e_isi_tuple_tuple, e_isi_tuple_dict, e_isi_dict_none, e_isi_dict_bool, e_isi_dict_int, e_isi_dict_str, e_isi_dict_list, e_isi_dict_tuple, e_isi_dict_dict, Bool.not_true, Bool.not_false, Bool.or_true, Bool.or_false, Bool.true_or, Bool.false_or]
    have hbad : rowPair p = false → q (.bool false) := fun e => by
      have := hk false (by rw [List.all_cons, e]; rfl)
      rw [← this] at h
      exact h
    refine seq_mk fun N3 hN3 => ?_
    cases p <;> first | (walk_at "dw"; exact hbad rfl) | (have := hpd _ List.mem_cons_self; cases this; done) | skip
    rename_i ps
    walk_at "dw"
    refine fun hlen => i_neI ?_
    walk_at "dw"
    refine br_of (fun e => hbad ?_) fun e => ?_
    · match ps, e with
      | [a, b], e => simp at e
      | [], _ => rfl
      | [_], _ => rw [rowPair_eq]; rfl
      | _ :: _ :: _ :: _, _ => rw [rowPair_eq]; rfl
    have h2 : ps.length = 2 := by
      have := of_decide_eq_true (by simpa using e : decide (((ps.length : Nat) : Int) = 2) = true)
      omega
    match ps, h2 with
    | [a, bb], _ =>
      have hpa := pd_pair (hpd _ List.mem_cons_self)
      refine i_ixT (d := a) atI_zero ?_
      cases a <;> first | (walk_at "dw"; exact hbad rfl) | (have := hpa.1; cases this; done) | skip
      rename_i y _
      walk_at "dw"
      refine i_ixT (d := .str y) atI_zero ?_
      walk_at "dw"
      refine fun hy => ?_
      have hname : rowPair (.tuple [.str y, bb]) = (nameOk y && isNum bb) := by
        rw [rowPair_eq]
        rfl
      have hnm := nameOk_eq y
      have finish : (1 ≤ y.length ∧ y.length ≤ 6) → N3 [some (.sh (.tuple (xs.map id))), some (.sh (.tuple [.str y, bb])), s2] b := fun hyl => by
        refine hN3 _ _ ?_
        clear hN3
        refine seq_mk fun N3 hN3 => ?_
        walk_at "dw"
        refine i_ixT (d := .str y) atI_zero ?_
        walk_at "dw"
        have es : signs y = y.cps.toList.map fun c => Dt.str ⟨#[c]⟩ := rfl
        rw [es]
        refine lcW_fmT (fun c => Dt.str ⟨#[c]⟩) (fun c => if letterS c = true then none else some (Dt.str ⟨#[c]⟩)) (fun c hc b3 yes no hyn => ?_) ?_
        · simp only [e_var, e_varB, e_c, e_op, e_un, e_isB, e_test, e_not, e_and, e_or, e_yes, e_notV, e_andV, e_orV, e_if, e_chain, e_nil, e_cons, e_cb, e_tup, e_lst, e_d0, e_lc, e_dget, e_dget1, e_dget2, e_isi, e_isi2, e_m0, e_call, e_call0, e_callS, e_callS0, e_draw, e_sl, e_noPart, e_part, e_join, e_sortIt, e_upper, e_sset, e_lset, e_errP, e_errJ, e_isE, e_fld, e_err, e_kw, e_noOw0, e_noOwO, e_noOwS, e_noOwT, e_noOwC, e_noOwN, e_wpNil, e_wpCons, e_disp, e_disp1, e_inS, e_notInS, e_lenSc, e_iSeq, e_iR1, e_iR2, e_iEnum, e_iEnumA, e_iZip, e_gName, e_gNil, e_gCons, e_gTup1, e_gLst1, e_gTup2, e_gLst2, e_gTup3, e_gLst3, e_gTup4, e_gLst4, e_gTup5, e_gLst5, e_next, e_ret, e_retN, e_ifS, e_drop, e_break, e_cont, e_asg, e_asgN, e_frz, e_mNil, e_mSh, e_mOw, e_parM2, e_parE2, e_parM3, e_parE3, e_parM4, e_parE4, e_append, e_for, e_dput, e_setL, e_raiseP, e_raiseF, e_br1, e_br0, e_addI, e_subI, e_addS, e_addL, e_addT, e_mulI, e_modI, e_fdivI, e_powI, e_revL, e_revT, e_negI, e_ltI, e_ltS, e_leI, e_leS, e_gtI, e_gtS, e_geI, e_geS, e_isN, e_notN, e_lenS, e_lenL, e_lenT, e_max2, e_min2, e_tupL, e_tupT, e_lstL, e_lstT, e_slS, e_slL, e_slT, e_int1I, e_absI, e_seqL, e_seqT, e_seqS, e_rng1, e_rng2, e_enumL, e_enumAL, e_enumAT, e_zipL, e_none1, e_none2, e_none3, e_none4, e_none5, e_none6, e_none7, e_keyS, e_keyI, e_at0, e_put0, e_at1, e_put1, e_at2, e_put2, e_at3, e_put3, e_at4, e_put4, e_at5, e_put5, e_at6, e_put6, e_at7, e_put7, e_at8, e_put8, e_at9, e_put9, e_at10, e_put10, e_at11, e_put11, e_at12, e_put12, e_at13, e_put13, e_at14, e_put14, e_at15, e_put15, e_at16, e_put16, e_at17, e_put17, e_at18, e_put18, e_at19, e_put19, e_at20, e_put20, e_at21, e_put21, e_at22, e_put22, e_at23, e_put23, e_at24, e_put24, e_at25, e_put25, e_at26, e_put26, e_at27, e_put27, e_at28, e_put28, e_at29, e_put29, e_wipe0, e_wipe1, e_isi_int_none, e_isi_int_bool, e_isi_int_int, e_isi_int_str, e_isi_int_list, e_isi_int_tuple, e_isi_int_dict, e_isi_bool_none, e_isi_bool_bool, e_isi_bool_int, e_isi_bool_str, e_isi_bool_list, e_isi_bool_tuple, e_isi_bool_dict, e_isi_str_none, e_isi_str_bool, e_isi_str_int, e_isi_str_str, e_isi_str_list, e_isi_str_tuple, e_isi_str_dict, e_isi_list_none, e_isi_list_bool, e_isi_list_int, e_isi_list_str, e_isi_list_list, e_isi_list_tuple, e_isi_list_dict, e_isi_tuple_none, e_isi_tuple_bool, e_isi_tuple_int, e_isi_tuple_str, e_isi_tuple_list, e_isi_tuple_tuple, e_isi_tuple_dict, e_isi_dict_none, e_isi_dict_bool, e_isi_dict_int, e_isi_dict_str, e_isi_dict_list, e_isi_dict_tuple, e_isi_dict_dict, Bool.not_true, Bool.not_false, Bool.or_true, Bool.or_false, Bool.true_or, Bool.false_or, memS_eq]
          cases hcl : letterS c with
          | true =>
            rw [hcl] at hyn
            exact hyn
          | false =>
            rw [hcl] at hyn
            exact hyn
        · refine i_neNil (pl_strs fun d hd => ?_) ?_
          · obtain ⟨c, _, hc⟩ := List.mem_filterMap.mp hd
            split at hc
            · cases hc
            · cases hc
              exact ⟨_, rfl⟩
          walk_at "dw"
          refine br_of (fun e => hbad ?_) fun e => hN3 _ _ ?_
          · rw [Bool.not_eq_true', decide_eq_false_iff_not, letters_not] at e
            rw [hname, hnm]
            rw [Bool.not_eq_true] at e
            rw [e, Bool.and_false]
            rfl
          · rw [Bool.not_eq_false', decide_eq_true_iff, letters_not] at e
            have hny : nameOk y = true := by
              rw [hnm, e, decide_eq_true hyl.1, decide_eq_true hyl.2]
              rfl
            walk_at "dw"
            refine i_ixT (d := bb) (atI_ofNat (j := 1) rfl) ?_
            cases bb <;> first | (walk_at "dw"; exact hbad (by rw [hname, hny]; rfl)) | (have := hpa.2; cases this; done) | skip
            · walk_at "dw"
              refine i_ixT (d := .int _) (atI_ofNat (j := 1) rfl) ?_
              walk_at "dw"
              exact hN2 _ _ ⟨fun d hd => hpd d (List.mem_cons_of_mem _ hd), fun k e => hk k (by rw [List.all_cons, hname, hny, e]; rfl), _, _, rfl⟩
      by_cases h1 : (1 : Int) ≤ ((y.length : Nat) : Int)
      · rw [decide_eq_true h1]
        walk_at "dw"
        by_cases h6 : ((y.length : Nat) : Int) ≤ 6
        · rw [decide_eq_true h6]
          walk_at "dw"
          exact finish ⟨by omega, by omega⟩
        · rw [decide_eq_false h6]
          walk_at "dw"
          refine hbad ?_
          rw [hname, hnm, decide_eq_false (show ¬ y.length ≤ 6 by omega), Bool.and_false]
          rfl
      · rw [decide_eq_false h1]
        walk_at "dw"
        refine hbad ?_
        rw [hname, hnm, decide_eq_false (show ¬ 1 ≤ y.length by omega)]
        rfl
/-- None as 0 -/
def fillT (d : Dt) : Dt := .tuple [fstT d, if isNone (sndT d) = true then .int 0 else sndT d]
theorem isLimit_fill {xs : List Dt} (h : xs.all isPair = true) : isPlan (.tuple (xs.map fillT)) = isLimit (.tuple xs) := by
  have hp : ∀ d ∈ xs, ∃ a b, d = .tuple [a, b] := fun d hd => pair_ofT (List.all_eq_true.mp h d hd)
  have e1 : isPlan (.tuple (xs.map fillT)) = (((xs.map fillT).all isPair && (((xs.map fillT).map fstT).all isName && ascS (((xs.map fillT).map fstT).map strT))) && ((xs.map fillT).map sndT).all isNum) := rfl
  have e2 : isLimit (.tuple xs) = ((xs.all isPair && ((xs.map fstT).all isName && ascS ((xs.map fstT).map strT))) && (xs.map sndT).all isEnd) := rfl
  have f1 : (xs.map fillT).map fstT = xs.map fstT := by rw [List.map_map]; rfl
  have f2 : (xs.map fillT).all isPair = true := by rw [List.all_map]; exact List.all_eq_true.mpr fun _ _ => rfl
  have f3 : ((xs.map fillT).map sndT).all isNum = (xs.map sndT).all isEnd := by
    rw [List.map_map, List.all_map, List.all_map]
    clear e1 e2 f1 f2 h
    induction xs with
    | nil => rfl
    | cons d xs ih =>
      rw [List.all_cons, List.all_cons, ih fun x hx => hp x (List.mem_cons_of_mem _ hx)]
      obtain ⟨a, b, rfl⟩ := hp d List.mem_cons_self
      cases b <;> rfl
  rw [e1, e2, f1, f2, f3, h]
theorem w_is_boundL {d : Dt} {q qx} (hd : d.pd = true) (hl : (itemsT d).length < 4000) (h : q (.bool (isLimit d))) : W__law_is_bound [d] q qx := by
  rw [u__law_is_bound]
  unfold B__law_is_bound
  refine seq_mk fun N hN => ?_
  cases d <;> first | (walk_at "dw"; exact h) | cases hd | skip
  rename_i xs
  have hp : pdAll xs = true := by simpa only [Dt.pd] using hd
  have hl : xs.length < 4000 := hl
  walk_at "dw"
  refine lcW_fm (fun d => if isPair d = true then none else some (.int 1)) (fun d hd b yes no hy => ?_) ?_
  · have hpd := pdAll_mem hp hd
    walk_at "dw"
    cases d <;> first | (walk_at "dw"; exact hy) | (cases hpd; done) | skip
    rename_i ps
    walk_at "dw"
    refine fun _ => i_neI ?_
    walk_at "dw"
    match ps, hy with
    | [_, _], hy => exact hy
    | [], hy => exact hy
    | [_], hy => exact hy
    | a :: a2 :: a3 :: ps, hy =>
      have e : (!decide ((((a :: a2 :: a3 :: ps).length : Nat) : Int) = 2)) = true := by
        rw [decide_eq_false (by simp only [List.length_cons]; omega)]
        rfl
      rw [e]
      exact hy
  have ea : (xs.filterMap fun d => if isPair d = true then none else some (Dt.int 1)) = [] ↔ xs.all isPair = true := by
    rw [List.filterMap_eq_nil_iff, List.all_eq_true]
    refine ⟨fun h d hd => ?_, fun h d hd => by rw [if_pos (h d hd)]⟩
    by_cases e : isPair d = true
    · exact e
    · have := h d hd
      rw [if_neg e] at this
      cases this
  refine i_neNil (pl_ints fun d hd => ?_) ?_
  · obtain ⟨c, _, hc⟩ := List.mem_filterMap.mp hd
    split at hc
    · cases hc
    · cases hc
      exact ⟨_, rfl⟩
  walk_at "dw"
  refine br_of (fun e => ?_) fun e => hN _ _ ?_
  · rw [Bool.not_eq_true', decide_eq_false_iff_not, ea] at e
    have e2 : isLimit (.tuple xs) = false := by
      show ((xs.all isPair && _) && _) = false
      rw [Bool.not_eq_true] at e
      rw [e]
      rfl
    rw [e2] at h
    exact h
  · rw [Bool.not_eq_false', decide_eq_true_iff, ea] at e
    walk_at "dw"
    refine lcW_map fillT (fun d hd b yes hy => ?_) ?_
    · obtain ⟨a, b', rfl⟩ := pair_ofT (List.all_eq_true.mp e d hd)
      have hb := (pd_pair (pdAll_mem hp hd)).2
      walk_at "dw"
      refine i_ixT (d := a) atI_zero (i_ixT (d := b') (atI_ofNat (j := 1) rfl) ?_)
      cases b' <;> first | exact hy | cases hb
    · refine w_is_row ?_ (by show (xs.map fillT).length < 4000; rw [List.length_map]; exact hl) (by rw [isLimit_fill e]; exact h)
      unfold Dt.pd
      refine pdAll_of fun d hd => ?_
      obtain ⟨x, hx, rfl⟩ := List.mem_map.mp hd
      obtain ⟨a, b', rfl⟩ := pair_ofT (List.all_eq_true.mp e x hx)
      obtain ⟨h1, h2⟩ := pd_pair (pdAll_mem hp hx)
      show pdAll [a, _] = true
      unfold pdAll
      rw [h1]
      show (pdAll [if isNone b' = true then Dt.int 0 else b']) = true
      split
      · rfl
      · unfold pdAll
        rw [h2]
        rfl
theorem w_odd {b : Nat} {q qx} (hb : 1 ≤ b) (h : ∀ d b', d.pd = true → (itemsT d).length ≤ 2 → b ≤ b' + 1 → q d b') : W__law_odd [] b q qx := by
  rw [u__law_odd]
  unfold B__law_odd
  refine seq_mk fun N hN => ?_
  walk_at "dw"
  refine hN _ _ ?_
  clear hN
  refine seq_mk fun N hN => ?_
  walk_at "dw"
  refine And.intro (by decide) (hN _ _ ?_)
  clear hN
  walk_at "dw"
  refine And.intro (by decide) ?_
  refine w_pickL (by decide) (by decide) hb fun d hd b' hb' => ?_
  have key : d.pd = true ∧ (itemsT d).length ≤ 2 := by
    revert d
    refine List.forall_mem_append.mpr ⟨List.forall_mem_append.mpr ⟨?_, ?_⟩, ?_⟩
    all_goals simp only [List.forall_mem_cons]
    all_goals decide
  exact h d b' key.1 key.2 hb'
/-! ### what is shown of plans -/
theorem nameOk_chars {x : Str} (h : nameOk x = true) : ∀ c ∈ x.cps.toList, c < 4294967296 := fun c hc => by
  rw [nameOk_eq, Bool.and_eq_true] at h
  have h1 := List.contains_iff_mem.mp (List.all_eq_true.mp h.2 c hc)
  have key : (lettersS.cps.toList.all fun c => decide (c < 4294967296)) = true := by decide +kernel
  exact of_decide_eq_true (List.all_eq_true.mp key c h1)
/-- numbers that can be shown -/
def Fits (ps : Plan) : Prop := ∀ p ∈ ps, p.2.natAbs < 10 ^ 19
theorem Near.fits {ps : Plan} (h : Near ps) : Fits ps := fun p hp => by
  have := h p hp
  have e : (10 : Nat) ^ 19 = 10000000000000000000 := by decide
  omega
theorem rp_plan {ps : Plan} {n : Nat} (g : GoodN ps) (f : Fits ps) (hl : ps.length ≤ n) : Rp 2 (n * 131) (planT ps) := by
  refine rp_tuple (k := 1) (W := 130) (fun d hd => ?_) (by rw [List.length_map]; exact hl)
  obtain ⟨p, hp, rfl⟩ := List.mem_map.mp hd
  refine rp_tuple (k := 0) (W := 64) (n := 2) (fun d hd => ?_) (Nat.le_refl _)
  simp only [List.mem_cons, List.not_mem_nil, or_false] at hd
  rcases hd with rfl | rfl
  · exact rp_str (by have := nameOk_len (g.ok p hp); omega) (nameOk_chars (g.ok p hp))
  · exact rp_int (f p hp)
theorem rp_plans {pss : List Plan} {n m : Nat} (g : ∀ ps ∈ pss, GoodN ps ∧ Fits ps ∧ ps.length ≤ n) (hl : pss.length ≤ m) : Rp 3 (m * (n * 131 + 1)) (.list (pss.map planT)) :=
  rp_list (fun d hd => by
    obtain ⟨p, hp, rfl⟩ := List.mem_map.mp hd
    exact rp_plan (g p hp).1 (g p hp).2.1 (g p hp).2.2) (by rw [List.length_map]; exact hl)
theorem rp_bools {bs : List Bool} {n : Nat} (h : bs.length ≤ n) : Rp 1 n (.list (bs.map .bool)) := (rp_list (k := 0) (W := 0) (n := n) (fun d hd => by
  obtain ⟨b, _, rfl⟩ := List.mem_map.mp hd
  exact rp_bool) (by rw [List.length_map]; exact h)).mono (Nat.le_refl _) (by omega)
theorem fits_put {acc : Plan} {x : Str} {v : Int} (h : Fits acc) (hv : v.natAbs < 10 ^ 19) : Fits (putQ acc x v) := fun p hp => by
  unfold putQ at hp
  split at hp
  · obtain ⟨r, hr, rfl⟩ := List.mem_map.mp hp
    split
    · exact hv
    · exact h r hr
  · rcases List.mem_append.mp hp with hp | hp
    · exact h p hp
    · rw [List.mem_singleton.mp hp]
      exact hv
theorem fits_step {acc : Plan} {p : Str × Int} (h : Fits acc) (hp : p.2.natAbs < 10 ^ 19) : Fits (Cn.step acc p) := by
  refine fits_put h ?_
  unfold mx
  split
  · cases e : lk acc p.1 with
    | none => exact hp
    | some v => exact h _ (lk_some e)
  · exact hp
theorem fits_steps : ∀ {ps acc : Plan}, Fits acc → Fits ps → Fits (steps acc ps)
  | [], _, h, _ => h
  | p :: ps, acc, h, k => fits_steps (ps := ps) (fits_step h (k p List.mem_cons_self)) fun r hr => k r (List.mem_cons_of_mem _ hr)
theorem fits_joins : ∀ {pss : List Plan} {acc : Plan}, Fits acc → (∀ ps ∈ pss, Fits ps) → Fits (pss.foldl steps acc)
  | [], _, h, _ => h
  | ps :: pss, acc, h, k => fits_joins (pss := pss) (fits_steps h (k ps List.mem_cons_self)) fun r hr => k r (List.mem_cons_of_mem _ hr)
theorem fits_joinM {pss : List Plan} (k : ∀ ps ∈ pss, Fits ps) : Fits (joinM pss) := fun p hp => fits_joins (acc := []) (fun _ h => absurd h List.not_mem_nil) k p ((List.mergeSort_perm _ _).mem_iff.mp hp)
theorem total_le {n : Nat} : ∀ {pss : List Plan}, (∀ ps ∈ pss, ps.length ≤ n) → total pss ≤ pss.length * n
  | [], _ => Nat.zero_le _
  | ps :: pss, h => by
    have h1 := h ps List.mem_cons_self
    have h2 := total_le fun r hr => h r (List.mem_cons_of_mem ps hr)
    show ps.length + total pss ≤ _
    rw [List.length_cons, Nat.add_mul]
    omega
theorem names_steps : ∀ {ps acc : Plan}, NamesOk acc → (∀ p ∈ ps, nameOk p.1 = true) → NamesOk (steps acc ps)
  | [], _, h, _ => h
  | p :: ps, acc, h, k => names_steps (ps := ps) (h.put (k p List.mem_cons_self)) fun r hr => k r (List.mem_cons_of_mem _ hr)
theorem names_joins : ∀ {pss : List Plan} {acc : Plan}, NamesOk acc → (∀ ps ∈ pss, GoodN ps) → NamesOk (pss.foldl steps acc)
  | [], _, h, _ => h
  | ps :: pss, acc, h, k => names_joins (pss := pss) (names_steps h (k ps List.mem_cons_self).ok) fun r hr => k r (List.mem_cons_of_mem _ hr)
theorem joinM_good' {pss : List Plan} (k : ∀ ps ∈ pss, GoodN ps) : GoodN (joinM pss) := joinM_good (names_joins (acc := []) (fun _ h => absurd h List.not_mem_nil) k)
/-! ### moment_of -/
theorem w_moment_of {d n : Dt} {q qx} (hd : d.pd = true) (hn : n.pd = true) (h1 : isPlan d = false → qx ⟨"BadPlan", []⟩) (h2 : isPlan d = true → isName n = false → qx ⟨"BadThing", [("thing", n)]⟩)
    (h3 : ∀ ps x, d = planT ps → GoodN ps → n = .str x → nameOk x = true → q (optT (lk ps x))) : W_moment_of [d, n] q qx := by
  rw [u_moment_of]
  unfold B_moment_of
  refine seq_mk fun N hN => ?_
  walk_at "dw"
  refine w_is_plan hd ?_
  walk_at "dw"
  refine br_of (fun e => h1 (by simpa using e)) fun e => hN _ _ ?_
  clear hN
  have e1 : isPlan d = true := by simpa using e
  refine seq_mk fun N hN => ?_
  walk_at "dw"
  refine w_is_name hn ?_
  walk_at "dw"
  refine br_of (fun e => h2 e1 (by simpa using e)) fun e => hN _ _ ?_
  have e2 : isName n = true := by simpa using e
  obtain ⟨ps, rfl, g⟩ := plan_of e1
  have h3 := h3 ps (strT n) rfl g (str_ofT e2) (by rw [str_ofT e2] at e2; exact e2)
  rw [str_ofT e2]
  walk_at "dw"
  have epl : planT ps = limT (lim ps) := (planT_lim ps).symm
  refine i_dict (d := planT ps) (ds := (lim ps).map lrT) (by rw [epl]; rfl) (pairs_lim (lim ps)) ?_
  rw [dict_lim g.lim]
  have ev : (kvGet (kvL (lim ps)) (Sum.inr (strT n))).getD .none = optT (lk ps (strT n)) := by
    rw [kvL_get, lk_lim]
    cases lk ps (strT n) <;> rfl
  show q ((kvGet (kvL (lim ps)) (Sum.inr (strT n))).getD .none)
  rw [ev]
  exact h3
/-! ### bent rows -/
mutual
/-- small whole numbers throughout -/
def Dt.sm : Dt → Bool
  | .int i => decide (i.natAbs < 10000000000000000000)
  | .list xs => smAll xs
  | .tuple xs => smAll xs
  | _ => true
def smAll : List Dt → Bool
  | [] => true
  | x :: xs => x.sm && smAll xs
end
theorem smAll_mem : ∀ {xs : List Dt} {d : Dt}, smAll xs = true → d ∈ xs → d.sm = true
  | x :: xs, d, h, m => by
    unfold smAll at h
    obtain ⟨h1, h2⟩ := Bool.and_eq_true_iff.mp h
    rcases List.mem_cons.mp m with rfl | m
    · exact h1
    · exact smAll_mem h2 m
theorem smAll_of : ∀ {xs : List Dt}, (∀ d ∈ xs, d.sm = true) → smAll xs = true
  | [], _ => rfl
  | x :: xs, h => by
    unfold smAll
    rw [h x List.mem_cons_self, smAll_of fun d hd => h d (List.mem_cons_of_mem _ hd)]
    rfl
/-- an item that may be judged -/
structure Itm (d : Dt) : Prop where
  pd : d.pd = true
  sm : d.sm = true
  few : (itemsT d).length ≤ 100
theorem itm_tuple {xs : List Dt} (h : ∀ d ∈ xs, d.pd = true ∧ d.sm = true) (hl : xs.length ≤ 100) : Itm (.tuple xs) := ⟨pdAll_of fun d hd => (h d hd).1, smAll_of fun d hd => (h d hd).2, hl⟩
theorem itm_list {xs : List Dt} (h : ∀ d ∈ xs, d.pd = true ∧ d.sm = true) : Itm (.list xs) := ⟨pdAll_of fun d hd => (h d hd).1, smAll_of fun d hd => (h d hd).2, Nat.zero_le _⟩
theorem itm_fits {ps : Plan} (h : (planT ps).sm = true) : Fits ps := fun p hp => by
  have h1 : smAll (ps.map prT) = true := h
  have h2 := smAll_mem h1 (List.mem_map.mpr ⟨p, hp, rfl⟩)
  have h3 : smAll [.str p.1, .int p.2] = true := h2
  have h4 := smAll_mem h3 (d := .int p.2) (by simp)
  have h5 : decide (p.2.natAbs < 10000000000000000000) = true := h4
  exact of_decide_eq_true h5
theorem lr_ok {l : Lim} (h : NearL l) : ∀ d ∈ l.map lrT, d.pd = true ∧ d.sm = true := fun d hd => by
  obtain ⟨⟨x, e⟩, hp, rfl⟩ := List.mem_map.mp hd
  cases e with
  | none => exact ⟨rfl, rfl⟩
  | some v =>
    have := h _ hp v rfl
    refine ⟨rfl, ?_⟩
    show smAll [.str x, .int v] = true
    refine smAll_of fun d hd => ?_
    simp only [List.mem_cons, List.not_mem_nil, or_false] at hd
    rcases hd with rfl | rfl
    · rfl
    · exact decide_eq_true (by omega)
theorem w_odd2 {b : Nat} {q qx} (hb : 1 ≤ b) (h : ∀ d b', Itm d → b ≤ b' + 1 → q d b') : W__law_odd [] b q qx := by
  rw [u__law_odd]
  unfold B__law_odd
  refine seq_mk fun N hN => ?_
  walk_at "dw"
  refine hN _ _ ?_
  clear hN
  refine seq_mk fun N hN => ?_
  walk_at "dw"
  refine And.intro (by decide) (hN _ _ ?_)
  clear hN
  walk_at "dw"
  refine And.intro (by decide) ?_
  refine w_pickL (by decide) (by decide) hb fun d hd b' hb' => ?_
  have key : d.pd = true ∧ d.sm = true ∧ (itemsT d).length ≤ 2 := by
    revert d
    refine List.forall_mem_append.mpr ⟨List.forall_mem_append.mpr ⟨?_, ?_⟩, ?_⟩
    all_goals simp only [List.forall_mem_cons]
    all_goals decide
  exact h d b' ⟨key.1, key.2.1, by have := key.2.2; omega⟩ hb'
theorem cutD_sub {xs : List Dt} {lo hi : Option Int} {d : Dt} (h : d ∈ cutD xs lo hi) : d ∈ xs := List.mem_of_mem_drop (List.mem_of_mem_take h)
theorem w_bent {l : Lim} {b : Nat} {q qx} (g : GoodN l) (nr : NearL l) (hl : l.length ≤ 10) (hb : 3 ≤ b) (h : ∀ d b', Itm d → b ≤ b' + 3 → q d b') : W__law_bent [limT l] b q qx := by
  rw [u__law_bent]
  unfold B__law_bent
  refine seq_mk fun N hN => ?_
  have et : limT l = .tuple (l.map lrT) := rfl
  have ok := lr_ok nr
  walk_at "dw"
  rw [et]
  walk_at "dw"
  rw [← et]
  refine i_neLim (a := l) (b := []) ?_
  walk_at "dw"
  have key : ∀ (sp : Nat) (b1 : Nat), b ≤ b1 + 1 → (l ≠ [] → sp < l.length) → N [some .st, some (.sh (limT l)), some (.ow (.list (l.map lrT))), some (.sh (.int sp)), none, none, none] b1 := by
    intro sp b1 hb1 hsp
    refine hN _ _ ?_
    clear hN
    refine seq_mk fun N hN => ?_
    walk_at "dw"
    refine i_draw (by decide) (by decide) (by omega) fun w w0 w1 => hN _ _ ?_
    clear hN
    refine seq_keep (fun N1 hN => ?_) ?_
    · walk_at "dw"
      refine i_eqI ?_
      walk_at "dw"
      exact br_of (fun _ => h _ _ (itm_list ok) (by omega)) fun _ => hN
    by_cases e0 : l = []
    · refine seq_mk fun N hN => ?_
      walk_at "dw"
      refine i_eqLim (a := l) (b := []) ?_
      rw [decide_eq_true e0]
      walk_at "dw"
      exact w_odd2 (by omega) fun d b' hd hb' => h d b' hd (by omega)
    have hsp := hsp e0
    refine seq_keep (fun N1 hN => ?_) ?_
    · walk_at "dw"
      refine i_eqLim (a := l) (b := []) ?_
      rw [decide_eq_false e0]
      walk_at "dw"
      refine i_eqI ?_
      walk_at "dw"
      exact br_of (fun _ => w_odd2 (by omega) fun d b' hd hb' => h d b' hd (by omega)) fun _ => hN
    refine seq_keep (fun N1 hN => ?_) ?_
    · walk_at "dw"
      refine i_eqI ?_
      walk_at "dw"
      refine br_of (fun _ => ?_) fun _ => hN
      rw [et]
      walk_at "dw"
      exact h _ _ (itm_tuple (fun d hd => ok d (List.mem_reverse.mp hd)) (by rw [List.length_reverse, List.length_map]; omega)) (by omega)
    refine seq_keep (fun N1 hN => ?_) ?_
    · walk_at "dw"
      refine i_eqI ?_
      walk_at "dw"
      refine br_of (fun _ => ?_) fun _ => hN
      rw [et]
      walk_at "dw"
      have hc : (cutD (l.map lrT) (some (sp : Int)) (some ((sp : Int) + 1))).length ≤ l.length := by
        have := cutD_len (l.map lrT) (some (sp : Int)) (some ((sp : Int) + 1))
        rwa [List.length_map] at this
      refine And.intro (by rw [List.length_map]; omega) (h _ _ (itm_tuple (fun d hd => ?_) (by rw [List.length_append, List.length_map]; omega)) (by omega))
      rcases List.mem_append.mp hd with hd | hd
      · exact ok d hd
      · exact ok d (cutD_sub hd)
    -- one of the pairs is another
    obtain ⟨⟨wd, e⟩, hp⟩ : ∃ p, l[sp]? = some p := ⟨_, List.getElem?_eq_getElem hsp⟩
    have hpm : (wd, e) ∈ l := List.mem_of_getElem? hp
    have hat : (l.map lrT)[sp]? = some (.tuple [.str wd, optT e]) := by
      rw [List.getElem?_map, hp]
      rfl
    have hwl : wd.length ≤ 6 := nameOk_len (g.ok _ hpm)
    refine seq_mk fun N hN => ?_
    walk_at "dw"
    refine i_ixL (atI_ofNat hat) ?_
    walk_at "dw"
    refine hN _ _ ?_
    clear hN
    refine seq_mk fun N hN => ?_
    walk_at "dw"
    refine And.intro (by omega) (And.intro (by show wd.length + 1 ≤ 100000; omega) ?_)
    refine w_pickL (Nat.zero_lt_succ _) (by simp only [List.length_cons, List.length_nil]; omega) (by omega) fun d hd b2 hb2 => ?_
    have he : (optT e).pd = true ∧ (optT e).sm = true := by
      cases e with
      | none => exact ⟨rfl, rfl⟩
      | some v =>
        have := nr _ hpm v rfl
        exact ⟨rfl, decide_eq_true (by show v.natAbs < _; omega)⟩
    have two : ∀ a c : Dt, a.pd = true ∧ a.sm = true → c.pd = true ∧ c.sm = true → ((Dt.tuple [a, c]).pd = true ∧ (Dt.tuple [a, c]).sm = true) ∧ (Dt.list [a, c]).pd = true ∧ (Dt.list [a, c]).sm = true := fun a c ha hc => by
      have h1 : pdAll [a, c] = true := pdAll_of fun d hd => by
        simp only [List.mem_cons, List.not_mem_nil, or_false] at hd
        rcases hd with rfl | rfl
        · exact ha.1
        · exact hc.1
      have h2 : smAll [a, c] = true := smAll_of fun d hd => by
        simp only [List.mem_cons, List.not_mem_nil, or_false] at hd
        rcases hd with rfl | rfl
        · exact ha.2
        · exact hc.2
      exact ⟨⟨h1, h2⟩, h1, h2⟩
    have hd2 : d.pd = true ∧ d.sm = true := by
      simp only [List.mem_cons, List.not_mem_nil, or_false] at hd
      rcases hd with rfl | rfl | rfl | rfl | rfl | rfl
      · exact (two _ _ ⟨rfl, rfl⟩ ⟨rfl, rfl⟩).1
      · exact (two _ _ ⟨rfl, rfl⟩ he).1
      · exact (two _ _ ⟨rfl, rfl⟩ he).1
      · exact (two _ _ ⟨rfl, rfl⟩ he).2
      · refine ⟨pdAll_of fun d hd => ?_, smAll_of fun d hd => ?_⟩
        all_goals (simp only [List.mem_cons, List.not_mem_nil, or_false] at hd; rcases hd with rfl | rfl | rfl)
        · rfl
        · exact he.1
        · rfl
        · rfl
        · exact he.2
        · rfl
      · exact (two _ _ ⟨rfl, rfl⟩ ⟨rfl, rfl⟩).1
    have hset : setAt (l.map lrT) (sp : Int) d = some ((l.map lrT).set sp d) := by
      unfold setAt
      have : ixN (l.map lrT).length (sp : Int) = some sp := by
        unfold ixN
        rw [List.length_map]
        split <;> simp <;> omega
      rw [this]
      rfl
    unfold setLD
    dsimp only
    rw [hset]
    refine hN _ _ ?_
    clear hN
    walk_at "dw"
    refine h _ _ (itm_tuple (fun x hx => ?_) (by rw [List.length_set, List.length_map]; omega)) (by omega)
    rcases List.mem_or_eq_of_mem_set hx with hx | rfl
    · exact ok x hx
    · exact hd2
  by_cases e0 : l = []
  · rw [decide_eq_true e0]
    walk_at "dw"
    exact key 0 b (by omega) fun h => absurd e0 h
  · rw [decide_eq_false e0]
    walk_at "dw"
    have hpos : 0 < l.length := List.length_pos_iff.mpr e0
    refine fun _ => i_draw (by rw [List.length_map]; omega) (by rw [List.length_map]; omega) (by omega) fun r r0 r1 => ?_
    rw [List.length_map] at r1
    obtain ⟨m, rfl⟩ : ∃ m : Nat, r = (m : Int) := ⟨r.toNat, (Int.toNat_of_nonneg r0).symm⟩
    exact key m _ (by omega) fun _ => by omega
theorem planT_is {d : Dt} (h : isPlan d = true) : ∃ ps, d = planT ps ∧ GoodN ps := plan_of h
theorem near_lim {ps : Plan} (h : Near ps) : NearL (lim ps) := fun l hl m hm => by
  obtain ⟨p, hp, rfl⟩ := List.mem_map.mp hl
  cases hm
  exact h p hp
theorem lk_fits {ps : Plan} (f : Fits ps) (x : Str) : Rp 0 64 (optT (lk ps x)) := by
  cases e : lk ps x with
  | none => exact rp_none
  | some v => exact rp_int (f _ (lk_some e))
theorem law_d : LawD := by
  intro n hn
  unfold B_law
  refine seq_mk fun N hN => ?_
  walk_at "dw"
  refine And.intro (by split <;> omega) ?_
  have hT : (10 + (if (40 : Int) < (n : Int) then (40 : Int) else (n : Int))).toNat ≤ 50 := by split <;> omega
  generalize (10 + (if (40 : Int) < (n : Int) then (40 : Int) else (n : Int))).toNat = T at hT ⊢
  rw [natD_map]
  refine forW_ind (fun (i : Nat) => Dt.int (i : Int)) (fun rest ρ b => 500 * rest.length ≤ b ∧ ∃ s2 s3 s4 s5 s6 s7 s9 s10 s11, ∃ t8 : Option Dt, ρ = [some (.sc n), some .st, s2, s3, s4, s5, s6, s7, t8.map .sh, s9, s10, s11])
    (fun ρ b i => ?_) (fun x rest ρ b i N2 hN2 => ?_) ⟨by rw [List.length_range]; omega, _, _, _, _, _, _, _, _, _, none, rfl⟩
  · obtain ⟨_, s2, s3, s4, s5, s6, s7, s9, s10, s11, t8, rfl⟩ := i
    refine hN _ _ ?_
    walk_at "dw"
  · obtain ⟨hb, s2, s3, s4, s5, s6, s7, s9, s10, s11, t8, rfl⟩ := i
    rw [List.length_cons] at hb
    walk_at "dw"
    clear hN
    -- words
    refine seq_mk fun N1 hN => ?_
    walk_at "dw"
    refine i_draw (by decide) (by decide) (by omega) fun r r0 r1 => ?_
    obtain ⟨m, rfl⟩ : ∃ m : Nat, r = (m : Int) := ⟨r.toNat, (Int.toNat_of_nonneg r0).symm⟩
    walk_at "dw"
    rw [show 1 + (m : Int) = ((1 + m : Nat) : Int) by omega]
    refine w_words (by omega) (by omega) fun ws b1 W hl hb1 => hN _ _ ?_
    clear hN
    have hws : ws.length ≤ 6 := by omega
    -- the row
    refine seq_mk fun N1 hN => ?_
    walk_at "dw"
    refine w_row (by decide) (by decide) (by omega) (by omega) fun ps b2 rps nps hb2 => w_bound (by decide) (by decide) (by omega) (by omega) fun ls b3 rls nls hb3 => ?_
    refine w_pickL (Nat.zero_lt_succ _) (by simp only [List.length_cons, List.length_nil]; omega) (by omega) fun d hd b4 hb4 => ?_
    obtain ⟨l, rfl, gl, nl, ll⟩ : ∃ l : Lim, d = limT l ∧ GoodN l ∧ NearL l ∧ l.length ≤ 6 := by
      simp only [List.mem_cons, List.not_mem_nil, or_false] at hd
      rcases hd with rfl | rfl
      · exact ⟨lim ps, (planT_lim ps).symm, (rps.good W).lim, near_lim nps, by unfold lim; rw [List.length_map]; exact Nat.le_trans rps.len hws⟩
      · exact ⟨ls, rfl, rls.good W, nls, Nat.le_trans rls.len hws⟩
    refine hN _ _ ?_
    clear hN
    -- the item
    refine seq_mk fun N1 hN => ?_
    have key : ∀ d b5, Itm d → b4 ≤ b5 + 10 → N1 [some (.sc n), some .st, some (.sh (.int x)), some (.sh (.list (ws.map .str))), some (.sh (limT l)), some (.sh d), s6, s7, t8.map .sh, s9, s10, s11] b5 := by
      intro d b5 hd hb5
      refine hN _ _ ?_
      clear hN
      -- what is due
      refine seq_mk fun N1 hN => ?_
      walk_at "dw"
      have hfew := hd.few
      refine w_is_row hd.pd (by omega) (w_is_boundL hd.pd (by omega) (hN _ _ ?_))
      clear hN
      have rb : ∀ a b : Bool, Rp 1 2 (.list [.bool a, .bool b]) := fun a b => rp_bools (bs := [a, b]) (Nat.le_refl _)
      refine seq_keep (fun N1 hN => ?_) ?_
      · walk_at "dw"
        refine w_is_plan hd.pd (w_is_limit hd.pd (i_repr (rb _ _) (by decide) (by decide) (i_repr (rb _ _) (by decide) (by decide) (i_neSs ?_))))
        walk_at "dw"
        refine br_f (by simp) ?_
        show W_is_plan [d] _ _
        refine w_is_plan hd.pd ?_
        show W_is_limit [d] _ _
        refine w_is_limit hd.pd (i_repr (rb _ _) (by decide) (by decide) (i_repr (rb _ _) (by decide) (by decide) (i_neSs ?_)))
        walk_at "dw"
        exact br_f (by simp) hN
      -- a name
      refine seq_mk fun N1 hN => ?_
      walk_at "dw"
      refine And.intro (by simp only [List.length_map, List.length_cons, List.length_nil]; omega) ?_
      refine w_pickL (by simp) (by simp only [List.length_append, List.length_map, List.length_cons, List.length_nil]; omega) (by omega) fun nm hnm b6 hb6 => ?_
      obtain ⟨nx, rfl, hnx⟩ : ∃ y, nm = .str y ∧ nameOk y = true := by
        rcases List.mem_append.mp hnm with h | h
        · obtain ⟨y, hy, rfl⟩ := List.mem_map.mp h
          exact ⟨y, rfl, nameOk_of (W.low y hy)⟩
        · rw [List.mem_singleton.mp h]
          exact ⟨_, rfl, by decide +kernel⟩
      refine hN _ _ ?_
      clear hN
      refine seq_mk fun N1 hN => ?_
      walk_at "dw"
      refine i_ixL (d := .bool (isPlan d)) atI_zero ?_
      refine (?go : (∀ s8 : Option Dt, N1 [some (.sc n), some .st, some (.sh (.int x)), some (.sh (.list (ws.map .str))), some (.sh (limT l)), some (.sh d), some (.sh (.list [.bool (isPlan d), .bool (isLimit d)])), some (.sh (.str nx)), s8.map .sh, s9, s10, s11] b6) → _) (fun s8 => hN _ _ ?_)
      case go =>
        intro h8
        cases hpd : isPlan d with
        | false =>
          rw [hpd] at h8
          walk_at "dw"
          exact h8 _
        | true =>
          rw [hpd] at h8
          obtain ⟨ps, rfl, gps⟩ := plan_of hpd
          have fps := itm_fits hd.sm
          walk_at "dw"
          refine seq_mk fun N3 hN3 => ?_
          walk_at "dw"
          have same : ∀ {y : Str} {ps' : Plan}, planT ps = planT ps' → Dt.str nx = .str y → lk ps' y = lk ps nx := fun e1 e2 => by
            cases planT_inj e1
            cases e2
            rfl
          refine w_moment_of hd.pd rfl (fun e => by rw [hpd] at e; cases e) (fun _ e => by rw [show isName (.str nx) = nameOk nx from rfl, hnx] at e; cases e) fun ps1 x1 e1 _ e2 _ => ?_
          rw [same e1 e2]
          show W_moment_of [planT ps, .str nx] _ _
          refine w_moment_of hd.pd rfl (fun e => by rw [hpd] at e; cases e) (fun _ e => by rw [show isName (.str nx) = nameOk nx from rfl, hnx] at e; cases e) fun ps2 x2 e3 _ e4 _ => ?_
          rw [same e3 e4]
          refine hN3 _ _ ?_
          clear hN3
          walk_at "dw"
          have r2 : Rp 1 130 (.list [optT (lk ps nx), optT (lk ps nx)]) := rp_list (k := 0) (W := 64) (n := 2) (fun d hd => by
            simp only [List.mem_cons, List.not_mem_nil, or_false, or_self] at hd
            rw [hd]
            exact lk_fits fps nx) (Nat.le_refl _)
          refine i_repr r2 (by decide) (by decide) ?_
          have epl : planT ps = limT (lim ps) := (planT_lim ps).symm
          refine i_dict (d := planT ps) (ds := (lim ps).map lrT) (by rw [epl]; rfl) (pairs_lim (lim ps)) ?_
          rw [dict_lim gps.lim]
          have ev : (kvGet (kvL (lim ps)) (Sum.inr nx)).getD .none = optT (lk ps nx) := by
            rw [kvL_get, lk_lim]
            cases lk ps nx <;> rfl
          simp only [ev]
          refine And.intro ⟨by decide, by decide, by show 1 * 2 ≤ 100000; decide⟩ ?_
          refine i_repr r2 (by decide) (by decide) (i_neSs ?_)
          walk_at "dw"
          exact br_f (by simp) (h8 (some _))
      clear hN
      refine seq_keep (fun N1 hN => ?_) ?_
      · walk_at "dw"
        refine i_ixL (d := .bool (isPlan d)) atI_zero ?_
        cases hpd : isPlan d with
        | true =>
          rw [hpd] at hN
          exact hN
        | false =>
          rw [hpd] at hN
          walk_at "dw"
          refine w_moment_of hd.pd rfl (fun _ => ⟨by decide +kernel, ?_⟩) (fun e => by rw [hpd] at e; cases e) fun ps1 x1 e1 g1 _ _ => by rw [e1, isPlan_plan g1] at hpd; cases hpd
          dsimp only
          rw [show subE "BadPlan" "BadPlan" = some true by decide +kernel]
          exact hN
      -- what is no name
      refine seq_mk fun N1 hN => ?_
      walk_at "dw"
      refine w_pickL (Nat.zero_lt_succ _) (by simp only [List.length_cons, List.length_nil]; omega) (by omega) fun od hod b7 hb7 => w_row (by decide) (by decide) (by omega) (by omega) fun pl b8 rpl _ hb8 => hN _ _ ?_
      clear hN
      have hodd : od.pd = true ∧ isName od = false ∧ Rp 5 200 od := by
        have st : ∀ y : Str, y.length ≤ 50 ∧ (y.cps.toList.all fun c => decide (c < 4294967296)) = true → Rp 0 50 (.str y) := fun y h => rp_str h.1 fun c hc => of_decide_eq_true (List.all_eq_true.mp h.2 c hc)
        simp only [List.mem_cons, List.not_mem_nil, or_false] at hod
        rcases hod with rfl | rfl | rfl | rfl | rfl | rfl | rfl | rfl | rfl
        · exact ⟨rfl, rfl, rp_none⟩
        · exact ⟨rfl, rfl, (rp_int (k := 0) (by decide)).mono (by decide) (by decide)⟩
        · exact ⟨rfl, by decide +kernel, (st _ ⟨by decide, by decide +kernel⟩).mono (by decide) (by decide)⟩
        · exact ⟨rfl, by decide +kernel, (st _ ⟨by decide, by decide +kernel⟩).mono (by decide) (by decide)⟩
        · exact ⟨rfl, by decide +kernel, (st _ ⟨by decide, by decide +kernel⟩).mono (by decide) (by decide)⟩
        · exact ⟨rfl, rfl, (rp_list (k := 0) (W := 50) (n := 1) (fun d hd => by rw [List.mem_singleton.mp hd]; exact st _ ⟨by decide, by decide +kernel⟩) (Nat.le_refl _)).mono (by decide) (by decide)⟩
        · exact ⟨rfl, rfl, (rp_tuple (k := 0) (W := 64) (n := 2) (fun d hd => by
            simp only [List.mem_cons, List.not_mem_nil, or_false] at hd
            rcases hd with rfl | rfl
            · exact (st _ ⟨by decide, by decide +kernel⟩).mono (by decide) (by decide)
            · exact rp_int (by decide)) (Nat.le_refl _)).mono (by decide) (by decide)⟩
        · exact ⟨rfl, rfl, rp_bool⟩
        · exact ⟨rfl, by decide +kernel, (st _ ⟨by decide, by decide +kernel⟩).mono (by decide) (by decide)⟩
      obtain ⟨o1, o2, o3⟩ := hodd
      refine seq_mk fun N1 hN => ?_
      walk_at "dw"
      have gpl := rpl.good W
      have e8 : noOw [s8.map Sv.sh, some (.sh od), some (.sh (planT pl)), s11] = s8.map Sv.sh :: some (.sh od) :: some (.sh (planT pl)) :: noOw [s11] := by cases s8 <;> rfl
      rw [e8]
      walk_at "dw"
      refine w_moment_of (planT_pd pl) o1 (fun e => absurd (isPlan_plan gpl) (by rw [e]; exact Bool.false_ne_true)) (fun _ _ => ?_) fun ps1 x1 _ _ e2 e3 => ?_
      · refine ⟨by show ES__law_error.contains "BadThing" = true; decide +kernel, hN _ _ ?_⟩
        clear hN
        walk_at "dw"
        rw [show subE "BadThing" "BadThing" = some true by decide +kernel]
        walk_at "dw"
        refine And.intro ⟨by decide +kernel, trivial⟩ (i_repr o3 (by decide) (by decide) (i_repr o3 (by decide) (by decide) (i_neSs ?_)))
        walk_at "dw"
        exact br_f (by simp) (hN2 _ _ ⟨by omega, _, _, _, _, _, _, _, _, _, s8, rfl⟩)
      · rw [e2, show isName (.str x1) = nameOk x1 from rfl, e3] at o2
        cases o2
    walk_at "dw"
    refine i_draw (by decide) (by decide) (by omega) fun r r0 r1 => br_of (fun _ => ?_) fun _ => ?_
    · exact w_bent gl nl (by omega) (by omega) fun d b5 hd hb5 => key d b5 hd (by omega)
    · exact key _ _ (itm_tuple (lr_ok nl) (by rw [List.length_map]; omega)) (by omega)
end Dw
set_option Elab.async false
set_option linter.all false
set_option maxRecDepth 100000
namespace Dw
open PySem PySem.Spec PyProof.Rows L2 Cn LamX
abbrev i_BadThing : Stmt := subS (top 3) 0
theorem all_mk {l : PySem.W.OpenLaw} {w : World} {K : PySem.W.Frag} {h : Heap} {mg : Str → Option Value} {fa : Addr} {f0 f1 f2 f3 f4 f5 f6 f7 f8 f9 f10 f11 f12 f13 f14 f15 f16 f17 f18 fL : Addr} {CD_law PT_law : Addr} {tM0 : Tok} {C_BadPlan : Addr} {C_BadThing : Addr} {nm_BadThing qn_BadThing : Str} {N_BadThing fI_BadThing cda_BadThing cc_BadThing : Addr} {bs_BadThing bm_BadThing : List Value} {sn_BadThing : List Str} {su_BadThing : List Value} {ab_BadThing : Bool} {col_BadThing : Option Bool} {dd_BadThing : Option Addr} {m0_BadThing m1_BadThing m2_BadThing m3_BadThing m5_BadThing : Option Value} {oc_BadThing kV_BadThing dc_BadThing pm_BadThing ct_BadThing : Value} {od_BadThing an_BadThing : Option Addr} {osl_BadThing : Array (Option Value)} {ccl_BadThing : Value} {cdd_BadThing : Option Addr} {vs_BadThing : Array Value} {ccs_BadThing : Array (Option Value)} {cl_BadThing : Value} {cld_BadThing : Option Addr} {csl_BadThing : Array (Option Value)} {C_CornerError : Addr} {col_law : Value} {cod_law : Option Addr} {cov_law : Array Value} {cos_law : Array (Option Value)} {od0 an0 : Option Addr} {sl0 : Array (Option Value)} {oc0 kV0 dc0 pm0 cd0 ct0 : Value} {od1 an1 : Option Addr} {sl1 : Array (Option Value)} {oc1 kV1 dc1 pm1 cd1 ct1 : Value} {od2 an2 : Option Addr} {sl2 : Array (Option Value)} {oc2 kV2 dc2 pm2 cd2 ct2 : Value} {od3 an3 : Option Addr} {sl3 : Array (Option Value)} {oc3 kV3 dc3 pm3 cd3 ct3 : Value} {od4 an4 : Option Addr} {sl4 : Array (Option Value)} {oc4 kV4 dc4 pm4 cd4 ct4 : Value} {od5 an5 : Option Addr} {sl5 : Array (Option Value)} {oc5 kV5 dc5 pm5 cd5 ct5 : Value} {od6 an6 : Option Addr} {sl6 : Array (Option Value)} {oc6 kV6 dc6 pm6 cd6 ct6 : Value} {od7 an7 : Option Addr} {sl7 : Array (Option Value)} {oc7 kV7 dc7 pm7 cd7 ct7 : Value} {od8 an8 : Option Addr} {sl8 : Array (Option Value)} {oc8 kV8 dc8 pm8 cd8 ct8 : Value} {od9 an9 : Option Addr} {sl9 : Array (Option Value)} {oc9 kV9 dc9 pm9 cd9 ct9 : Value} {od10 an10 : Option Addr} {sl10 : Array (Option Value)} {oc10 kV10 dc10 pm10 cd10 ct10 : Value} {od11 an11 : Option Addr} {sl11 : Array (Option Value)} {oc11 kV11 dc11 pm11 cd11 ct11 : Value} {od12 an12 : Option Addr} {sl12 : Array (Option Value)} {oc12 kV12 dc12 pm12 cd12 ct12 : Value} {od13 an13 : Option Addr} {sl13 : Array (Option Value)} {oc13 kV13 dc13 pm13 cd13 ct13 : Value} {od14 an14 : Option Addr} {sl14 : Array (Option Value)} {oc14 kV14 dc14 pm14 cd14 ct14 : Value} {od15 an15 : Option Addr} {sl15 : Array (Option Value)} {oc15 kV15 dc15 pm15 cd15 ct15 : Value} {od16 an16 : Option Addr} {sl16 : Array (Option Value)} {oc16 kV16 dc16 pm16 cd16 ct16 : Value} {od17 an17 : Option Addr} {sl17 : Array (Option Value)} {oc17 kV17 dc17 pm17 cd17 ct17 : Value} {od18 an18 : Option Addr} {sl18 : Array (Option Value)} {oc18 kV18 dc18 pm18 cd18 ct18 : Value} {odL anL : Option Addr} {slL : Array (Option Value)} {ocL kVL dcL pmL ctL : Value} (X : K.In h) (G : h.Ns mainGlobals mg) (hroom : Room 8 callerA)
    (a0 : PySem.W.nsIn K mainGlobals "is_number" = some (some (.ref f0))) (l0 : K.lookup f0 = some ⟨oc0, od0, .func (PySem.W.fnOf "is_number" "is_number" (defArgs s_is_number) (defBody s_is_number) (defScope s_is_number) .none kV0 dc0 pm0 an0 cd0 ct0), sl0⟩) (c0 : PySem.W.codeIn K cd0 "is_number" = true) (k0 : PySem.W.keepIn K (.ref f0) = true)
    (a1 : PySem.W.nsIn K mainGlobals "is_name" = some (some (.ref f1))) (l1 : K.lookup f1 = some ⟨oc1, od1, .func (PySem.W.fnOf "is_name" "is_name" (defArgs s_is_name) (defBody s_is_name) (defScope s_is_name) .none kV1 dc1 pm1 an1 cd1 ct1), sl1⟩) (c1 : PySem.W.codeIn K cd1 "is_name" = true) (k1 : PySem.W.keepIn K (.ref f1) = true)
    (a2 : PySem.W.nsIn K mainGlobals "is_pair" = some (some (.ref f2))) (l2 : K.lookup f2 = some ⟨oc2, od2, .func (PySem.W.fnOf "is_pair" "is_pair" (defArgs s_is_pair) (defBody s_is_pair) (defScope s_is_pair) .none kV2 dc2 pm2 an2 cd2 ct2), sl2⟩) (c2 : PySem.W.codeIn K cd2 "is_pair" = true) (k2 : PySem.W.keepIn K (.ref f2) = true)
    (a3 : PySem.W.nsIn K mainGlobals "is_ascending" = some (some (.ref f3))) (l3 : K.lookup f3 = some ⟨oc3, od3, .func (PySem.W.fnOf "is_ascending" "is_ascending" (defArgs s_is_ascending) (defBody s_is_ascending) (defScope s_is_ascending) .none kV3 dc3 pm3 an3 cd3 ct3), sl3⟩) (c3 : PySem.W.codeIn K cd3 "is_ascending" = true) (k3 : PySem.W.keepIn K (.ref f3) = true)
    (a4 : PySem.W.nsIn K mainGlobals "has_names" = some (some (.ref f4))) (l4 : K.lookup f4 = some ⟨oc4, od4, .func (PySem.W.fnOf "has_names" "has_names" (defArgs s_has_names) (defBody s_has_names) (defScope s_has_names) .none kV4 dc4 pm4 an4 cd4 ct4), sl4⟩) (c4 : PySem.W.codeIn K cd4 "has_names" = true) (k4 : PySem.W.keepIn K (.ref f4) = true)
    (a5 : PySem.W.nsIn K mainGlobals "is_plan" = some (some (.ref f5))) (l5 : K.lookup f5 = some ⟨oc5, od5, .func (PySem.W.fnOf "is_plan" "is_plan" (defArgs s_is_plan) (defBody s_is_plan) (defScope s_is_plan) .none kV5 dc5 pm5 an5 cd5 ct5), sl5⟩) (c5 : PySem.W.codeIn K cd5 "is_plan" = true) (k5 : PySem.W.keepIn K (.ref f5) = true)
    (a6 : PySem.W.nsIn K mainGlobals "moment_of" = some (some (.ref f6))) (l6 : K.lookup f6 = some ⟨oc6, od6, .func (PySem.W.fnOf "moment_of" "moment_of" (defArgs s_moment_of) (defBody s_moment_of) (defScope s_moment_of) .none kV6 dc6 pm6 an6 cd6 ct6), sl6⟩) (c6 : PySem.W.codeIn K cd6 "moment_of" = true) (k6 : PySem.W.keepIn K (.ref f6) = true)
    (a7 : PySem.W.nsIn K mainGlobals "is_limit" = some (some (.ref f7))) (l7 : K.lookup f7 = some ⟨oc7, od7, .func (PySem.W.fnOf "is_limit" "is_limit" (defArgs s_is_limit) (defBody s_is_limit) (defScope s_is_limit) .none kV7 dc7 pm7 an7 cd7 ct7), sl7⟩) (c7 : PySem.W.codeIn K cd7 "is_limit" = true) (k7 : PySem.W.keepIn K (.ref f7) = true)
    (a8 : PySem.W.nsIn K mainGlobals "_law_begun" = some (some (.ref f8))) (l8 : K.lookup f8 = some ⟨oc8, od8, .func (PySem.W.fnOf "_law_begun" "_law_begun" (defArgs s__law_begun) (defBody s__law_begun) (defScope s__law_begun) .none kV8 dc8 pm8 an8 cd8 ct8), sl8⟩) (c8 : PySem.W.codeIn K cd8 "_law_begun" = true) (k8 : PySem.W.keepIn K (.ref f8) = true)
    (a9 : PySem.W.nsIn K mainGlobals "_law_draw" = some (some (.ref f9))) (l9 : K.lookup f9 = some ⟨oc9, od9, .func (PySem.W.fnOf "_law_draw" "_law_draw" (defArgs s__law_draw) (defBody s__law_draw) (defScope s__law_draw) .none kV9 dc9 pm9 an9 cd9 ct9), sl9⟩) (c9 : PySem.W.codeIn K cd9 "_law_draw" = true) (k9 : PySem.W.keepIn K (.ref f9) = true)
    (a10 : PySem.W.nsIn K mainGlobals "_law_pick" = some (some (.ref f10))) (l10 : K.lookup f10 = some ⟨oc10, od10, .func (PySem.W.fnOf "_law_pick" "_law_pick" (defArgs s__law_pick) (defBody s__law_pick) (defScope s__law_pick) .none kV10 dc10 pm10 an10 cd10 ct10), sl10⟩) (c10 : PySem.W.codeIn K cd10 "_law_pick" = true) (k10 : PySem.W.keepIn K (.ref f10) = true)
    (a11 : PySem.W.nsIn K mainGlobals "_law_words" = some (some (.ref f11))) (l11 : K.lookup f11 = some ⟨oc11, od11, .func (PySem.W.fnOf "_law_words" "_law_words" (defArgs s__law_words) (defBody s__law_words) (defScope s__law_words) .none kV11 dc11 pm11 an11 cd11 ct11), sl11⟩) (c11 : PySem.W.codeIn K cd11 "_law_words" = true) (k11 : PySem.W.keepIn K (.ref f11) = true)
    (a12 : PySem.W.nsIn K mainGlobals "_law_row" = some (some (.ref f12))) (l12 : K.lookup f12 = some ⟨oc12, od12, .func (PySem.W.fnOf "_law_row" "_law_row" (defArgs s__law_row) (defBody s__law_row) (defScope s__law_row) .none kV12 dc12 pm12 an12 cd12 ct12), sl12⟩) (c12 : PySem.W.codeIn K cd12 "_law_row" = true) (k12 : PySem.W.keepIn K (.ref f12) = true)
    (a13 : PySem.W.nsIn K mainGlobals "_law_odd" = some (some (.ref f13))) (l13 : K.lookup f13 = some ⟨oc13, od13, .func (PySem.W.fnOf "_law_odd" "_law_odd" (defArgs s__law_odd) (defBody s__law_odd) (defScope s__law_odd) .none kV13 dc13 pm13 an13 cd13 ct13), sl13⟩) (c13 : PySem.W.codeIn K cd13 "_law_odd" = true) (k13 : PySem.W.keepIn K (.ref f13) = true)
    (a14 : PySem.W.nsIn K mainGlobals "_law_is_row" = some (some (.ref f14))) (l14 : K.lookup f14 = some ⟨oc14, od14, .func (PySem.W.fnOf "_law_is_row" "_law_is_row" (defArgs s__law_is_row) (defBody s__law_is_row) (defScope s__law_is_row) .none kV14 dc14 pm14 an14 cd14 ct14), sl14⟩) (c14 : PySem.W.codeIn K cd14 "_law_is_row" = true) (k14 : PySem.W.keepIn K (.ref f14) = true)
    (a15 : PySem.W.nsIn K mainGlobals "_law_error" = some (some (.ref f15))) (l15 : K.lookup f15 = some ⟨oc15, od15, .func (PySem.W.fnOf "_law_error" "_law_error" (defArgs s__law_error) (defBody s__law_error) (defScope s__law_error) .none kV15 dc15 pm15 an15 cd15 ct15), sl15⟩) (c15 : PySem.W.codeIn K cd15 "_law_error" = true) (k15 : PySem.W.keepIn K (.ref f15) = true)
    (a16 : PySem.W.nsIn K mainGlobals "_law_is_bound" = some (some (.ref f16))) (l16 : K.lookup f16 = some ⟨oc16, od16, .func (PySem.W.fnOf "_law_is_bound" "_law_is_bound" (defArgs s__law_is_bound) (defBody s__law_is_bound) (defScope s__law_is_bound) .none kV16 dc16 pm16 an16 cd16 ct16), sl16⟩) (c16 : PySem.W.codeIn K cd16 "_law_is_bound" = true) (k16 : PySem.W.keepIn K (.ref f16) = true)
    (a17 : PySem.W.nsIn K mainGlobals "_law_bound" = some (some (.ref f17))) (l17 : K.lookup f17 = some ⟨oc17, od17, .func (PySem.W.fnOf "_law_bound" "_law_bound" (defArgs s__law_bound) (defBody s__law_bound) (defScope s__law_bound) .none kV17 dc17 pm17 an17 cd17 ct17), sl17⟩) (c17 : PySem.W.codeIn K cd17 "_law_bound" = true) (k17 : PySem.W.keepIn K (.ref f17) = true)
    (a18 : PySem.W.nsIn K mainGlobals "_law_bent" = some (some (.ref f18))) (l18 : K.lookup f18 = some ⟨oc18, od18, .func (PySem.W.fnOf "_law_bent" "_law_bent" (defArgs s__law_bent) (defBody s__law_bent) (defScope s__law_bent) .none kV18 dc18 pm18 an18 cd18 ct18), sl18⟩) (c18 : PySem.W.codeIn K cd18 "_law_bent" = true) (k18 : PySem.W.keepIn K (.ref f18) = true)
    (aL : PySem.W.nsIn K mainGlobals "law" = some (some (.ref fL))) (lL : K.lookup fL = some ⟨ocL, odL, .func (PySem.W.fnOf "law" "law" (defArgs s_law) (defBody s_law) (defScope s_law) .none kVL dcL pmL anL (.ref CD_law) ctL), slL⟩) (cL : PySem.W.codeIn K (.ref CD_law) "law" = true)
    (z0 : PySem.W.nsIn K mainGlobals "abs" = some none)
    (z1 : PySem.W.nsIn K mainGlobals "all" = some none)
    (z2 : PySem.W.nsIn K mainGlobals "bool" = some none)
    (z3 : PySem.W.nsIn K mainGlobals "dict" = some none)
    (z4 : PySem.W.nsIn K mainGlobals "int" = some none)
    (z5 : PySem.W.nsIn K mainGlobals "isinstance" = some none)
    (z6 : PySem.W.nsIn K mainGlobals "len" = some none)
    (z7 : PySem.W.nsIn K mainGlobals "list" = some none)
    (z8 : PySem.W.nsIn K mainGlobals "min" = some none)
    (z9 : PySem.W.nsIn K mainGlobals "range" = some none)
    (z10 : PySem.W.nsIn K mainGlobals "repr" = some none)
    (z11 : PySem.W.nsIn K mainGlobals "set" = some none)
    (z12 : PySem.W.nsIn K mainGlobals "sorted" = some none)
    (z13 : PySem.W.nsIn K mainGlobals "str" = some none)
    (z14 : PySem.W.nsIn K mainGlobals "tuple" = some none)
    (y0 : PySem.W.nsIn K mainGlobals "MOST_LETTERS" = some (some (.int 6 tM0)))
    (g_BadPlan : PySem.W.nsIn K mainGlobals "BadPlan" = some (some (.ref C_BadPlan)))
    (kk_BadPlan : PySem.W.keepIn K (.ref C_BadPlan) = true)
    (q_BadPlan : PySem.W.excIn K C_BadPlan [.type "ValueError", .type "Exception", .type "BaseException", .type "object"] "ValueError.__new__" = true)
    (s_BadPlan : PySem.W.subIn K (.ref C_BadPlan) (.type "BaseException") = some true)
    (t_BadPlan : PySem.W.typeIn K (.ref C_BadPlan) = some (.type "type"))
    (g_BadThing : PySem.W.nsIn K mainGlobals "BadThing" = some (some (.ref C_BadThing)))
    (x_BadThing : K.lookup C_BadThing = some (excClassObj nm_BadThing qn_BadThing C_BadThing N_BadThing bs_BadThing bm_BadThing true sn_BadThing su_BadThing ab_BadThing col_BadThing dd_BadThing m0_BadThing m1_BadThing m2_BadThing m3_BadThing m5_BadThing "ValueError.__new__"))
    (rv_BadThing : PySem.HandSPX.refsVE bm_BadThing = true)
    (sa_BadThing : PySem.W.findIn K (.ref C_BadThing) "__setattr__" = some (some (.builtin "object.__setattr__")))
    (s_BadThing : PySem.W.subIn K (.ref C_BadThing) (.type "BaseException") = some true)
    (t_BadThing : PySem.W.typeIn K (.ref C_BadThing) = some (.type "type"))
    (kk_BadThing : PySem.W.keepIn K (.ref C_BadThing) = true)
    (in_BadThing : PySem.W.findIn K (.ref C_BadThing) "__init__" = some (some (.ref fI_BadThing)))
    (ti_BadThing : PySem.W.typeIn K (.ref fI_BadThing) = some (.type "function"))
    (su_BadThing : PySem.W.ks_superIn K C_BadThing C_BadThing "__init__" = some (some (.builtin "ValueError.__init__")))
    (sv_BadThing : PySem.W.subIn K (.ref C_BadThing) (.type "ValueError") = some true)
    (mr_BadThing : PySem.W.mroIn K C_BadThing (.ref C_BadThing) = some true)
    (lk_BadThing : K.lookup fI_BadThing = some ⟨oc_BadThing, od_BadThing, .func (PySem.W.ksFn "__init__" "BadThing.__init__" (defArgs i_BadThing) (defBody i_BadThing) (defScope i_BadThing) .none kV_BadThing dc_BadThing pm_BadThing an_BadThing (.ref cda_BadThing) ct_BadThing cc_BadThing), osl_BadThing⟩)
    (cd_BadThing : K.lookup cda_BadThing = some ⟨ccl_BadThing, cdd_BadThing, .fields vs_BadThing, ccs_BadThing⟩)
    (cf_BadThing : (∃ t, vs_BadThing[2]? = some (.str l.prog.main.file t)))
    (ci_BadThing : PySem.W.codeIn K (.ref cda_BadThing) "BadThing.__init__" = true)
    (cc_BadThingh : K.lookup cc_BadThing = some ⟨cl_BadThing, cld_BadThing, .cell (some (.ref C_BadThing)), csl_BadThing⟩)
    (nf_BadThing : PySem.W.findIn K (.ref C_BadThing) "thing" = some none)
    (g_CornerError : PySem.W.nsIn K mainGlobals "CornerError" = some (some (.ref C_CornerError)))
    (kk_CornerError : PySem.W.keepIn K (.ref C_CornerError) = true)
    (q_CornerError : PySem.W.excIn K C_CornerError [.type "ValueError", .type "Exception", .type "BaseException", .type "object"] "ValueError.__new__" = true)
    (s_CornerError : PySem.W.subIn K (.ref C_CornerError) (.type "BaseException") = some true)
    (t_CornerError : PySem.W.typeIn K (.ref C_CornerError) = some (.type "type"))
    (z_thirdparty : PySem.W.nsIn K cStatics "thirdparty.any" = some none) (z_super : PySem.W.nsIn K mainGlobals "super" = some none) (z_top : (l.prog.main.scope.names.lookup ("super" : Str)).isSome = false)
    (lc_law : K.lookup CD_law = some ⟨col_law, cod_law, .fields cov_law, cos_law⟩) (pt_law : cov_law[11]? = some (.ref PT_law))
    (hq_law : ∀ p ∈ ([(PT_law, (("law" : Str) ++ ".<locals>.") ++ "<lambda>")] : List (Addr × Str)), p.1 = PT_law → p.2 = (("law" : Str) ++ ".<locals>.") ++ "<lambda>")
    (ec_CornerError : ExcC K C_CornerError) (kv_CornerError : PySem.W.kitOne K (.ref C_CornerError) (.type "ValueError") = some true) (kt_CornerError_CornerError : PySem.W.kitOne K (.ref C_CornerError) (.ref C_CornerError) = some ((("CornerError" : Str) == "CornerError") || (("CornerError" : Str) == "CornerError"))) (kt_CornerError_BadPlan : PySem.W.kitOne K (.ref C_CornerError) (.ref C_BadPlan) = some ((("BadPlan" : Str) == "CornerError") || (("BadPlan" : Str) == "CornerError"))) (kt_CornerError_BadThing : PySem.W.kitOne K (.ref C_CornerError) (.ref C_BadThing) = some ((("BadThing" : Str) == "CornerError") || (("BadThing" : Str) == "CornerError")))
    (ec_BadPlan : ExcC K C_BadPlan) (kv_BadPlan : PySem.W.kitOne K (.ref C_BadPlan) (.type "ValueError") = some true) (kt_BadPlan_CornerError : PySem.W.kitOne K (.ref C_BadPlan) (.ref C_CornerError) = some ((("CornerError" : Str) == "BadPlan") || (("CornerError" : Str) == "CornerError"))) (kt_BadPlan_BadPlan : PySem.W.kitOne K (.ref C_BadPlan) (.ref C_BadPlan) = some ((("BadPlan" : Str) == "BadPlan") || (("BadPlan" : Str) == "CornerError"))) (kt_BadPlan_BadThing : PySem.W.kitOne K (.ref C_BadPlan) (.ref C_BadThing) = some ((("BadThing" : Str) == "BadPlan") || (("BadThing" : Str) == "CornerError")))
    (ec_BadThing : ExcC K C_BadThing) (kv_BadThing : PySem.W.kitOne K (.ref C_BadThing) (.type "ValueError") = some true) (kt_BadThing_CornerError : PySem.W.kitOne K (.ref C_BadThing) (.ref C_CornerError) = some ((("CornerError" : Str) == "BadThing") || (("CornerError" : Str) == "CornerError"))) (kt_BadThing_BadPlan : PySem.W.kitOne K (.ref C_BadThing) (.ref C_BadPlan) = some ((("BadPlan" : Str) == "BadThing") || (("BadPlan" : Str) == "CornerError"))) (kt_BadThing_BadThing : PySem.W.kitOne K (.ref C_BadThing) (.ref C_BadThing) = some ((("BadThing" : Str) == "BadThing") || (("BadThing" : Str) == "CornerError")))
    (xf_BadThing : XfC K C_BadThing)
    (xm__law_error_CornerError : PySem.W.exmOne K (.ref C_CornerError) (.ref C_CornerError) = some true)
    (xm__law_error_BadPlan : PySem.W.exmOne K (.ref C_BadPlan) (.ref C_CornerError) = some true)
    (xm__law_error_BadThing : PySem.W.exmOne K (.ref C_BadThing) (.ref C_CornerError) = some true)
    (hfa : mg "law" = some (.ref fa)) (hD : LawD) : LawG l.prog w K mg [(CD_law, PT_law)] fa 63 := by
  have e := hfa.symm.trans (PySem.W.mg_of X G aL)
  cases e
  have T : Txt mg := ⟨PySem.W.mg_none_of X G z0, PySem.W.mg_none_of X G z1, PySem.W.mg_none_of X G z2, PySem.W.mg_none_of X G z3, PySem.W.mg_none_of X G z4, PySem.W.mg_none_of X G z5, PySem.W.mg_none_of X G z6, PySem.W.mg_none_of X G z7, PySem.W.mg_none_of X G z8, PySem.W.mg_none_of X G z9, PySem.W.mg_none_of X G z10, PySem.W.mg_none_of X G z11, PySem.W.mg_none_of X G z12, PySem.W.mg_none_of X G z13, PySem.W.mg_none_of X G z14, ⟨_, PySem.W.mg_of X G y0⟩⟩
  have e_BadPlan : ExP K mg "BadPlan" C_BadPlan := ⟨PySem.W.mg_of X G g_BadPlan, kk_BadPlan, q_BadPlan, s_BadPlan, t_BadPlan⟩
  have T_BadThing : OexC K C_BadThing := ⟨⟨_, _, _, _, _, _, _, _, _, _, _, _, _, _, _, x_BadThing, rv_BadThing⟩, sa_BadThing, s_BadThing, t_BadThing, kk_BadThing⟩
  have e_BadThing : ∀ base, ExJ l.prog w K mg base "BadThing" C_BadThing "thing" := fun base => ⟨PySem.W.mg_of X G g_BadThing, T_BadThing, fI_BadThing, _, ["self", "thing"], in_BadThing, ti_BadThing,
    ini_ok (k := 0) (q := "BadThing.__init__") rfl rfl (⟨T_BadThing, su_BadThing, sv_BadThing, mr_BadThing, z_thirdparty, ⟨_, _, _, lk_BadThing⟩, rfl, (let ⟨t, ht⟩ := cf_BadThing; ⟨_, _, _, _, _, t, cd_BadThing, ht, by rw [beq_self_eq_true]⟩), ⟨_, _, _, cc_BadThingh⟩, z_super, rfl, rfl, rfl, rfl, z_top⟩ : ExI _ _ _ _ _ _ _ _ _ _) ci_BadThing rfl (by decide) (fr_of (by decide +kernel)) (by decide +kernel) rfl rfl nf_BadThing (by decide) (by decide) (by decide) (by decide) (fun L => rfl) (fun L => rfl), Binds.all fun us hl => match us, hl with | [_, _], _ => rfl⟩
  have e_CornerError : ExP K mg "CornerError" C_CornerError := ⟨PySem.W.mg_of X G g_CornerError, kk_CornerError, q_CornerError, s_CornerError, t_CornerError⟩
  have hEK : EKn K mg subE := ekn_mk (L := [("CornerError", C_CornerError), ("BadPlan", C_BadPlan), ("BadThing", C_BadThing)]) (List.forall_mem_cons.mpr ⟨⟨PySem.W.mg_of X G g_CornerError, ec_CornerError, kv_CornerError, (List.forall_mem_cons.mpr ⟨kt_CornerError_CornerError, (List.forall_mem_cons.mpr ⟨kt_CornerError_BadPlan, (List.forall_mem_cons.mpr ⟨kt_CornerError_BadThing, (fun _ h => absurd h List.not_mem_nil)⟩)⟩)⟩)⟩, (List.forall_mem_cons.mpr ⟨⟨PySem.W.mg_of X G g_BadPlan, ec_BadPlan, kv_BadPlan, (List.forall_mem_cons.mpr ⟨kt_BadPlan_CornerError, (List.forall_mem_cons.mpr ⟨kt_BadPlan_BadPlan, (List.forall_mem_cons.mpr ⟨kt_BadPlan_BadThing, (fun _ h => absurd h List.not_mem_nil)⟩)⟩)⟩)⟩, (List.forall_mem_cons.mpr ⟨⟨PySem.W.mg_of X G g_BadThing, ec_BadThing, kv_BadThing, (List.forall_mem_cons.mpr ⟨kt_BadThing_CornerError, (List.forall_mem_cons.mpr ⟨kt_BadThing_BadPlan, (List.forall_mem_cons.mpr ⟨kt_BadThing_BadThing, (fun _ h => absurd h List.not_mem_nil)⟩)⟩)⟩)⟩, (fun _ h => absurd h List.not_mem_nil)⟩)⟩)⟩)
  have hEF : EFn K mg fldE := efn_mk (L := [("BadThing", "thing", C_BadThing)]) (List.forall_mem_cons.mpr ⟨⟨PySem.W.mg_of X G g_BadThing, xf_BadThing, nf_BadThing⟩, (fun _ h => absurd h List.not_mem_nil)⟩)
  have hx__law_error : ExmOk K mg "CornerError" ES__law_error (.ref C_CornerError) := exm_mk (L := [("CornerError", C_CornerError), ("BadPlan", C_BadPlan), ("BadThing", C_BadThing)]) (PySem.W.mg_of X G g_CornerError) (List.forall_mem_cons.mpr ⟨⟨PySem.W.mg_of X G g_CornerError, xm__law_error_CornerError⟩, (List.forall_mem_cons.mpr ⟨⟨PySem.W.mg_of X G g_BadPlan, xm__law_error_BadPlan⟩, (List.forall_mem_cons.mpr ⟨⟨PySem.W.mg_of X G g_BadThing, xm__law_error_BadThing⟩, (fun _ h => absurd h List.not_mem_nil)⟩)⟩)⟩)
  have F_is_number : Fg K mg "is_number" s_is_number := ⟨f0, _, PySem.W.mg_of X G a0, fun_mk (st := s_is_number) l0 c0 k0⟩
  have F_is_name : Fg K mg "is_name" s_is_name := ⟨f1, _, PySem.W.mg_of X G a1, fun_mk (st := s_is_name) l1 c1 k1⟩
  have F_is_pair : Fg K mg "is_pair" s_is_pair := ⟨f2, _, PySem.W.mg_of X G a2, fun_mk (st := s_is_pair) l2 c2 k2⟩
  have F_is_ascending : Fg K mg "is_ascending" s_is_ascending := ⟨f3, _, PySem.W.mg_of X G a3, fun_mk (st := s_is_ascending) l3 c3 k3⟩
  have F_has_names : Fg K mg "has_names" s_has_names := ⟨f4, _, PySem.W.mg_of X G a4, fun_mk (st := s_has_names) l4 c4 k4⟩
  have F_is_plan : Fg K mg "is_plan" s_is_plan := ⟨f5, _, PySem.W.mg_of X G a5, fun_mk (st := s_is_plan) l5 c5 k5⟩
  have F_moment_of : Fg K mg "moment_of" s_moment_of := ⟨f6, _, PySem.W.mg_of X G a6, fun_mk (st := s_moment_of) l6 c6 k6⟩
  have F_is_limit : Fg K mg "is_limit" s_is_limit := ⟨f7, _, PySem.W.mg_of X G a7, fun_mk (st := s_is_limit) l7 c7 k7⟩
  have F__law_begun : Fg K mg "_law_begun" s__law_begun := ⟨f8, _, PySem.W.mg_of X G a8, fun_mk (st := s__law_begun) l8 c8 k8⟩
  have F__law_draw : Fg K mg "_law_draw" s__law_draw := ⟨f9, _, PySem.W.mg_of X G a9, fun_mk (st := s__law_draw) l9 c9 k9⟩
  have F__law_pick : Fg K mg "_law_pick" s__law_pick := ⟨f10, _, PySem.W.mg_of X G a10, fun_mk (st := s__law_pick) l10 c10 k10⟩
  have F__law_words : Fg K mg "_law_words" s__law_words := ⟨f11, _, PySem.W.mg_of X G a11, fun_mk (st := s__law_words) l11 c11 k11⟩
  have F__law_row : Fg K mg "_law_row" s__law_row := ⟨f12, _, PySem.W.mg_of X G a12, fun_mk (st := s__law_row) l12 c12 k12⟩
  have F__law_odd : Fg K mg "_law_odd" s__law_odd := ⟨f13, _, PySem.W.mg_of X G a13, fun_mk (st := s__law_odd) l13 c13 k13⟩
  have F__law_is_row : Fg K mg "_law_is_row" s__law_is_row := ⟨f14, _, PySem.W.mg_of X G a14, fun_mk (st := s__law_is_row) l14 c14 k14⟩
  have F__law_error : Fg K mg "_law_error" s__law_error := ⟨f15, _, PySem.W.mg_of X G a15, fun_mk (st := s__law_error) l15 c15 k15⟩
  have F__law_is_bound : Fg K mg "_law_is_bound" s__law_is_bound := ⟨f16, _, PySem.W.mg_of X G a16, fun_mk (st := s__law_is_bound) l16 c16 k16⟩
  have F__law_bound : Fg K mg "_law_bound" s__law_bound := ⟨f17, _, PySem.W.mg_of X G a17, fun_mk (st := s__law_bound) l17 c17 k17⟩
  have F__law_bent : Fg K mg "_law_bent" s__law_bent := ⟨f18, _, PySem.W.mg_of X G a18, fun_mk (st := s__law_bent) l18 c18 k18⟩
  have k_is_number := fun (base : Heap) (hT : ∀ p ∈ ([(CD_law, PT_law)] : List (Addr × Addr)), TabB base mg p.1 p.2) => Dw.k_is_number (P := l.prog) (w := w) (base := base) F_is_number T
  have k_is_name := fun (base : Heap) (hT : ∀ p ∈ ([(CD_law, PT_law)] : List (Addr × Addr)), TabB base mg p.1 p.2) => Dw.k_is_name (P := l.prog) (w := w) (base := base) F_is_name T
  have k_is_pair := fun (base : Heap) (hT : ∀ p ∈ ([(CD_law, PT_law)] : List (Addr × Addr)), TabB base mg p.1 p.2) => Dw.k_is_pair (P := l.prog) (w := w) (base := base) F_is_pair T
  have k_is_ascending := fun (base : Heap) (hT : ∀ p ∈ ([(CD_law, PT_law)] : List (Addr × Addr)), TabB base mg p.1 p.2) => Dw.k_is_ascending (P := l.prog) (w := w) (base := base) F_is_ascending T
  have k_has_names := fun (base : Heap) (hT : ∀ p ∈ ([(CD_law, PT_law)] : List (Addr × Addr)), TabB base mg p.1 p.2) => Dw.k_has_names (P := l.prog) (w := w) (base := base) F_has_names T (k_is_pair base hT) (k_is_ascending base hT) (k_is_name base hT)
  have k_is_plan := fun (base : Heap) (hT : ∀ p ∈ ([(CD_law, PT_law)] : List (Addr × Addr)), TabB base mg p.1 p.2) => Dw.k_is_plan (P := l.prog) (w := w) (base := base) F_is_plan T (k_is_number base hT) (k_has_names base hT)
  have k_moment_of := fun (base : Heap) (hT : ∀ p ∈ ([(CD_law, PT_law)] : List (Addr × Addr)), TabB base mg p.1 p.2) => Dw.k_moment_of (P := l.prog) (w := w) (base := base) F_moment_of T (k_is_plan base hT) (k_is_name base hT) e_BadPlan (e_BadThing base)
  have k_is_limit := fun (base : Heap) (hT : ∀ p ∈ ([(CD_law, PT_law)] : List (Addr × Addr)), TabB base mg p.1 p.2) => Dw.k_is_limit (P := l.prog) (w := w) (base := base) F_is_limit T (k_is_number base hT) (k_has_names base hT)
  have k__law_begun := fun (base : Heap) (hT : ∀ p ∈ ([(CD_law, PT_law)] : List (Addr × Addr)), TabB base mg p.1 p.2) => Dw.k__law_begun (P := l.prog) (w := w) (base := base) F__law_begun T
  have k__law_draw := fun (base : Heap) (hT : ∀ p ∈ ([(CD_law, PT_law)] : List (Addr × Addr)), TabB base mg p.1 p.2) => Dw.k__law_draw (P := l.prog) (w := w) (base := base) F__law_draw T
  have k__law_pick := fun (base : Heap) (hT : ∀ p ∈ ([(CD_law, PT_law)] : List (Addr × Addr)), TabB base mg p.1 p.2) => Dw.k__law_pick (P := l.prog) (w := w) (base := base) (Ts := [(PT_law, (("law" : Str) ++ ".<locals>.") ++ "<lambda>")]) F__law_pick T (k__law_draw base hT)
  have k__law_words := fun (base : Heap) (hT : ∀ p ∈ ([(CD_law, PT_law)] : List (Addr × Addr)), TabB base mg p.1 p.2) => Dw.k__law_words (P := l.prog) (w := w) (base := base) (Ts := [(PT_law, (("law" : Str) ++ ".<locals>.") ++ "<lambda>")]) F__law_words T (k__law_draw base hT) (k__law_pick base hT)
  have k__law_row := fun (base : Heap) (hT : ∀ p ∈ ([(CD_law, PT_law)] : List (Addr × Addr)), TabB base mg p.1 p.2) => Dw.k__law_row (P := l.prog) (w := w) (base := base) (Ts := [(PT_law, (("law" : Str) ++ ".<locals>.") ++ "<lambda>")]) F__law_row T (k__law_pick base hT) (k__law_draw base hT)
  have k__law_odd := fun (base : Heap) (hT : ∀ p ∈ ([(CD_law, PT_law)] : List (Addr × Addr)), TabB base mg p.1 p.2) => Dw.k__law_odd (P := l.prog) (w := w) (base := base) (Ts := [(PT_law, (("law" : Str) ++ ".<locals>.") ++ "<lambda>")]) F__law_odd T (k__law_pick base hT)
  have k__law_is_row := fun (base : Heap) (hT : ∀ p ∈ ([(CD_law, PT_law)] : List (Addr × Addr)), TabB base mg p.1 p.2) => Dw.k__law_is_row (P := l.prog) (w := w) (base := base) F__law_is_row T
  have k__law_is_bound := fun (base : Heap) (hT : ∀ p ∈ ([(CD_law, PT_law)] : List (Addr × Addr)), TabB base mg p.1 p.2) => Dw.k__law_is_bound (P := l.prog) (w := w) (base := base) F__law_is_bound T (k__law_is_row base hT)
  have k__law_bound := fun (base : Heap) (hT : ∀ p ∈ ([(CD_law, PT_law)] : List (Addr × Addr)), TabB base mg p.1 p.2) => Dw.k__law_bound (P := l.prog) (w := w) (base := base) (Ts := [(PT_law, (("law" : Str) ++ ".<locals>.") ++ "<lambda>")]) F__law_bound T (k__law_row base hT) (k__law_draw base hT)
  have k__law_bent := fun (base : Heap) (hT : ∀ p ∈ ([(CD_law, PT_law)] : List (Addr × Addr)), TabB base mg p.1 p.2) => Dw.k__law_bent (P := l.prog) (w := w) (base := base) (Ts := [(PT_law, (("law" : Str) ++ ".<locals>.") ++ "<lambda>")]) F__law_bent T (k__law_draw base hT) (k__law_odd base hT) (k__law_pick base hT)
  exact g_law (Ts := [(PT_law, (("law" : Str) ++ ".<locals>.") ++ "<lambda>")]) lL cL hroom T (List.forall_mem_cons.mpr ⟨⟨CD_law, List.mem_cons_self⟩, (fun _ h => absurd h List.not_mem_nil)⟩) (fun base _ _ hT => k__law_words base hT) (fun base _ _ hT => k__law_draw base hT) (fun base _ _ hT => k__law_pick base hT) (fun base _ _ hT => k__law_bound base hT) (fun base _ _ hT => k__law_row base hT) (fun base _ _ hT => k__law_bent base hT) (fun base _ _ hT => k__law_is_bound base hT) (fun base _ _ hT => k__law_is_row base hT) (fun base _ _ hT => k_is_limit base hT) (fun base _ _ hT => k_is_plan base hT) (fun base _ _ hT => k_moment_of base hT) (fun base _ _ hT => k__law_begun base hT) e_BadPlan e_BadThing F__law_error hx__law_error F_is_limit F_is_plan F_moment_of hEK hEF rfl List.mem_cons_self List.mem_cons_self hq_law hD
end Dw
set_option Elab.async false
set_option linter.all false
set_option maxRecDepth 100000
open PySem PySem.W PyProof.Rows
set_option maxHeartbeats 0
theorem PySem.Challenge.cw_cornerplans_k02_plans_and_limits_judged_holds : PySem.Challenge.rw_cornerplans_k02_plans_and_limits_judged.Holds := by
  w_on; o_law; k_head; (case hw => w_witness2)
  k_fill
  refine Cn.walk_G (l := PySem.Challenge.rw_cornerplans_k02_plans_and_limits_judged) (n := 63) rfl (by decide) rfl (fun w h Y => PySem.W.km_in_of Y) ?F
  case F =>
    intro w mg fa h Y KX G hmg
    have hT8 := PySem.W.km_tabs_of Y
    refine' ⟨_, ?T1, ?T2, ?T3, Dw.all_mk KX G ⟨rfl, by decide, by decide⟩ ?a0 ?l0 ?c0 ?k0 ?a1 ?l1 ?c1 ?k1 ?a2 ?l2 ?c2 ?k2 ?a3 ?l3 ?c3 ?k3 ?a4 ?l4 ?c4 ?k4 ?a5 ?l5 ?c5 ?k5 ?a6 ?l6 ?c6 ?k6 ?a7 ?l7 ?c7 ?k7 ?a8 ?l8 ?c8 ?k8 ?a9 ?l9 ?c9 ?k9 ?a10 ?l10 ?c10 ?k10 ?a11 ?l11 ?c11 ?k11 ?a12 ?l12 ?c12 ?k12 ?a13 ?l13 ?c13 ?k13 ?a14 ?l14 ?c14 ?k14 ?a15 ?l15 ?c15 ?k15 ?a16 ?l16 ?c16 ?k16 ?a17 ?l17 ?c17 ?k17 ?a18 ?l18 ?c18 ?k18 ?aL ?lL ?cL ?z0 ?z1 ?z2 ?z3 ?z4 ?z5 ?z6 ?z7 ?z8 ?z9 ?z10 ?z11 ?z12 ?z13 ?z14 ?y0 ?g_BadPlan ?kk_BadPlan ?q_BadPlan ?s_BadPlan ?t_BadPlan ?g_BadThing ?x_BadThing ?rv_BadThing ?sa_BadThing ?s_BadThing ?t_BadThing ?kk_BadThing ?in_BadThing ?ti_BadThing ?su_BadThing ?sv_BadThing ?mr_BadThing ?lk_BadThing ?cd_BadThing ?cf_BadThing ?ci_BadThing ?cc_BadThingh ?nf_BadThing ?g_CornerError ?kk_CornerError ?q_CornerError ?s_CornerError ?t_CornerError ?z_thirdparty ?z_super ?z_top ?lc_law ?pt_law ?hq_law ?ec_CornerError ?kv_CornerError ?kt_CornerError_CornerError ?kt_CornerError_BadPlan ?kt_CornerError_BadThing ?ec_BadPlan ?kv_BadPlan ?kt_BadPlan_CornerError ?kt_BadPlan_BadPlan ?kt_BadPlan_BadThing ?ec_BadThing ?kv_BadThing ?kt_BadThing_CornerError ?kt_BadThing_BadPlan ?kt_BadThing_BadThing ?xf_BadThing ?xm__law_error_CornerError ?xm__law_error_BadPlan ?xm__law_error_BadThing hmg Dw.law_d⟩
    (case a0 => k_is)
    (case l0 => k_is)
    (case c0 => k_is)
    (case k0 => k_is)
    (case a1 => k_is)
    (case l1 => k_is)
    (case c1 => k_is)
    (case k1 => k_is)
    (case a2 => k_is)
    (case l2 => k_is)
    (case c2 => k_is)
    (case k2 => k_is)
    (case a3 => k_is)
    (case l3 => k_is)
    (case c3 => k_is)
    (case k3 => k_is)
    (case a4 => k_is)
    (case l4 => k_is)
    (case c4 => k_is)
    (case k4 => k_is)
    (case a5 => k_is)
    (case l5 => k_is)
    (case c5 => k_is)
    (case k5 => k_is)
    (case a6 => k_is)
    (case l6 => k_is)
    (case c6 => k_is)
    (case k6 => k_is)
    (case a7 => k_is)
    (case l7 => k_is)
    (case c7 => k_is)
    (case k7 => k_is)
    (case a8 => k_is)
    (case l8 => k_is)
    (case c8 => k_is)
    (case k8 => k_is)
    (case a9 => k_is)
    (case l9 => k_is)
    (case c9 => k_is)
    (case k9 => k_is)
    (case a10 => k_is)
    (case l10 => k_is)
    (case c10 => k_is)
    (case k10 => k_is)
    (case a11 => k_is)
    (case l11 => k_is)
    (case c11 => k_is)
    (case k11 => k_is)
    (case a12 => k_is)
    (case l12 => k_is)
    (case c12 => k_is)
    (case k12 => k_is)
    (case a13 => k_is)
    (case l13 => k_is)
    (case c13 => k_is)
    (case k13 => k_is)
    (case a14 => k_is)
    (case l14 => k_is)
    (case c14 => k_is)
    (case k14 => k_is)
    (case a15 => k_is)
    (case l15 => k_is)
    (case c15 => k_is)
    (case k15 => k_is)
    (case a16 => k_is)
    (case l16 => k_is)
    (case c16 => k_is)
    (case k16 => k_is)
    (case a17 => k_is)
    (case l17 => k_is)
    (case c17 => k_is)
    (case k17 => k_is)
    (case a18 => k_is)
    (case l18 => k_is)
    (case c18 => k_is)
    (case k18 => k_is)
    (case aL => k_is)
    (case lL => k_is)
    (case cL => k_is)
    (case z0 => k_is)
    (case z1 => k_is)
    (case z2 => k_is)
    (case z3 => k_is)
    (case z4 => k_is)
    (case z5 => k_is)
    (case z6 => k_is)
    (case z7 => k_is)
    (case z8 => k_is)
    (case z9 => k_is)
    (case z10 => k_is)
    (case z11 => k_is)
    (case z12 => k_is)
    (case z13 => k_is)
    (case z14 => k_is)
    (case y0 => k_is)
    (case g_BadPlan => k_is)
    (case kk_BadPlan => k_is)
    (case q_BadPlan => k_exc)
    (case s_BadPlan => k_is)
    (case t_BadPlan => k_is)
    (case g_BadThing => k_is)
    (case x_BadThing => k_is)
    (case rv_BadThing => decide +kernel)
    (case sa_BadThing => k_is)
    (case s_BadThing => k_is)
    (case t_BadThing => k_is)
    (case kk_BadThing => k_is)
    (case in_BadThing => k_is)
    (case ti_BadThing => k_is)
    (case su_BadThing => ks_is)
    (case sv_BadThing => k_is)
    (case mr_BadThing => k_is)
    (case lk_BadThing => k_is)
    (case cd_BadThing => k_is)
    (case cf_BadThing => exact ⟨_, rfl⟩)
    (case ci_BadThing => k_is)
    (case cc_BadThingh => k_is)
    (case nf_BadThing => k_is)
    (case g_CornerError => k_is)
    (case kk_CornerError => k_is)
    (case q_CornerError => k_exc)
    (case s_CornerError => k_is)
    (case t_CornerError => k_is)
    (case z_thirdparty => k_is)
    (case z_super => k_is)
    (case z_top => rfl)
    (case lc_law => k_is)
    (case pt_law => exact rfl)
    (case ec_CornerError => exact ⟨by k_is, by k_is, by k_is, by k_is, by k_is, by k_is, by k_is, by k_is⟩)
    (case kv_CornerError => kernel_rfl)
    (case kt_CornerError_CornerError => kernel_rfl)
    (case kt_CornerError_BadPlan => kernel_rfl)
    (case kt_CornerError_BadThing => kernel_rfl)
    (case ec_BadPlan => exact ⟨by k_is, by k_is, by k_is, by k_is, by k_is, by k_is, by k_is, by k_is⟩)
    (case kv_BadPlan => kernel_rfl)
    (case kt_BadPlan_CornerError => kernel_rfl)
    (case kt_BadPlan_BadPlan => kernel_rfl)
    (case kt_BadPlan_BadThing => kernel_rfl)
    (case ec_BadThing => exact ⟨by k_is, by k_is, by k_is, by k_is, by k_is, by k_is, by k_is, by k_is⟩)
    (case kv_BadThing => kernel_rfl)
    (case kt_BadThing_CornerError => kernel_rfl)
    (case kt_BadThing_BadPlan => kernel_rfl)
    (case kt_BadThing_BadThing => kernel_rfl)
    (case xf_BadThing => exact ⟨by k_is, by k_is, by k_is, by k_is⟩)
    (case xm__law_error_CornerError => kernel_rfl)
    (case xm__law_error_BadPlan => kernel_rfl)
    (case xm__law_error_BadThing => kernel_rfl)
    (case hq_law => decide +kernel)
    (case T1 => exact List.forall_mem_cons.mpr ⟨hT8 _ (by k_mem), fun _ h => absurd h List.not_mem_nil⟩)
    (case T2 => exact (List.forall_mem_cons.mpr ⟨(by kernel_rfl), (fun _ h => absurd h List.not_mem_nil)⟩))
    (case T3 => exact (List.forall_mem_cons.mpr ⟨PySem.W.codeHd_of_K KX (by kernel_rfl), (fun _ h => absurd h List.not_mem_nil)⟩))
