import PyProof.Rows.All
import Wide.All
import OpenK.AllK
import Wide.FinOn
import HandS.ForMost
import HandS.Evl
import HandS.IsInst
import HandS.StrMore
import HandS.ListItems
import KE.SortData
import KE.Datum
import PySem.Challenge.RW_cornerplans_k04_whole_joins_and_limits
import HandS.DictTup
import HandS.Keys
import KE.KDictPairs
import KE.KItemsList
import KE.DatumOrd
import HandS.Walk
import KE.DataEq
import KE.DatumMore
import HandS.TryOnly
import HandS.Style
set_option Elab.async false
set_option linter.all false
set_option maxRecDepth 100000
set_option maxHeartbeats 4000000
/-! Pure defs over data: the frozen part F of a heap H, what a reading evaluates to as data. -/
namespace Cn
open PySem PySem.Spec PyProof.Rows L2
abbrev D := PyData
abbrev Ex := Evl.Ex
variable {K : PySem.W.Frag}

/-- a tuple that is written nowhere, with no dict of its own -/
def TupZ (K : PySem.W.Frag) (H : Hp) (a : Addr) (xs : List V) : Prop := (∃ o, H a = some (.frz o (.tup xs)) ∧ o.dict = none) ∨
  ∃ (o : Obj) (its : Array Value) (n : Nat), K.lookup a = some o ∧ o.cls = .type "tuple" ∧ o.dict = none ∧ o.data = .seq its n ∧ its.size ≤ sizeLine ∧ Vals xs its.toList
theorem TupZ.sq {H : Hp} {a : Addr} {xs : List V} (h : TupZ K H a xs) : SqT K H a xs := by
  rcases h with ⟨o, h, _⟩ | ⟨o, its, n, h1, h2, _, h3⟩
  · exact .inl (.inr ⟨o, h⟩)
  · exact .inr ⟨o, its, n, h1, h2, h3⟩
theorem TupZ.ex {H G : Hp} {a : Addr} {xs : List V} (e : Ex H G) (h : TupZ K H a xs) : TupZ K G a xs := by
  rcases h with ⟨o, h, d⟩ | h
  · exact .inl ⟨o, e a _ h, d⟩
  · exact .inr h
theorem TupZ.of {H : Hp} {a : Addr} {xs : List V} {o : Obj} (h : H a = some (.frz o (.tup xs))) (d : o.dict = none) : TupZ K H a xs := .inl ⟨o, h, d⟩
/-! a value that reads as data -/
mutual
inductive Dz (K : PySem.W.Frag) (H : Hp) : V → D → Prop
  | non : Dz K H .non .none
  | bl (b : Bool) : Dz K H (.bl b) (.bool b)
  | int (i : Int) : Dz K H (.int i) (.int i)
  | str (x : Str) : Dz K H (.str x) (.str x)
  | lst {a : Addr} {xs : List V} {ds : List D} : SqL K H a xs → DzAll K H xs ds → Dz K H (.ref a) (.list ds)
  | tup {a : Addr} {xs : List V} {ds : List D} : TupZ K H a xs → DzAll K H xs ds → Dz K H (.ref a) (.tuple ds)
inductive DzAll (K : PySem.W.Frag) (H : Hp) : List V → List D → Prop
  | nil : DzAll K H [] []
  | cons {v : V} {vs : List V} {d : D} {ds : List D} : Dz K H v d → DzAll K H vs ds → DzAll K H (v :: vs) (d :: ds)
end
mutual
theorem Dz.dp {H : Hp} : ∀ {v : V} {d : D}, Dz K H v d → Dp K H v d
  | _, _, .non => .non
  | _, _, .bl b => .bl b
  | _, _, .int i => .int i
  | _, _, .str x => .str x
  | _, _, .lst h t => .lst h (DzAll.dp t)
  | _, _, .tup h t => .tup h.sq (DzAll.dp t)
theorem DzAll.dp {H : Hp} : ∀ {vs : List V} {ds : List D}, DzAll K H vs ds → DpAll K H vs ds
  | _, _, .nil => .nil
  | _, _, .cons h t => .cons (Dz.dp h) (DzAll.dp t)
end
mutual
theorem dp_ex {F G : Hp} (e : Ex F G) : ∀ {v : V} {d : D}, Dz K F v d → Dz K G v d
  | _, _, .non => .non
  | _, _, .bl b => .bl b
  | _, _, .int i => .int i
  | _, _, .str x => .str x
  | _, _, .lst h t => .lst (Evl.ex_l e h) (dpa_ex e t)
  | _, _, .tup h t => .tup (h.ex e) (dpa_ex e t)
theorem dpa_ex {F G : Hp} (e : Ex F G) : ∀ {vs : List V} {ds : List D}, DzAll K F vs ds → DzAll K G vs ds
  | _, _, .nil => .nil
  | _, _, .cons h t => .cons (dp_ex e h) (dpa_ex e t)
end

/-- F2 above F, H2 above H; what H knew and F did not, F2 does not know either -/
structure Grow (F H F2 H2 : Hp) : Prop where
  ff : Ex F F2
  fh : Ex F2 H2
  hh : Ex H H2
  nw : ∀ b o, H b = some o → F b = none → F2 b = none
theorem Grow.refl {F H : Hp} (h : Ex F H) : Grow F H F H := ⟨Evl.Ex.refl _, h, Evl.Ex.refl _, fun _ _ _ q => q⟩
theorem Grow.trans {F H F1 H1 F2 H2 : Hp} (a : Grow F H F1 H1) (b : Grow F1 H1 F2 H2) : Grow F H F2 H2 :=
  ⟨a.ff.trans b.ff, b.fh, a.hh.trans b.hh, fun c o h q => b.nw c o (a.hh c o h) (a.nw c o h q)⟩
theorem Grow.new {F H : Hp} {p : Addr} {o : HO} (e : Ex F H) (h : H p = none) : Grow F H (upd F p o) (upd H p o) := by
  have hf : F p = none := Evl.fresh_back e h
  refine ⟨Evl.Ex.new hf, fun a u q => ?_, Evl.Ex.new h, fun b u q z => ?_⟩
  · by_cases c : a = p
    · subst c
      rw [upd_same] at q ⊢
      exact q
    · rw [upd_ne c] at q ⊢
      exact e a u q
  · rw [upd_ne (ne_of_none q h)]
    exact z
/-- an object is made and stays one's own -/
theorem Grow.tmp {F H : Hp} {p : Addr} {o : HO} (e : Ex F H) (h : H p = none) : Grow F H F (upd H p o) :=
  ⟨Evl.Ex.refl _, e.trans (Evl.Ex.new h), Evl.Ex.new h, fun _ _ _ q => q⟩

/-! ### what a reading evaluates to -/
def EvD (K : PySem.W.Frag) (F : Hp) (te : TE) (σ : L2.St) (d : D) : Prop := ∀ F1 H1, Ex F F1 → Ex F1 H1 → ∀ Q : VK, (∀ v F2 H2, Grow F1 H1 F2 H2 → Dz K F2 v d → Q v H2) → te σ H1 Q
def EvB (F : Hp) (tt : TT) (σ : L2.St) (b : Bool) : Prop := ∀ F1 H1, Ex F F1 → Ex F1 H1 → ∀ Q : Bool → Hp → Prop, (∀ F2 H2, Grow F1 H1 F2 H2 → Q b H2) → tt σ H1 Q
def EvAs (K : PySem.W.Frag) (F : Hp) (ta : TA) (σ : L2.St) (ds : List D) : Prop := ∀ F1 H1, Ex F F1 → Ex F1 H1 → ∀ Q : List V → Hp → Prop, (∀ vs F2 H2, Grow F1 H1 F2 H2 → DzAll K F2 vs ds → Q vs H2) → ta σ H1 Q
/-- a block that hands back data -/
def EvS (K : PySem.W.Frag) (F : Hp) (ts : TS) (σ : L2.St) (d : D) : Prop := ∀ F1 H1, Ex F F1 → Ex F1 H1 → ∀ E : Ends, (∀ v F2 H2, Grow F1 H1 F2 H2 → Dz K F2 v d → E.rt v H2) → ts E σ H1
/-- a slot that holds data -/
def Sl (K : PySem.W.Frag) (F : Hp) (σ : L2.St) (i : Nat) (d : D) : Prop := ∃ v, σ[i]? = some (some v) ∧ Dz K F v d

section
variable {F G : Hp} {σ : L2.St} {te ta tb : TE} {tt tu : TT} {tas : TA} {d e : D} {ds : List D} {b c : Bool} {i : Nat}
theorem EvD.mono (x : Ex F G) (h : EvD K F te σ d) : EvD K G te σ d := fun F1 H1 a => h F1 H1 (x.trans a)
theorem EvB.mono (x : Ex F G) (h : EvB F tt σ b) : EvB G tt σ b := fun F1 H1 a => h F1 H1 (x.trans a)
theorem EvAs.mono (x : Ex F G) (h : EvAs K F tas σ ds) : EvAs K G tas σ ds := fun F1 H1 a => h F1 H1 (x.trans a)
theorem EvD.eq (h : EvD K F te σ d) (q : d = e) : EvD K F te σ e := q ▸ h
theorem EvB.eq (h : EvB F tt σ b) (q : b = c) : EvB F tt σ c := q ▸ h
theorem Sl.mono (x : Ex F G) (h : Sl K F σ i d) : Sl K G σ i d := let ⟨v, a, b⟩ := h; ⟨v, a, dp_ex x b⟩
theorem sl {v : V} (h : σ[i]? = some (some v)) (q : Dz K F v d) : Sl K F σ i d := ⟨v, h, q⟩

theorem ed_var (h : Sl K F σ i d) : EvD K F (tVar i) σ d := fun F1 H1 a z Q q => by
  obtain ⟨v, h1, h2⟩ := h
  exact ⟨v, h1, q v F1 H1 (Grow.refl z) (dp_ex a h2)⟩
theorem ed_c {v : V} (h : Dz K F v d) : EvD K F (tC v) σ d := fun F1 H1 a z Q q => q v F1 H1 (Grow.refl z) (dp_ex a h)
theorem ed_non : EvD K F (tC .non) σ .none := ed_c .non
theorem ed_int {n : Int} : EvD K F (tC (.int n)) σ (.int n) := ed_c (.int n)
theorem ed_bl : EvD K F (tC (.bl b)) σ (.bool b) := ed_c (.bl b)
theorem ed_str {x : Str} : EvD K F (tC (.str x)) σ (.str x) := ed_c (.str x)

theorem eas_nil : EvAs K F tNil σ [] := fun F1 H1 _ z _ q => q [] F1 H1 (Grow.refl z) .nil
theorem eas_cons (h : EvD K F te σ d) (t : EvAs K F tas σ ds) : EvAs K F (tCons te tas) σ (d :: ds) := fun F1 H1 a z Q q =>
  h F1 H1 a z _ fun v F2 H2 g r => t F2 H2 (a.trans g.ff) g.fh _ fun vs F3 H3 g2 r2 => q (v :: vs) F3 H3 (g.trans g2) (.cons (dp_ex g2.ff r) r2)
theorem eas_one (h : EvD K F te σ d) : EvAs K F (tCons te tNil) σ [d] := eas_cons h eas_nil
theorem eas_two (h : EvD K F ta σ d) (k : EvD K F tb σ e) : EvAs K F (tCons ta (tCons tb tNil)) σ [d, e] := eas_cons h (eas_one k)

/-! tests -/
theorem eb_val (h : EvD K F te σ (.bool b)) : EvB F (tB te) σ b := fun F1 H1 a z Q q => h F1 H1 a z _ fun v F2 H2 g r => by
  cases r
  exact ⟨b, rfl, q F2 H2 g⟩
theorem eb_test (h : EvD K F te σ (.bool b)) : EvB F (tTest te) σ b := fun F1 H1 a z Q q => h F1 H1 a z _ fun v F2 H2 g r => by
  cases r
  exact ⟨b, rfl, q F2 H2 g⟩
theorem eb_not (h : EvB F tt σ b) : EvB F (tNot tt) σ (!b) := fun F1 H1 a z _ q => h F1 H1 a z _ fun F2 H2 g => q F2 H2 g
theorem eb_and (h : EvB F tt σ b) (k : b = true → EvB F tu σ c) : EvB F (tAnd tt tu) σ (b && c) := fun F1 H1 a z Q q => h F1 H1 a z _ fun F2 H2 g => by
  cases b with
  | true => exact iteT (k rfl F2 H2 (a.trans g.ff) g.fh Q fun F3 H3 g2 => q F3 H3 (g.trans g2))
  | false => exact iteF (q F2 H2 g)
theorem eb_or (h : EvB F tt σ b) (k : b = false → EvB F tu σ c) : EvB F (tOr tt tu) σ (b || c) := fun F1 H1 a z Q q => h F1 H1 a z _ fun F2 H2 g => by
  cases b with
  | true => exact iteT (q F2 H2 g)
  | false => exact iteF (k rfl F2 H2 (a.trans g.ff) g.fh Q fun F3 H3 g2 => q F3 H3 (g.trans g2))
/-! truth values -/
theorem ed_and (h : EvD K F ta σ (.bool b)) (k : b = true → EvD K F tb σ (.bool c)) : EvD K F (tAndV ta tb) σ (.bool (b && c)) := fun F1 H1 a z Q q => h F1 H1 a z _ fun v F2 H2 g r => by
  cases r
  refine ⟨b, rfl, ?_⟩
  cases b with
  | true => exact iteT (k rfl F2 H2 (a.trans g.ff) g.fh Q fun v F3 H3 g2 => q v F3 H3 (g.trans g2))
  | false => exact iteF (q _ F2 H2 g (.bl false))
theorem ed_or (h : EvD K F ta σ (.bool b)) (k : b = false → EvD K F tb σ (.bool c)) : EvD K F (tOrV ta tb) σ (.bool (b || c)) := fun F1 H1 a z Q q => h F1 H1 a z _ fun v F2 H2 g r => by
  cases r
  refine ⟨b, rfl, ?_⟩
  cases b with
  | true => exact iteT (q _ F2 H2 g (.bl true))
  | false => exact iteF (k rfl F2 H2 (a.trans g.ff) g.fh Q fun v F3 H3 g2 => q v F3 H3 (g.trans g2))
theorem ed_not (h : EvD K F ta σ (.bool b)) : EvD K F (tNotV ta) σ (.bool (!b)) := fun F1 H1 a z Q q => h F1 H1 a z _ fun v F2 H2 g r => by
  cases r
  exact ⟨b, rfl, q _ F2 H2 g (.bl _)⟩
theorem ed_if (h : EvB F tt σ b) (k1 : b = true → EvD K F ta σ d) (k2 : b = false → EvD K F tb σ d) : EvD K F (tIf tt ta tb) σ d := fun F1 H1 a z Q q => h F1 H1 a z _ fun F2 H2 g => by
  cases b with
  | true => exact iteT (k1 rfl F2 H2 (a.trans g.ff) g.fh Q fun v F3 H3 g2 => q v F3 H3 (g.trans g2))
  | false => exact iteF (k2 rfl F2 H2 (a.trans g.ff) g.fh Q fun v F3 H3 g2 => q v F3 H3 (g.trans g2))

/-! operators and calls by values -/
/-- an operator on data that makes nothing new -/
theorem ed_op {r : R2} (h : EvD K F ta σ d) (k : EvD K F tb σ e) {f : D} (hr : ∀ x y F1 H1, Ex F1 H1 → Dz K F1 x d → Dz K F1 y e → ∀ Q : VK, (∀ v, Dz K F1 v f → Q v H1) → r x y H1 Q) : EvD K F (tOp r ta tb) σ f := fun F1 H1 a z Q q =>
  h F1 H1 a z _ fun v F2 H2 g r1 => k F2 H2 (a.trans g.ff) g.fh _ fun w F3 H3 g2 r2 => hr v w F3 H3 g2.fh (dp_ex g2.ff r1) r2 Q fun x r3 => q x F3 H3 (g.trans g2) r3
theorem ed_cb {r : List V → Hp → VK → Prop} (h : EvAs K F tas σ ds) {f : D} (hr : ∀ vs F1 H1, Ex F1 H1 → DzAll K F1 vs ds → ∀ Q : VK, (∀ v F2 H2, Grow F1 H1 F2 H2 → Dz K F2 v f → Q v H2) → r vs H1 Q) : EvD K F (tCB r tas) σ f := fun F1 H1 a z Q q =>
  h F1 H1 a z _ fun vs F2 H2 g r1 => hr vs F2 H2 g.fh r1 Q fun v F3 H3 g2 r2 => q v F3 H3 (g.trans g2) r2
def tTupZ (t : TA) : TE := fun σ H Q => t σ H fun xs H1 => xs.length ≤ sizeLine ∧ ∀ (p : Addr) (o : Obj), H1 p = none → o.dict = none → Q (.ref p) (upd H1 p (.frz o (.tup xs)))
theorem ed_tup (h : EvAs K F tas σ ds) (hl : ds.length ≤ 100000) : EvD K F (tTupZ tas) σ (.tuple ds) := fun F1 H1 a z Q q => h F1 H1 a z _ fun vs F2 H2 g r => by
  have l : ∀ {vs : List V} {ds : List D}, DzAll K F2 vs ds → vs.length = ds.length := fun {vs ds} r => by
    induction ds generalizing vs with
    | nil => cases r; rfl
    | cons d ds ih => cases r with
      | cons _ t => rw [List.length_cons, List.length_cons, ih t]
  refine ⟨Evl.sz_of (by rw [l r]; exact hl), fun p o hp hd => ?_⟩
  have n := Grow.new (o := .frz o (.tup vs)) g.fh hp
  exact q _ _ _ (g.trans n) (.tup (TupZ.of upd_same hd) (dpa_ex n.ff r))
end
theorem dpa_len {F : Hp} : ∀ {vs : List V} {ds : List D}, DzAll K F vs ds → vs.length = ds.length
  | _, _, .nil => rfl
  | _, _, .cons _ t => by rw [List.length_cons, List.length_cons, dpa_len t]
theorem dpa_get {F : Hp} : ∀ {vs : List V} {ds : List D} {i : Nat} {v : V}, DzAll K F vs ds → vs[i]? = some v → ∃ d, ds[i]? = some d ∧ Dz K F v d
  | _, _, _, _, .nil, e => by simp at e
  | _, _, 0, _, .cons h _, e => by simp at e; subst e; exact ⟨_, rfl, h⟩
  | _, _, i + 1, v, .cons _ t, e => by
    obtain ⟨d, h1, h2⟩ := dpa_get (i := i) (v := v) t (by simpa using e)
    exact ⟨d, by simpa using h1, h2⟩
theorem dpa_get' {F : Hp} : ∀ {vs : List V} {ds : List D} {i : Nat} {d : D}, DzAll K F vs ds → ds[i]? = some d → ∃ v, vs[i]? = some v ∧ Dz K F v d
  | _, _, _, _, .nil, e => by simp at e
  | _, _, 0, _, .cons h _, e => by simp at e; subst e; exact ⟨_, rfl, h⟩
  | _, _, i + 1, d, .cons _ t, e => by
    obtain ⟨v, h1, h2⟩ := dpa_get' (i := i) (d := d) t (by simpa using e)
    exact ⟨v, by simpa using h1, h2⟩
theorem dpa_app {F : Hp} : ∀ {vs ws : List V} {ds es : List D}, DzAll K F vs ds → DzAll K F ws es → DzAll K F (vs ++ ws) (ds ++ es)
  | _, _, _, _, .nil, h => h
  | _, _, _, _, .cons h t, k => .cons h (dpa_app t k)
theorem dpa_bools {F : Hp} : ∀ {vs : List V} {bs : List Bool}, DzAll K F vs (bs.map .bool) → vs = bs.map V.bl
  | _, [], .nil => rfl
  | _, _ :: bs, .cons h t => by
    cases h
    rw [dpa_bools t]
    rfl
theorem dpa_ints {F : Hp} : ∀ {vs : List V} {bs : List Int}, DzAll K F vs (bs.map .int) → vs = bs.map V.int
  | _, [], .nil => rfl
  | _, _ :: bs, .cons h t => by
    cases h
    rw [dpa_ints t]
    rfl
theorem dpa_strs {F : Hp} : ∀ {vs : List V} {bs : List Str}, DzAll K F vs (bs.map .str) → vs = bs.map V.str
  | _, [], .nil => rfl
  | _, _ :: bs, .cons h t => by
    cases h
    rw [dpa_strs t]
    rfl
theorem dpa_of_strs {F : Hp} : ∀ (bs : List Str), DzAll K F (bs.map V.str) (bs.map .str)
  | [] => .nil
  | _ :: bs => .cons (.str _) (dpa_of_strs bs)
/-! blocks -/
section
variable {F G : Hp} {σ : L2.St} {te ta tb : TE} {tt tu : TT} {ts tr : TS} {tas : TA} {d e : D} {ds : List D} {b c : Bool} {i : Nat}
theorem es_ret (h : EvD K F te σ d) : EvS K F (tRet te) σ d := fun F1 H1 a z E q => h F1 H1 a z _ q
theorem EvS.eq (h : EvS K F ts σ d) (q : d = e) : EvS K F ts σ e := q ▸ h
theorem es_set (h : EvD K F te σ e) (k : ∀ v G, Ex F G → Dz K G v e → EvS K G tr (σ.set i (some v)) d) : EvS K F (tSeq (tAsg te (gName i)) tr) σ d := fun F1 H1 a z E q =>
  h F1 H1 a z _ fun v F2 H2 g r => k v F2 (a.trans g.ff) r F2 H2 (Evl.Ex.refl _) g.fh E fun w F3 H3 g2 r2 => q w F3 H3 (g.trans g2) r2
theorem es_if (h : EvB F tt σ b) (k1 : b = true → EvS K F ts σ d) (k2 : b = false → EvS K F tr σ d) : EvS K F (tSeq (tIfS tt ts tNext) tr) σ d := fun F1 H1 a z E q => h F1 H1 a z _ fun F2 H2 g => by
  cases b with
  | true => exact iteT (k1 rfl F2 H2 (a.trans g.ff) g.fh _ fun w F3 H3 g2 r2 => q w F3 H3 (g.trans g2) r2)
  | false => exact iteF (k2 rfl F2 H2 (a.trans g.ff) g.fh E fun w F3 H3 g2 r2 => q w F3 H3 (g.trans g2) r2)
end

/-! ### promises of defs over data -/
def spD (K : PySem.W.Frag) (n : Nat) (R : List D → D → Prop) : Sp := fun vs H Q _ => ∃ ds d F, Ex F H ∧ DzAll K F vs ds ∧ ds.length = n ∧ R ds d ∧ ∀ v F2 H2, Grow F H F2 H2 → Dz K F2 v d → Q v H2
theorem spD_len {n : Nat} {R : List D → D → Prop} (vs : List V) (H : Hp) (Q : VK) (E : XK) (h : spD K n R vs H Q E) : vs.length = n := by
  obtain ⟨ds, d, F, _, h1, h2, _⟩ := h
  rw [dpa_len h1, h2]
theorem ed_call {F : Hp} {σ : L2.St} {tas : TA} {n : Nat} {R : List D → D → Prop} {ds : List D} {d : D} {E : XK} (h : EvAs K F tas σ ds) (hn : ds.length = n) (r : R ds d) : EvD K F (tCall (spD K n R) [] E tas) σ d := fun F1 H1 a z Q q =>
  h F1 H1 a z _ fun vs F2 H2 g r1 => ⟨ds, d, F2, g.fh, by rw [List.append_nil]; exact r1, hn, r, fun v F3 H3 g2 r2 => q v F3 H3 (g.trans g2) r2⟩
/-- a def of the module that keeps a promise -/
def Kp (P : Program) (w : World) (K : PySem.W.Frag) (mg : Str → Option Value) (base : Heap) (k : Nat) (x : Str) (ps : List Str) (sp : Sp) : Prop :=
  ∃ (f : Addr) (fd : FuncData), mg x = some (.ref f) ∧ PySem.W.keepIn K (.ref f) = true ∧ Binds K fd ps [] ∧ FnOk P w K mg base CX0 k f fd ps sp
theorem Kp.mono {P : Program} {w : World} {mg : Str → Option Value} {base : Heap} {j k : Nat} {x : Str} {ps : List Str} {sp : Sp} (h : Kp P w K mg base j x ps sp) (l : j ≤ k) : Kp P w K mg base k x ps sp :=
  let ⟨f, fd, a, b, c, d⟩ := h; ⟨f, fd, a, b, c, d.mono l⟩
theorem pe_kp {X : Cx} {k : Nat} {x : Str} {ps : List Str} {sp : Sp} {p pos : Pos} {e : Expr} {es : List Expr} {t : TA} (h : Kp X.prog X.w X.K X.mg X.base k x ps sp) (hr : Room k X.A) (hg : Gl X x) (ha : PA X (e :: es) t) (hdb : (x == ("__debug__" : Str)) = false := by decide)
    (he : starEach (e :: es) X.env = (false, eval e X.env) :: starEach es X.env := by rfl) (hpl : (backTo pos (starEach es X.env)).any (·.1) = false := by rfl) : PE X (.Call (.Name x p) (e :: es) [] pos) (tCall sp [] E0 t) := by
  obtain ⟨f, fd, h1, h2, h3, h4⟩ := h
  exact pe_call h4 hr hg h1 h2 h3 .nil pass0 ha hdb he hpl
/-- (a, b, ..), as an object that is never written -/
theorem pe_tupZ {X : Cx} {es : List Expr} {t : TA} {pos : Pos} {x1} (h : PA X es t) : PE X (.Tuple es x1 pos) (tTupZ t) := by
  refine ⟨fun pins s σ H Q I hq => ?_⟩
  refine wpAny_Tuple_spliced (thn (h.run pos pins s σ H _ I hq) fun us s1 ⟨xs, H1, I1, r, z, q⟩ => ⟨by rw [← r.length]; exact z, ?_⟩)
  have hf : H1 s1.heap.objs.size = none := I1.hok.fresh (Nat.le_refl _)
  have hg : (s1.heap.push { cls := Value.type "tuple", data := Data.seq us.toArray }).get? s1.heap.objs.size = some { cls := Value.type "tuple", data := Data.seq us.toArray } := Heap.get?_push_size _ rfl
  exact ⟨.ref s1.heap.objs.size, upd H1 s1.heap.objs.size (.frz { cls := Value.type "tuple", data := Data.seq us.toArray } (.tup xs)), I1.laid (t' := s1.toks) (fun b u e => Heap.get?_push_of_some _ e) (Nat.le_refl _) ⟨hg, z, us, r, ⟨_, hg, rfl, _, rfl⟩⟩, rfl, q _ _ hf rfl⟩
end Cn
set_option Elab.async false
set_option linter.all false
set_option maxRecDepth 100000
set_option maxHeartbeats 4000000
namespace Cn
open PySem PySem.Spec PyProof.Rows L2
variable {K : PySem.W.Frag}

/-! ### targets -/
theorem g_pair {F1 H1 : Hp} {σ : L2.St} {i j : Nat} {v : V} {d e : D} {R : L2.St → Hp → Prop} (r : Dz K F1 v (.tuple [d, e])) (z : Ex F1 H1)
    (k : ∀ v1 v2, Dz K F1 v1 d → Dz K F1 v2 e → R ((σ.set i (some v1)).set j (some v2)) H1) : gTup K 2 (gCons (gName i) (gCons (gName j) gNil)) v σ H1 R := by
  cases r with
  | tup hs ha =>
    cases ha with
    | cons h1 t =>
      cases t with
      | cons h2 t =>
        cases t
        exact ⟨_, _, rfl, (hs.ex z).sq, rfl, _, _, rfl, _, _, rfl, rfl, k _ _ h1 h2⟩

/-! ### [f(d) for d in ds if p(d)] -/
/-- what one turn must do: from an item v that reads as d to the places σ2 where test and element are read -/
def Turn (K : PySem.W.Frag) (F : Hp) (g : TG) (tt : TT) (te : TE) (σ : L2.St) (vs : List Nat) (p : D → Bool) (f : D → D) (d : D) : Prop :=
  ∀ v F1 H1, Ex F F1 → Ex F1 H1 → Dz K F1 v d → ∀ R : L2.St → Hp → Prop, (∀ σ2, wipe σ2 vs = wipe σ vs → EvB F1 tt σ2 (p d) → (p d = true → EvD K F1 te σ2 (f d)) → R σ2 H1) → g v (wipe σ vs) H1 R

/-- the invariant: behind the first items the new list at L -/
structure LcAt (K : PySem.W.Frag) (F H0 : Hp) (L : Addr) (ds : List D) (H : Hp) (Fi : Hp) (acc : List V) : Prop where
  g : Grow F H0 Fi H
  fl : Fi L = none
  at_ : H L = some (.lst acc)
  n0 : H0 L = none
  da : DzAll K Fi acc ds
theorem lc_turn {F H0 : Hp} {L : Addr} {g : TG} {tt : TT} {te : TE} {σ : L2.St} {vs : List Nat} {p : D → Bool} {f : D → D} {d : D} {ds : List D} {H : Hp} {Fi : Hp} {acc : List V} {v : V} (T : Turn K F g tt te σ vs p f d) (I : LcAt K F H0 L ds H Fi acc) (hd : Dz K F v d) (hn : ds.length < 100000)
    {Pn : Hp → Prop} (k : ∀ H' Fj acc', LcAt K F H0 L (if p d = true then ds ++ [f d] else ds) H' Fj acc' → Pn H') :
    g v (wipe σ vs) H fun σ2 H2 => wipe σ2 vs = wipe σ vs ∧ tt σ2 H2 fun b H3 => if b = true then te σ2 H3 fun y H4 => ∃ acc, H4 L = some (.lst acc) ∧ acc.length < sizeLine ∧ Pn (upd H4 L (.lst (acc ++ [y]))) else Pn H3 := by
  refine T v Fi H I.g.ff I.g.fh (dp_ex I.g.ff hd) _ fun σ2 w tb tv => ⟨w, tb Fi H (Evl.Ex.refl _) I.g.fh _ fun F3 H3 g3 => ?_⟩
  have f3 : F3 L = none := g3.nw L _ I.at_ I.fl
  by_cases hp : p d = true
  · rw [hp]
    refine iteT (tv hp F3 H3 g3.ff g3.fh _ fun y F4 H4 g4 r => ?_)
    have at4 : H4 L = some (.lst acc) := g4.hh L _ (g3.hh L _ I.at_)
    have f4 : F4 L = none := g4.nw L _ (g3.hh L _ I.at_) f3
    refine ⟨acc, at4, Evl.sz_lt (by rw [dpa_len I.da]; exact hn), k _ F4 (acc ++ [y]) ?_⟩
    have G := I.g.trans (g3.trans g4)
    rw [if_pos hp]
    exact ⟨⟨G.ff, Evl.Ex.mut G.fh f4, Evl.Ex.mut G.hh I.n0, G.nw⟩, f4, upd_same, I.n0, dpa_app (dpa_ex (g3.trans g4).ff I.da) (.cons r .nil)⟩
  · rw [Bool.eq_false_iff.mpr hp]
    refine iteF (k _ F3 acc ?_)
    rw [if_neg (by rw [Bool.eq_false_iff.mpr hp]; exact Bool.false_ne_true)]
    exact ⟨I.g.trans g3, f3, g3.hh L _ I.at_, I.n0, dpa_ex g3.ff I.da⟩
/-- a new list of data -/
def EvN (K : PySem.W.Frag) (F : Hp) (te : TE) (σ : L2.St) (ds : List D) : Prop := ∀ F1 H1, Ex F F1 → Ex F1 H1 → ∀ Q : VK, (∀ p xs F2 H2, Grow F1 H1 F2 H2 → H1 p = none → F2 p = some (.lst xs) → DzAll K F2 xs ds → Q (.ref p) H2) → te σ H1 Q
theorem EvN.d {F : Hp} {te : TE} {σ : L2.St} {ds : List D} (h : EvN K F te σ ds) : EvD K F te σ (.list ds) := fun F1 H1 a z Q q => h F1 H1 a z Q fun p xs F2 H2 g _ h2 r => q _ F2 H2 g (.lst (SqL.of h2) r)
theorem LcAt.done {F H0 : Hp} {L : Addr} {ds : List D} {H : Hp} {Fi : Hp} {acc : List V} (I : LcAt K F H0 L ds H Fi acc) : Grow F H0 (upd Fi L (.lst acc)) H ∧ DzAll K (upd Fi L (.lst acc)) acc ds := by
  have x : Ex Fi (upd Fi L (.lst acc)) := Evl.Ex.new I.fl
  refine ⟨⟨I.g.ff.trans x, fun a o e => ?_, I.g.hh, fun b o e q => ?_⟩, dpa_ex x I.da⟩
  · by_cases c : a = L
    · subst c
      rw [upd_same] at e
      rw [← e]
      exact I.at_
    · rw [upd_ne c] at e
      exact I.g.fh a o e
  · rw [upd_ne (ne_of_none e I.n0)]
    exact I.g.nw b o e q
theorem take_at {α : Type} {l : List α} {i : Nat} {x : α} (h : l[i]? = some x) : l.take (i + 1) = l.take i ++ [x] := by
  rw [List.take_succ, h]
  rfl
theorem fm_snoc (p : D → Bool) (f : D → D) (l : List D) (d : D) : ((l ++ [d]).filter p).map f = if p d = true then (l.filter p).map f ++ [f d] else (l.filter p).map f := by
  rw [List.filter_append, List.map_append]
  by_cases h : p d = true
  · rw [if_pos h, List.filter_cons_of_pos h]
    rfl
  · rw [if_neg h, List.filter_cons_of_neg h, List.filter_nil, List.map_nil, List.append_nil]
theorem fm_len (p : D → Bool) (f : D → D) (l : List D) (i : Nat) : (((l.take i).filter p).map f).length ≤ l.length := by
  rw [List.length_map]
  exact Nat.le_trans (List.length_filter_le _ _) (by rw [List.length_take]; omega)
theorem Turn.mono {F G : Hp} {g : TG} {tt : TT} {te : TE} {σ : L2.St} {vs : List Nat} {p : D → Bool} {f : D → D} {d : D} (e : Ex F G) (T : Turn K F g tt te σ vs p f d) : Turn K G g tt te σ vs p f d := fun v F1 H1 a => T v F1 H1 (e.trans a)
section
variable {F : Hp} {tl : TE} {g : TG} {tt : TT} {te : TE} {σ : L2.St} {vs : List Nat} {ds : List D}
theorem en_lcT (p : D → Bool) (f : D → D) (h : EvD K F tl σ (.tuple ds)) (hl : ds.length < 100000) (hs : ∀ d ∈ ds, Turn K F g tt te σ vs p f d) : EvN K F (tLc (iTup K tl) g tt te vs) σ ((ds.filter p).map f) := fun F1 H1 a z Q q =>
  h F1 H1 a z _ fun v F2 H2 g2 r => by
    cases r with
    | @tup b xs _ hsq ha =>
      refine ⟨b, rfl, ⟨xs, (hsq.ex g2.fh).sq⟩, fun L hL => ?_⟩
      refine lc_tup (xs := xs) (fun i H => ∃ Fi acc, LcAt K F2 H2 L (((ds.take i).filter p).map f) H Fi acc) ⟨F2, [], ⟨Grow.tmp g2.fh hL, Evl.fresh_back g2.fh hL, upd_same, hL, .nil⟩⟩
        (fun i H _ ⟨Fi, acc, I⟩ => (hsq.ex (I.g.ff.trans I.g.fh)).sq) (fun i x H hx ⟨Fi, acc, I⟩ => ?_) (fun H ⟨Fi, acc, I⟩ => ?_)
      · obtain ⟨d, hd, rd⟩ := dpa_get ha hx
        refine lc_turn ((hs d (List.mem_of_getElem? hd)).mono (a.trans g2.ff)) I rd (Nat.lt_of_le_of_lt (fm_len p f ds i) hl) fun H' Fj acc' J => ⟨Fj, acc', ?_⟩
        rw [take_at hd, fm_snoc]
        exact J
      · have e : ds.take xs.length = ds := by rw [dpa_len ha, List.take_length]
        rw [e] at I
        obtain ⟨g3, r3⟩ := I.done
        exact q _ _ _ _ (g2.trans g3) (Evl.fresh_back g2.hh hL) upd_same r3
theorem en_lcL (p : D → Bool) (f : D → D) (h : EvD K F tl σ (.list ds)) (hl : ds.length < 100000) (hs : ∀ d ∈ ds, Turn K F g tt te σ vs p f d) : EvN K F (tLc (iList K tl) g tt te vs) σ ((ds.filter p).map f) := fun F1 H1 a z Q q =>
  h F1 H1 a z _ fun v F2 H2 g2 r => by
    cases r with
    | @lst b xs _ hsq ha =>
      refine ⟨b, rfl, ⟨xs, Evl.ex_l g2.fh hsq⟩, fun L hL => ?_⟩
      refine lc_list (xs := xs) (fun i H => ∃ Fi acc, LcAt K F2 H2 L (((ds.take i).filter p).map f) H Fi acc) ⟨F2, [], ⟨Grow.tmp g2.fh hL, Evl.fresh_back g2.fh hL, upd_same, hL, .nil⟩⟩
        (fun i H _ ⟨Fi, acc, I⟩ => Evl.ex_l (I.g.ff.trans I.g.fh) hsq) (fun i x H hx ⟨Fi, acc, I⟩ => ?_) (fun H ⟨Fi, acc, I⟩ => ?_)
      · obtain ⟨d, hd, rd⟩ := dpa_get ha hx
        refine lc_turn ((hs d (List.mem_of_getElem? hd)).mono (a.trans g2.ff)) I rd (Nat.lt_of_le_of_lt (fm_len p f ds i) hl) fun H' Fj acc' J => ⟨Fj, acc', ?_⟩
        rw [take_at hd, fm_snoc]
        exact J
      · have e : ds.take xs.length = ds := by rw [dpa_len ha, List.take_length]
        rw [e] at I
        obtain ⟨g3, r3⟩ := I.done
        exact q _ _ _ _ (g2.trans g3) (Evl.fresh_back g2.hh hL) upd_same r3
/-- over range(n): items 0 .. n - 1 -/
def nats (n : Nat) : List D := (List.range n).map fun (i : Nat) => PyData.int (i : Int)
theorem nats_get {n i : Nat} (h : i < n) : (nats n)[i]? = some (.int (i : Int)) := by
  unfold nats
  rw [List.getElem?_map, List.getElem?_range h]
  rfl
theorem nats_len (n : Nat) : (nats n).length = n := by
  unfold nats
  rw [List.length_map, List.length_range]
theorem en_lcR (p : D → Bool) (f : D → D) {n : Int} (h : EvD K F tl σ (.int n)) (hl : n < 100000) (h0 : -100000 < n) (hs : ∀ d ∈ nats n.toNat, Turn K F g tt te σ vs p f d) : EvN K F (tLc (iRng1 (tCons tl tNil)) g tt te vs) σ (((nats n.toNat).filter p).map f) := fun F1 H1 a z Q q =>
  h F1 H1 a z _ fun v F2 H2 g2 r => by
    cases r
    refine ⟨n, rfl, by omega, by omega, fun L hL => ?_⟩
    refine lc_range (lo := 0) (n := n.toNat) (fun i H => ∃ Fi acc, LcAt K F2 H2 L ((((nats n.toNat).take i).filter p).map f) H Fi acc) ⟨F2, [], ⟨Grow.tmp g2.fh hL, Evl.fresh_back g2.fh hL, upd_same, hL, .nil⟩⟩
      (fun i H hi ⟨Fi, acc, I⟩ => ?_) (fun H ⟨Fi, acc, I⟩ => ?_)
    · have hd := nats_get hi
      have ez : (0 : Int) + (i : Int) = (i : Int) := Int.zero_add _
      rw [ez]
      refine lc_turn ((hs _ (List.mem_of_getElem? hd)).mono (a.trans g2.ff)) I (.int _) (Nat.lt_of_le_of_lt (fm_len p f _ i) (by rw [nats_len]; omega)) fun H' Fj acc' J => ⟨Fj, acc', ?_⟩
      rw [take_at hd, fm_snoc]
      exact J
    · have e : (nats n.toNat).take n.toNat = nats n.toNat := List.take_of_length_le (by rw [nats_len]; exact Nat.le_refl _)
      rw [e] at I
      obtain ⟨g3, r3⟩ := I.done
      exact q _ _ _ _ (g2.trans g3) (Evl.fresh_back g2.hh hL) upd_same r3
theorem ed_lcT (p : D → Bool) (f : D → D) (h : EvD K F tl σ (.tuple ds)) (hl : ds.length < 100000) (hs : ∀ d ∈ ds, Turn K F g tt te σ vs p f d) : EvD K F (tLc (iTup K tl) g tt te vs) σ (.list ((ds.filter p).map f)) := (en_lcT p f h hl hs).d
theorem ed_lcL (p : D → Bool) (f : D → D) (h : EvD K F tl σ (.list ds)) (hl : ds.length < 100000) (hs : ∀ d ∈ ds, Turn K F g tt te σ vs p f d) : EvD K F (tLc (iList K tl) g tt te vs) σ (.list ((ds.filter p).map f)) := (en_lcL p f h hl hs).d
theorem ed_lcR (p : D → Bool) (f : D → D) {n : Int} (h : EvD K F tl σ (.int n)) (hl : n < 100000) (h0 : -100000 < n) (hs : ∀ d ∈ nats n.toNat, Turn K F g tt te σ vs p f d) : EvD K F (tLc (iRng1 (tCons tl tNil)) g tt te vs) σ (.list (((nats n.toNat).filter p).map f)) := (en_lcR p f h hl h0 hs).d
theorem EvN.eq {es : List D} (h : EvN K F tl σ ds) (e : ds = es) : EvN K F tl σ es := e ▸ h
end
/-- no test -/
theorem eb_yes {F : Hp} {σ : L2.St} : EvB F tYes σ true := fun F1 H1 a z Q q => q F1 H1 (Grow.refl z)
theorem filter_yes {l : List D} : l.filter (fun _ => true) = l := List.filter_eq_self.mpr fun _ _ => rfl
/-- a turn whose target is one name -/
theorem turn_name {F : Hp} {tt : TT} {te : TE} {σ : L2.St} {vs : List Nat} {p : D → Bool} {f : D → D} {d : D} {i : Nat} (hw : ∀ v, wipe ((wipe σ vs).set i (some v)) vs = wipe σ vs)
    (ht : ∀ v G, Ex F G → Dz K G v d → EvB G tt ((wipe σ vs).set i (some v)) (p d)) (he : p d = true → ∀ v G, Ex F G → Dz K G v d → EvD K G te ((wipe σ vs).set i (some v)) (f d)) : Turn K F (gName i) tt te σ vs p f d :=
  fun v F1 H1 a z r R k => k _ (hw v) (ht v F1 a r) (fun h => he h v F1 a r)
theorem turn_pair {F : Hp} {tt : TT} {te : TE} {σ : L2.St} {vs : List Nat} {p : D → Bool} {f : D → D} {d e : D} {i j : Nat} (hw : ∀ v w, wipe (((wipe σ vs).set i (some v)).set j (some w)) vs = wipe σ vs)
    (ht : ∀ v w G, Ex F G → Dz K G v d → Dz K G w e → EvB G tt (((wipe σ vs).set i (some v)).set j (some w)) (p (.tuple [d, e])))
    (he : p (.tuple [d, e]) = true → ∀ v w G, Ex F G → Dz K G v d → Dz K G w e → EvD K G te (((wipe σ vs).set i (some v)).set j (some w)) (f (.tuple [d, e]))) :
    Turn K F (gTup K 2 (gCons (gName i) (gCons (gName j) gNil))) tt te σ vs p f (.tuple [d, e]) :=
  fun v F1 H1 a z r R k => g_pair r z fun v1 v2 r1 r2 => k _ (hw v1 v2) (ht v1 v2 F1 a r1 r2) (fun h => he h v1 v2 F1 a r1 r2)

/-! ### built-ins over data -/
section
variable {F : Hp} {σ : L2.St} {te ta tb : TE} {d e : D} {ds : List D}
theorem ed_all {bs : List Bool} (h : EvD K F te σ (.list (bs.map .bool))) : EvD K F (tCB (rAll K) (tCons te tNil)) σ (.bool (bs.all id)) := ed_cb (eas_one h) fun vs F1 H1 z r Q q => by
  cases r with
  | cons r t =>
    cases t
    cases r with
    | lst hs ha =>
      rw [dpa_bools ha] at hs
      exact ⟨_, bs, rfl, Evl.ex_l z hs, q _ F1 H1 (Grow.refl z) (.bl _)⟩
def tyD : D → String
  | .none => "NoneType"
  | .bool _ => "bool"
  | .int _ => "int"
  | .str _ => "str"
  | .list _ => "list"
  | .tuple _ => "tuple"
  | .dict _ => "dict"
theorem dp_tyx {H : Hp} {v : V} (r : Dz K H v d) : TyX K H v (.type (tyD d)) := by
  cases r with
  | non => exact .base .non
  | bl b => exact .base (.bl b)
  | int i => exact .base (.int i)
  | str x => exact .base (.str x)
  | lst hs _ =>
    rcases hs with (h | ⟨o, h⟩) | ⟨o, its, n, h, c, _⟩
    · exact .base (.lst h)
    · exact .base (.frz h)
    · exact .kList h c
  | tup hs _ =>
    rcases hs with ⟨o, h, _⟩ | ⟨o, its, n, h, c, _⟩
    · exact .fTuple h
    · exact .kTuple h c
theorem ed_isi {T : String} {b : Bool} (h : EvD K F te σ d) (hk : kitB (tyD d) T = some b) : EvD K F (tCB (rIsi K) (tCons te (tCons (tC (.ty T)) tNil))) σ (.bool b) := fun F1 H1 a z Q q => h F1 H1 a z _ fun v F2 H2 g r =>
  ⟨v, .ty T, .type (tyD d), .type T, b, rfl, .ty T, dp_tyx (dp_ex g.fh r), kit_ty hk, q _ F2 H2 g (.bl b)⟩
/-- of two classes -/
theorem ed_isi2 {T S : String} {b c : Bool} (h : EvD K F te σ d) (hk : kitB (tyD d) T = some b) (hk2 : kitB (tyD d) S = some c) :
    EvD K F (tCB (rIsiT K) (tCons te (tCons (tTup (tCons (tC (.ty T)) (tCons (tC (.ty S)) tNil))) tNil))) σ (.bool (b || c)) := fun F1 H1 a z Q q => h F1 H1 a z _ fun v F2 H2 g r => by
  refine ⟨Evl.sz_of (show 2 ≤ 100000 by decide), fun p hp => ?_⟩
  have g3 := Grow.tmp (o := .tup [.ty T, .ty S]) g.fh hp
  refine ⟨v, p, [.ty T, .ty S], .type (tyD d), [.type T, .type S], b || c, rfl, upd_same, .cons (.ty T) (.cons (.ty S) .nil), dp_tyx (dp_ex g3.fh r), ?_, q _ F2 _ (g.trans g3) (.bl _)⟩
  refine kitAny_cons (kit_ty hk) (fun hb => ?_) (fun hb => by rw [hb]; rfl)
  subst hb
  cases c with
  | true => exact kitAny_cons (kit_ty hk2) (fun z => nomatch z) (fun _ => rfl)
  | false => exact kitAny_cons (kit_ty hk2) (fun _ => kitAny_nil) (fun z => nomatch z)
def lenD : D → Option Nat
  | .str x => if x.length ≤ 100000 then some x.length else none
  | .list xs => some xs.length
  | .tuple xs => some xs.length
  | _ => none
theorem ed_len {n : Nat} (h : EvD K F te σ d) (hn : lenD d = some n) : EvD K F (tCB (fun xs H Q => ∃ x n, xs = [x] ∧ LenV K x H n ∧ Q (.int n) H) (tCons te tNil)) σ (.int n) := ed_cb (eas_one h) fun vs F1 H1 z r Q q => by
  cases r with
  | cons r t =>
    cases t
    refine ⟨_, n, rfl, ?_, q _ F1 H1 (Grow.refl z) (.int _)⟩
    cases r with
    | non => cases hn
    | bl b => cases hn
    | int i => cases hn
    | str x =>
      unfold lenD at hn
      dsimp only at hn
      split at hn
      · rename_i hx
        cases hn
        exact ⟨Evl.sz_of hx, rfl⟩
      · cases hn
    | lst hs ha =>
      cases hn
      exact .inl ⟨_, Evl.ex_l z hs, (dpa_len ha).symm⟩
    | tup hs ha =>
      cases hn
      exact .inr ⟨_, (hs.ex z).sq, (dpa_len ha).symm⟩
theorem ed_isN (h : EvD K F te σ d) {b : Bool} (hb : b = match d with | .none => true | _ => false) : EvD K F (tOp (fun x y H Q => y = .non ∧ Q (.bl (decide (x = .non))) H) te (tC .non)) σ (.bool b) :=
  ed_op h ed_non fun x y F1 H1 z r1 r2 Q q => by
    cases r2
    refine ⟨rfl, ?_⟩
    subst hb
    cases r1 <;> exact q _ (.bl _)
theorem ed_notN (h : EvD K F te σ d) {b : Bool} (hb : b = match d with | .none => false | _ => true) : EvD K F (tOp (fun x y H Q => y = .non ∧ Q (.bl (!decide (x = .non))) H) te (tC .non)) σ (.bool b) :=
  ed_op h ed_non fun x y F1 H1 z r1 r2 Q q => by
    cases r2
    refine ⟨rfl, ?_⟩
    subst hb
    cases r1 <;> exact q _ (.bl _)
/-- an operator on two ints -/
theorem ed_I0 {g : Int → Int → V} {gd : D} {i j : Int} (h : EvD K F ta σ (.int i)) (k : EvD K F tb σ (.int j)) (hg : ∀ G, Dz K G (g i j) gd) : EvD K F (tOp (rI0 g) ta tb) σ gd := ed_op h k fun x y F1 H1 z r1 r2 Q q => by
  cases r1
  cases r2
  exact ⟨i, j, rfl, rfl, q _ (hg _)⟩
theorem ed_ixL {i : Int} (h : EvD K F ta σ (.list ds)) (k : EvD K F tb σ (.int i)) (hd : atI ds i = some d) : EvD K F (tOp (rIxL K) ta tb) σ d := ed_op h k fun x y F1 H1 z r1 r2 Q q => by
  cases r2
  cases r1 with
  | lst hs ha =>
    unfold atI at hd
    rw [← dpa_len ha] at hd
    obtain ⟨j, h1, h2⟩ := Option.bind_eq_some_iff.mp hd
    obtain ⟨v, h3, h4⟩ := dpa_get' ha h2
    exact ⟨_, _, i, v, rfl, rfl, Evl.ex_l z hs, by unfold atI; rw [h1]; exact h3, q v h4⟩
theorem ed_ixT {i : Int} (h : EvD K F ta σ (.tuple ds)) (k : EvD K F tb σ (.int i)) (hd : atI ds i = some d) : EvD K F (tOp (rIxT K) ta tb) σ d := ed_op h k fun x y F1 H1 z r1 r2 Q q => by
  cases r2
  cases r1 with
  | tup hs ha =>
    unfold atI at hd
    rw [← dpa_len ha] at hd
    obtain ⟨j, h1, h2⟩ := Option.bind_eq_some_iff.mp hd
    obtain ⟨v, h3, h4⟩ := dpa_get' ha h2
    exact ⟨_, _, i, v, rfl, rfl, (hs.ex z).sq, by unfold atI; rw [h1]; exact h3, q v h4⟩
def rTupleZ (K : PySem.W.Frag) : List V → Hp → VK → Prop := fun xs H Q => ∃ p ys, xs = [.ref p] ∧ ((SqL K H p ys ∧ ∀ (l : Addr) (o : Obj), H l = none → o.dict = none → Q (.ref l) (upd H l (.frz o (.tup ys)))) ∨ (SqT K H p ys ∧ Q (.ref p) H))
theorem ed_tupleL (h : EvD K F te σ (.list ds)) : EvD K F (tCB (rTupleZ K) (tCons te tNil)) σ (.tuple ds) :=
  ed_cb (eas_one h) fun vs F1 H1 z r Q q => by
    cases r with
    | cons r t =>
      cases t
      cases r with
      | @lst b xs _ hs ha =>
        refine ⟨_, _, rfl, .inl ⟨Evl.ex_l z hs, fun l o hl hd => ?_⟩⟩
        have n := Grow.new (o := .frz o (.tup xs)) z hl
        exact q _ _ _ n (.tup (TupZ.of upd_same hd) (dpa_ex n.ff ha))
theorem ed_tupleT (h : EvD K F te σ (.tuple ds)) : EvD K F (tCB (rTupleZ K) (tCons te tNil)) σ (.tuple ds) :=
  ed_cb (eas_one h) fun vs F1 H1 z r Q q => by
    cases r with
    | cons r t =>
      cases t
      cases r with
      | @tup b xs _ hs ha => exact ⟨_, _, rfl, .inr ⟨(hs.ex z).sq, q _ F1 H1 (Grow.refl z) (.tup hs ha)⟩⟩
theorem ed_ltStr {x y : Str} (h : EvD K F ta σ (.str x)) (k : EvD K F tb σ (.str y)) : EvD K F (tOp (fun x y H Q => ∃ i j, x = .str i ∧ y = .str j ∧ Q (.bl (decide (i.cps.toList < j.cps.toList))) H) ta tb) σ (.bool (decide (x.cps.toList < y.cps.toList))) :=
  ed_op h k fun u v F1 H1 z r1 r2 Q q => by
    cases r1
    cases r2
    exact ⟨x, y, rfl, rfl, q _ (.bl _)⟩
/-- a text's method without arguments that hands back a truth value -/
theorem ed_m0 {x : Str} {g : Str → Bool} (h : EvD K F te σ (.str x)) : EvD K F (tM0 (fun x xs H Q => ∃ a, x = .str a ∧ xs = [] ∧ True ∧ Q (.bl (g a)) H) te) σ (.bool (g x)) := fun F1 H1 a z Q q => h F1 H1 a z _ fun v F2 H2 g2 r => by
  cases r
  exact ⟨⟨x, rfl⟩, x, rfl, rfl, True.intro, q _ F2 H2 g2 (.bl _)⟩
theorem ed_eqD {H : Hp} (h : EvD K F ta σ d) (k : EvD K F tb σ e) (s1 : SeqAt.shaped d = true) (s2 : SeqAt.shaped e = true) : EvD K F (tOp (rEqD K) ta tb) σ (.bool (PyData.eqv d e)) := ed_op h k fun u v F1 H1 z r1 r2 Q q =>
  ⟨d, e, (dp_ex z r1).dp, (dp_ex z r2).dp, s1, s2, q _ (.bl _)⟩
theorem ed_neD (h : EvD K F ta σ d) (k : EvD K F tb σ e) (s1 : SeqAt.shaped d = true) (s2 : SeqAt.shaped e = true) : EvD K F (tOp (rNeD K) ta tb) σ (.bool (!PyData.eqv d e)) := ed_op h k fun u v F1 H1 z r1 r2 Q q =>
  ⟨d, e, (dp_ex z r1).dp, (dp_ex z r2).dp, s1, s2, q _ (.bl _)⟩
end
/-- tuple(xs) -/
theorem call_tupleZ {X : Cx} {K : PySem.W.Frag} (hK : X.K = K) : CallR X (.type "tuple") (rTupleZ K) := by
  subst hK
  intro pins s σ H xs us Q I r h
  obtain ⟨p, ys, rfl, h⟩ := h
  obtain ⟨u, rfl, rx⟩ := vals1 r
  cases rx
  rcases h with ⟨hq, q⟩ | ⟨hq, q⟩
  · obtain ⟨its, r', pl, hz⟩ := I.list hq
    have hlen := r'.length
    refine call_tuple_list pl.isList (fun h' kp => ?_) (by simp only [List.size_toArray] <;> omega)
    have I1 : Inv X pins σ H { s with heap := h' } := I.kept (t' := s.toks) kp
    have hg : (h'.push { cls := Value.type "tuple", data := Data.seq its.toArray }).get? h'.objs.size = some { cls := Value.type "tuple", data := Data.seq its.toArray } := Heap.get?_push_size _ rfl
    exact ⟨.ref h'.objs.size, upd H h'.objs.size (.frz { cls := Value.type "tuple", data := Data.seq its.toArray } (.tup ys)), I1.laid (t' := s.toks) (fun b o e => Heap.get?_push_of_some _ e) (Nat.le_refl _) ⟨hg, hz, its, r', ⟨_, hg, rfl, _, rfl⟩⟩, rfl, q _ _ (I1.hok.fresh (Nat.le_refl _)) rfl⟩
  · obtain ⟨its, r', pl, hz⟩ := I.tuple hq
    exact call_tuple_same pl ⟨.ref p, H, I, rfl, q⟩
end Cn
set_option Elab.async false
set_option linter.all false
set_option maxRecDepth 100000
set_option maxHeartbeats 4000000
/-! Names: texts of one to six letters. -/
namespace Cn
open PySem PySem.Spec PyProof.Rows L2
def nameOk (x : Str) : Bool := decide (x.length ≤ 6) && (Txt.isascii x && (Txt.isalpha x && Txt.islower x))
def lowOk (c : Nat) : Bool := decide (c < 128) && (Unicode.isAlpha c && (Unicode.isLower c && !(Unicode.isUpper c || Unicode.isTitle c)))
abbrev lettersS : Str := "abcdefghijklmnopqrstuvwxyz"
theorem letters_low : lettersS.cps.toList.all lowOk = true := by decide +kernel
theorem letters_nd : lettersS.cps.toList.Nodup := by decide +kernel
theorem letters_len : lettersS.cps.toList.length = 26 := by decide +kernel
def Low (x : Str) : Prop := 1 ≤ x.cps.toList.length ∧ x.cps.toList.length ≤ 6 ∧ x.cps.toList.all lowOk = true
theorem nameOk_of {x : Str} (h : Low x) : nameOk x = true := by
  obtain ⟨h1, h2, h3⟩ := h
  have hl : x.length = x.cps.toList.length := rfl
  have hall : ∀ c ∈ x.cps.toList, lowOk c = true := fun c hc => List.all_eq_true.mp h3 c hc
  have f : ∀ c ∈ x.cps.toList, c < 128 ∧ Unicode.isAlpha c = true ∧ Unicode.isLower c = true ∧ (Unicode.isUpper c || Unicode.isTitle c) = false := fun c hc => by
    have h := hall c hc
    unfold lowOk at h
    simp only [Bool.and_eq_true, decide_eq_true_eq, Bool.not_eq_true'] at h
    exact h
  have e1 : Txt.isascii x = true := by
    show x.cps.all (· < 128) = true
    rw [← Array.all_toList]
    exact List.all_eq_true.mpr fun c hc => decide_eq_true (f c hc).1
  have e2 : Txt.isalpha x = true := by
    show (decide (x.length > 0) && x.cps.all Unicode.isAlpha) = true
    rw [← Array.all_toList, decide_eq_true (by omega), Bool.true_and]
    exact List.all_eq_true.mpr fun c hc => (f c hc).2.1
  have e3 : Txt.islower x = true := by
    show (x.cps.any Unicode.isLower && !x.cps.any fun c => Unicode.isUpper c || Unicode.isTitle c) = true
    rw [← Array.any_toList, ← Array.any_toList]
    have a1 : x.cps.toList.any Unicode.isLower = true := by
      cases hx : x.cps.toList with
      | nil => rw [hx] at h1; simp at h1
      | cons c r => exact List.any_eq_true.mpr ⟨c, List.mem_cons_self, (f c (by rw [hx]; exact List.mem_cons_self)).2.2.1⟩
    have a2 : (x.cps.toList.any fun c => Unicode.isUpper c || Unicode.isTitle c) = false := List.any_eq_false.mpr fun c hc => by rw [(f c hc).2.2.2]; exact Bool.false_ne_true
    rw [a1, a2]
    rfl
  unfold nameOk
  rw [decide_eq_true (by omega), e1, e2, e3]
  rfl
instance (x : Str) : Decidable (Low x) := by unfold Low; infer_instance
theorem low_a : Low "a" := by decide +kernel
theorem low_b : Low "b" := by decide +kernel
theorem low_c : Low "c" := by decide +kernel
theorem low_aa : Low "aa" := by decide +kernel
theorem low_none : Low "none" := by decide +kernel
theorem low_things : Low "things" := by decide +kernel
theorem low_z : Low "zzzzzz" := by decide +kernel
/-- a text of drawn signs -/
theorem join_signs (cs : List Nat) : (Txt.join "" (cs.map fun c => (⟨#[c]⟩ : Str))).cps.toList = cs := by
  have e : ∀ cs : List Nat, TL.joinL [] (cs.map fun c => [c]) = cs := fun cs => by
    induction cs with
    | nil => rfl
    | cons c cs ih =>
      cases cs with
      | nil => rfl
      | cons d r =>
        show [c] ++ ([] ++ TL.joinL [] ((d :: r).map fun c => [c])) = _
        rw [ih]
        rfl
  rw [TL.join_eq]
  refine (TL.tl_join "" _).trans ?_
  rw [List.map_map]
  exact e cs
/-- texts with another sign at their end -/
def cutL (x : Str) (c : Nat) : Str := cutS x none (some 5) ++ (⟨#[c]⟩ : Str)
def nexts (x : Str) : List Str := lettersS.cps.toList.map (cutL x)
theorem cut5 (x : Str) : (cutS x none (some 5)).cps.toList = x.cps.toList.take 5 := by
  show (((x.cps.toList.drop 0).take (min 5 x.length - 0)).toArray).toList = _
  rw [List.drop_zero]
  have e : x.length = x.cps.toList.length := rfl
  rw [e]
  show x.cps.toList.take (min 5 x.cps.toList.length - 0) = _
  rw [Nat.sub_zero]
  by_cases h : 5 ≤ x.cps.toList.length
  · rw [Nat.min_eq_left h]
  · rw [Nat.min_eq_right (by omega), List.take_length, List.take_of_length_le (by omega)]
theorem cutL_cps (x : Str) (c : Nat) : (cutL x c).cps.toList = x.cps.toList.take 5 ++ [c] := by
  refine (TL.tl_append _ _).trans ?_
  show (cutS x none (some 5)).cps.toList ++ [c] = _
  rw [cut5]
theorem cutL_low {x : Str} {c : Nat} (h : Low x) (hc : c ∈ lettersS.cps.toList) : Low (cutL x c) := by
  obtain ⟨h1, h2, h3⟩ := h
  unfold Low
  rw [cutL_cps, List.length_append, List.length_take]
  refine ⟨by simp, by simp; omega, ?_⟩
  rw [List.all_append, Bool.and_eq_true]
  refine ⟨List.all_eq_true.mpr fun d hd => List.all_eq_true.mp h3 d (List.mem_of_mem_take hd), ?_⟩
  rw [List.all_cons, List.all_nil, Bool.and_true]
  exact List.all_eq_true.mp letters_low c hc
theorem nexts_nd (x : Str) : (nexts x).Nodup := by
  unfold nexts
  refine List.Pairwise.map _ (fun a b h e => h ?_) letters_nd
  have e2 := congrArg (fun z : Str => z.cps.toList) e
  simp only [cutL_cps] at e2
  have e3 := List.append_cancel_left e2
  simpa using e3
theorem nodup_le {α : Type} [DecidableEq α] : ∀ (l m : List α), l.Nodup → (∀ x ∈ l, x ∈ m) → l.length ≤ m.length
  | [], _, _, _ => Nat.zero_le _
  | x :: l, m, h, s => by
    have hx := s x List.mem_cons_self
    have ih := nodup_le l (m.erase x) (List.nodup_cons.mp h).2 fun y hy => by
      have hne : y ≠ x := fun e => (List.nodup_cons.mp h).1 (e ▸ hy)
      exact (List.mem_erase_of_ne hne).mpr (s y (List.mem_cons_of_mem _ hy))
    rw [List.length_erase_of_mem hx] at ih
    have hm : 0 < m.length := List.length_pos_of_mem hx
    rw [List.length_cons]
    omega
/-- the words that may come next -/
def spare (x : Str) : List Str := x :: nexts x
theorem spare_free (x : Str) (fs : List Str) (h : fs.length < 26) : (spare x).filter (fun s => decide (s ∉ fs)) ≠ [] := by
  intro e
  have h2 : ∀ y ∈ nexts x, y ∈ fs := fun y hy => by
    by_cases hy2 : y ∈ fs
    · exact hy2
    · have h3 : y ∈ (spare x).filter (fun s => decide (s ∉ fs)) := List.mem_filter.mpr ⟨List.mem_cons_of_mem _ hy, decide_eq_true hy2⟩
      rw [e] at h3
      cases h3
  have h3 := nodup_le _ _ (nexts_nd x) h2
  unfold nexts at h3
  rw [List.length_map, letters_len] at h3
  omega
theorem spare_low {x y : Str} (h : Low x) (hy : y ∈ spare x) : Low y := by
  rcases List.mem_cons.mp hy with rfl | hy
  · exact h
  · obtain ⟨c, hc, rfl⟩ := List.mem_map.mp hy
    exact cutL_low h hc
theorem drawn_low {cs : List Nat} (h : ∀ c ∈ cs, c ∈ lettersS.cps.toList) (h1 : 1 ≤ cs.length) (h2 : cs.length ≤ 6) : Low (Txt.join "" (cs.map fun c => (⟨#[c]⟩ : Str))) := by
  unfold Low
  rw [join_signs]
  exact ⟨h1, h2, List.all_eq_true.mpr fun c hc => List.all_eq_true.mp letters_low c (h c hc)⟩
end Cn
set_option Elab.async false
set_option linter.all false
set_option maxRecDepth 100000
set_option maxHeartbeats 4000000
namespace Cn
open PySem PySem.Spec PyProof.Rows L2
def top (i : Nat) : Stmt := PySem.Challenge.pw_cornerplans_k04_whole_joins_and_limits.main.body.getD i (.Pass ⟨0, 0, 0, 0⟩)
/-- the built-in names are what they are, the module's constants too -/
structure Txt (mg : Str → Option Value) : Prop where
  b_isinstance : mg "isinstance" = none
  b_int : mg "int" = none
  b_bool : mg "bool" = none
  b_str : mg "str" = none
  b_list : mg "list" = none
  b_tuple : mg "tuple" = none
  b_dict : mg "dict" = none
  b_len : mg "len" = none
  b_all : mg "all" = none
  b_range : mg "range" = none
  b_max : mg "max" = none
  b_min : mg "min" = none
  b_abs : mg "abs" = none
  b_sorted : mg "sorted" = none
  b_enumerate : mg "enumerate" = none
  c_MOST_LETTERS : ∃ t, mg "MOST_LETTERS" = some (.int 6 t)
/-- a def of the top as it stands -/
def Fg (K : PySem.W.Frag) (mg : Str → Option Value) (x : Str) (st : Stmt) : Prop := ∃ f fd, mg x = some (.ref f) ∧ Fun K x x st f fd

/-! ### data -/
mutual
def fine : D → Bool
  | .str x => decide (x.length ≤ 100000)
  | .list xs => decide (xs.length < 100000) && fineAll xs
  | .tuple xs => decide (xs.length < 100000) && fineAll xs
  | .dict _ => false
  | _ => true
def fineAll : List D → Bool
  | [] => true
  | x :: xs => fine x && fineAll xs
end
theorem fineAll_mem : ∀ {xs : List D} {d : D}, fineAll xs = true → d ∈ xs → fine d = true
  | x :: xs, d, h, m => by
    unfold fineAll at h
    obtain ⟨h1, h2⟩ := Bool.and_eq_true_iff.mp h
    rcases List.mem_cons.mp m with rfl | m
    · exact h1
    · exact fineAll_mem h2 m
def isNumD : D → Bool
  | .int _ => true
  | _ => false
def isNameD : D → Bool
  | .str x => nameOk x
  | _ => false
def isPairD : D → Bool
  | .tuple xs => decide (xs.length = 2)
  | _ => false
def fstD : D → D
  | .tuple (a :: _) => a
  | _ => .none
def sndD : D → D
  | .tuple [_, b] => b
  | _ => .none
def strD : D → Str
  | .str x => x
  | _ => default
theorem pair_of {d : D} (h : isPairD d = true) : ∃ a b, d = .tuple [a, b] := by
  unfold isPairD at h
  split at h
  · rename_i xs
    match xs, of_decide_eq_true h with
    | [a, b], _ => exact ⟨a, b, rfl⟩
  · cases h
theorem str_of {d : D} (h : isNameD d = true) : d = .str (strD d) := by
  unfold isNameD at h
  split at h
  · rfl
  · cases h
/-- ascending texts -/
def ascS : List Str → Bool
  | x :: y :: r => decide (x.cps.toList < y.cps.toList) && ascS (y :: r)
  | _ => true
theorem ascS_range : ∀ l : List Str, ((List.range (l.length - 1)).map fun i => decide ((l.getD i default).cps.toList < (l.getD (i + 1) default).cps.toList)).all id = ascS l
  | [] => rfl
  | [_] => rfl
  | x :: y :: r => by
    have ih := ascS_range (y :: r)
    have e : (x :: y :: r).length - 1 = ((y :: r).length - 1) + 1 := by simp
    rw [e, List.range_succ_eq_map, List.map_cons, List.all_cons, List.map_map]
    unfold ascS
    rw [← ih]
    rfl
def hasNamesD : D → Bool
  | .tuple xs => xs.all isPairD && ((xs.map fstD).all isNameD && ascS ((xs.map fstD).map strD))
  | _ => false
def isPlanD (d : D) : Bool := hasNamesD d && (match d with | .tuple xs => (xs.map sndD).all isNumD | _ => false)
def isEndD : D → Bool
  | .none => true
  | .int _ => true
  | _ => false
def isLimitD (d : D) : Bool := hasNamesD d && (match d with | .tuple xs => (xs.map sndD).all isEndD | _ => false)

/-! ### a < b of two numbers or two texts -/
theorem op_ltA {X : Cx} : OpR X (compareOp .Lt) (fun x y H Q => (∃ i j, x = .int i ∧ y = .int j ∧ Q (.bl (decide (i < j))) H) ∨ ∃ i j, x = .str i ∧ y = .str j ∧ Q (.bl (decide (i.cps.toList < j.cps.toList))) H) := by
  intro pins s σ H x y v u Q I rx ry h
  rcases h with h | h
  · exact op_lt pins s σ H x y v u Q I rx ry h
  · exact op_lt_str pins s σ H x y v u Q I rx ry h
theorem ix_seqK {X : Cx} {K : PySem.W.Frag} (h : X.K = K) : IxR X (rIx K) := h ▸ ix_seq
theorem call_lenK {X : Cx} {K : PySem.W.Frag} (h : X.K = K) : CallR X (.builtin "len") (fun xs H Q => ∃ x n, xs = [x] ∧ LenV K x H n ∧ Q (.int n) H) := h ▸ call_len
theorem call_isi1K {X : Cx} {K : PySem.W.Frag} (h : X.K = K) : CallR X (.builtin "isinstance") (rIsi K) := h ▸ call_isi
theorem call_isi2K {X : Cx} {K : PySem.W.Frag} (h : X.K = K) : CallR X (.builtin "isinstance") (rIsiT K) := h ▸ call_isiT
theorem no_isi {K : PySem.W.Frag} {F : Hp} {σ : L2.St} {te tr : TE} {a : D} {T : String} (h : EvD K F te σ a) (e : kitB (tyD a) T = some false) : EvD K F (tAndV (tCB (rIsi K) (tCons te (tCons (tC (.ty T)) tNil))) tr) σ (.bool false) := fun F1 H1 x z Q q =>
  ed_isi h e F1 H1 x z _ fun v F2 H2 g r => by
    cases r
    exact ⟨false, rfl, iteF (q _ F2 H2 g (.bl false))⟩
theorem no_isiS {K : PySem.W.Frag} {F : Hp} {σ : L2.St} {te : TE} {tu : TT} {tr : TS} {a : D} {T : String} (h : EvD K F te σ a) (e : kitB (tyD a) T = some false) : EvS K F (tSeq (tIfS (tOr (tNot (tB (tCB (rIsi K) (tCons te (tCons (tC (.ty T)) tNil))))) tu) (tRet (tC (.bl false))) tNext) tr) σ (.bool false) := fun F1 H1 x z Q q =>
  ed_isi h e F1 H1 x z _ fun v F2 H2 g r => by
    cases r
    exact ⟨false, rfl, iteT (iteT (q _ F2 H2 g (.bl false)))⟩
theorem ixL_of {K : PySem.W.Frag} {F : Hp} {σ : L2.St} {ta tb : TE} {ds : List D} {i : Int} {d : D} (h : EvD K F ta σ (.list ds)) (k : EvD K F tb σ (.int i)) (hd : atI ds i = some d) : EvD K F (tOp (rIx K) ta tb) σ d := fun F1 H1 a z Q q =>
  h F1 H1 a z _ fun v F2 H2 g r1 => k F2 H2 (a.trans g.ff) g.fh _ fun w F3 H3 g2 r2 => by
    cases r2
    have r1' := dp_ex g2.ff r1
    cases r1' with
    | lst hs ha =>
      unfold atI at hd
      rw [← dpa_len ha] at hd
      obtain ⟨j, h1, h2⟩ := Option.bind_eq_some_iff.mp hd
      obtain ⟨v, h3, h4⟩ := dpa_get' ha h2
      exact .inl ⟨_, _, i, v, rfl, rfl, Evl.ex_l g2.fh hs, by unfold atI; rw [h1]; exact h3, q v F3 H3 (g.trans g2) h4⟩

section
variable {P : Program} {w : World} {K : PySem.W.Frag} {mg : Str → Option Value} {base : Heap}
/-- a promise over one datum: f of it -/
abbrev sp1 (K : PySem.W.Frag) (p : D → Prop) (f : D → D) : Sp := spD K 1 fun ds d => ∃ a, ds = [a] ∧ p a ∧ d = f a
theorem ed_c1 {F : Hp} {σ : L2.St} {te : TE} {p : D → Prop} {f : D → D} {a d : D} {E : XK} (h : EvD K F te σ a) (hp : p a) (e : f a = d) : EvD K F (tCall (sp1 K p f) [] E (tCons te tNil)) σ d := ed_call (eas_one h) rfl ⟨a, rfl, hp, e.symm⟩
/-- a pure def of one parameter, by its body's reading -/
theorem kp1 {x : Str} {st : Stmt} {N : List Str} {y : Str} {k : Nat} {p : D → Prop} {f : D → D} (Fx : Fg K mg x st) (S : FnScope N [y] (defScope st))
    (hb : ∀ {f : Addr} {fd : FuncData} (_ : Fun K x x st f fd), Binds K fd [y] [])
    (body : ∀ (f₀ : Addr) (cdv : Value) (A : Around) (outer : List Env) (s : Shared) (H : Hp) (E : XK), Room k (A.deeper (envOfC x (defScope st) s.heap.objs.size f₀ cdv)) →
      ∃ t, PSs (cxOf CX0 P w K mg base N x (defScope st) f₀ cdv A outer s H E).nox (defBody st) t ∧ ∀ F v a, Dz K F v a → p a → EvS K F t (start N [v]) (f a)) : Kp P w K mg base (k + 1) x [y] (sp1 K p f) := by
  obtain ⟨a, fd, hm, F⟩ := Fx
  refine ⟨a, fd, hm, F.kp, hb F, F.ok S spD_len fun cdv A outer s H vs Q E hr h => ?_⟩
  obtain ⟨ds, d, F0, hF, hda, hn, ⟨b, rfl, hp, rfl⟩, q⟩ := h
  obtain ⟨t, h1, h2⟩ := body a cdv A outer s H E hr
  cases hda with
  | cons h t' =>
    cases t'
    exact ⟨t, h1, h2 F0 _ b h hp F0 H (Evl.Ex.refl _) hF _ q⟩

abbrev s_is_number : Stmt := top 8
abbrev N_is_number : List Str := ["thing"]
theorem sc_is_number : FnScope N_is_number ["thing"] (defScope s_is_number) := ⟨rfl, rfl, rfl, by decide +kernel, rfl, by decide +kernel, by decide +kernel⟩
/- slots of is_number: 0 thing -/
theorem k_is_number (Fx : Fg K mg "is_number" s_is_number) (T : Txt mg) : Kp P w K mg base 1 "is_number" ["thing"] (sp1 K (fun _ => True) fun d => .bool (isNumD d)) := by
  refine kp1 Fx sc_is_number (fun F => F.binds fun _ _ _ _ _ _ us hl => match us, hl with | [_], _ => rfl) fun f₀ cdv A outer s H E hr => ⟨_, (pss_one (ps_ret (pe_and (pe_callB (call_isi1K (K := K) rfl) (by rfl) T.b_isinstance (by decide +kernel) (pa_cons (pv 0) (pa_cons (pe_bltn (v := .ty "int") (by rfl) T.b_int (by decide +kernel) rfl) pa_nil))) (pe_one (pe_not (pe_callB (call_isi1K (K := K) rfl) (by rfl) T.b_isinstance (by decide +kernel) (pa_cons (pv 0) (pa_cons (pe_bltn (v := .ty "bool") (by rfl) T.b_bool (by decide +kernel) rfl) pa_nil)))))))), fun F v a r _ => ?_⟩
  have v0 : Sl K F (start N_is_number [v]) 0 a := sl rfl r
  refine es_ret ?_
  cases a with
  | int i => exact ed_and (ed_isi (ed_var v0) (by decide +kernel : kitB "int" "int" = some true)) fun _ => ed_not (ed_isi (ed_var v0) (by decide +kernel : kitB "int" "bool" = some false))
  | bool i => exact ed_and (ed_isi (ed_var v0) (by decide +kernel : kitB "bool" "int" = some true)) fun _ => ed_not (ed_isi (ed_var v0) (by decide +kernel : kitB "bool" "bool" = some true))
  | none => exact ed_and (c := true) (ed_isi (ed_var v0) (by decide +kernel : kitB "NoneType" "int" = some false)) fun z => nomatch z
  | str x => exact ed_and (c := true) (ed_isi (ed_var v0) (by decide +kernel : kitB "str" "int" = some false)) fun z => nomatch z
  | list x => exact ed_and (c := true) (ed_isi (ed_var v0) (by decide +kernel : kitB "list" "int" = some false)) fun z => nomatch z
  | tuple x => exact ed_and (c := true) (ed_isi (ed_var v0) (by decide +kernel : kitB "tuple" "int" = some false)) fun z => nomatch z
  | dict x => exact ed_and (c := true) (ed_isi (ed_var v0) (by decide +kernel : kitB "dict" "int" = some false)) fun z => nomatch z

abbrev s_is_name : Stmt := top 9
abbrev N_is_name : List Str := ["thing"]
theorem sc_is_name : FnScope N_is_name ["thing"] (defScope s_is_name) := ⟨rfl, rfl, rfl, by decide +kernel, rfl, by decide +kernel, by decide +kernel⟩
/- slots of is_name: 0 thing -/
theorem k_is_name (Fx : Fg K mg "is_name" s_is_name) (T : Txt mg) : Kp P w K mg base 1 "is_name" ["thing"] (sp1 K (fun d => fine d = true) fun d => .bool (isNameD d)) := by
  obtain ⟨t6, hML⟩ := T.c_MOST_LETTERS
  refine kp1 Fx sc_is_name (fun F => F.binds fun _ _ _ _ _ _ us hl => match us, hl with | [_], _ => rfl) fun f₀ cdv A outer s H E hr => ⟨_, (pss_cons (ps_if (PW.pt (pw_or (pt_not (pt_val (pe_callB (call_isi1K (K := K) rfl) (by rfl) T.b_isinstance (by decide +kernel) (pa_cons (pv 0) (pa_cons (pe_bltn (v := .ty "str") (by rfl) T.b_str (by decide +kernel) rfl) pa_nil))))) (pw_or1 (pt_cmpR op_gt (pe_callB (call_lenK (K := K) rfl) (by rfl) T.b_len (by decide +kernel) (pa_cons (pv 0) pa_nil)) (pe_glob (v := .int 6) (by rfl) hML ⟨_, rfl⟩) (nomark _)))))
  (pss_one (ps_ret pe_bl)) pss_nil)
  (pss_one (ps_ret (pe_and (pe_m0 PySem.F.slot_str_isascii PySem.F.type_str_isascii mt_isascii (pv 0)) (pe_and (pe_m0 PySem.F.slot_str_isalpha PySem.F.type_str_isalpha mt_isalpha (pv 0)) (pe_one (pe_m0 PySem.F.slot_str_islower PySem.F.type_str_islower mt_islower (pv 0)))))))), fun F v a r hf => ?_⟩
  have v0 : Sl K F (start N_is_name [v]) 0 a := sl rfl r
  cases a with
  | str x =>
    have hx : x.length ≤ 100000 := of_decide_eq_true hf
    have y1 : kitB (tyD (.str x)) "str" = some true := (by decide +kernel : kitB "str" "str" = some true)
    refine es_if (b := decide ((6 : Int) < (x.length : Int))) ((eb_or (eb_not (eb_val (ed_isi (ed_var v0) y1))) fun _ => eb_test (ed_I0 (ed_len (ed_var v0) (by unfold lenD; exact if_pos hx)) (ed_int (n := 6)) fun G => .bl _)).eq (Bool.false_or _)) (fun h => (es_ret ed_bl).eq ?_) fun h => (es_ret (ed_and (ed_m0 (ed_var v0)) fun _ => ed_and (ed_m0 (ed_var v0)) fun _ => ed_m0 (ed_var v0))).eq ?_
    · have h' := of_decide_eq_true h
      have h6 : ¬ x.length ≤ 6 := by omega
      have e : isNameD (.str x) = false := by
        show nameOk x = false
        unfold nameOk
        rw [decide_eq_false h6, Bool.false_and]
      rw [e]
    · have h' := of_decide_eq_false h
      have e : isNameD (.str x) = (Txt.isascii x && (Txt.isalpha x && Txt.islower x)) := by
        show nameOk x = _
        unfold nameOk
        rw [decide_eq_true (show x.length ≤ 6 by omega), Bool.true_and]
      rw [e]
  | int i => exact no_isiS (ed_var v0) (by decide +kernel : kitB "int" "str" = some false)
  | bool i => exact no_isiS (ed_var v0) (by decide +kernel : kitB "bool" "str" = some false)
  | none => exact no_isiS (ed_var v0) (by decide +kernel : kitB "NoneType" "str" = some false)
  | list x => exact no_isiS (ed_var v0) (by decide +kernel : kitB "list" "str" = some false)
  | tuple x => exact no_isiS (ed_var v0) (by decide +kernel : kitB "tuple" "str" = some false)
  | dict x => exact no_isiS (ed_var v0) (by decide +kernel : kitB "dict" "str" = some false)

def isListD : D → Bool
  | .list _ => true
  | .tuple _ => true
  | _ => false
abbrev s_is_list : Stmt := top 10
abbrev N_is_list : List Str := ["thing"]
theorem sc_is_list : FnScope N_is_list ["thing"] (defScope s_is_list) := ⟨rfl, rfl, rfl, by decide +kernel, rfl, by decide +kernel, by decide +kernel⟩
/- slots of is_list: 0 thing -/
theorem k_is_list (Fx : Fg K mg "is_list" s_is_list) (T : Txt mg) : Kp P w K mg base 1 "is_list" ["thing"] (sp1 K (fun _ => True) fun d => .bool (isListD d)) := by
  refine kp1 Fx sc_is_list (fun F => F.binds fun _ _ _ _ _ _ us hl => match us, hl with | [_], _ => rfl) fun f₀ cdv A outer s H E hr => ⟨_, (pss_one (ps_ret (pe_callB (call_isi2K (K := K) rfl) (by rfl) T.b_isinstance (by decide +kernel) (pa_cons (pv 0) (pa_cons (pe_tup (pa_cons (pe_bltn (v := .ty "list") (by rfl) T.b_list (by decide +kernel) rfl) (pa_cons (pe_bltn (v := .ty "tuple") (by rfl) T.b_tuple (by decide +kernel) rfl) pa_nil))) pa_nil))))), fun F v a r _ => ?_⟩
  have v0 : Sl K F (start N_is_list [v]) 0 a := sl rfl r
  refine es_ret ?_
  cases a with
  | int i => exact ed_isi2 (ed_var v0) (by decide +kernel : kitB "int" "list" = some false) (by decide +kernel : kitB "int" "tuple" = some false)
  | bool i => exact ed_isi2 (ed_var v0) (by decide +kernel : kitB "bool" "list" = some false) (by decide +kernel : kitB "bool" "tuple" = some false)
  | none => exact ed_isi2 (ed_var v0) (by decide +kernel : kitB "NoneType" "list" = some false) (by decide +kernel : kitB "NoneType" "tuple" = some false)
  | str x => exact ed_isi2 (ed_var v0) (by decide +kernel : kitB "str" "list" = some false) (by decide +kernel : kitB "str" "tuple" = some false)
  | list x => exact ed_isi2 (ed_var v0) (by decide +kernel : kitB "list" "list" = some true) (by decide +kernel : kitB "list" "tuple" = some false)
  | tuple x => exact ed_isi2 (ed_var v0) (by decide +kernel : kitB "tuple" "list" = some false) (by decide +kernel : kitB "tuple" "tuple" = some true)
  | dict x => exact ed_isi2 (ed_var v0) (by decide +kernel : kitB "dict" "list" = some false) (by decide +kernel : kitB "dict" "tuple" = some false)

abbrev s_is_pair : Stmt := top 11
abbrev N_is_pair : List Str := ["thing"]
theorem sc_is_pair : FnScope N_is_pair ["thing"] (defScope s_is_pair) := ⟨rfl, rfl, rfl, by decide +kernel, rfl, by decide +kernel, by decide +kernel⟩
/- slots of is_pair: 0 thing -/
theorem k_is_pair (Fx : Fg K mg "is_pair" s_is_pair) (T : Txt mg) : Kp P w K mg base 1 "is_pair" ["thing"] (sp1 K (fun _ => True) fun d => .bool (isPairD d)) := by
  refine kp1 Fx sc_is_pair (fun F => F.binds fun _ _ _ _ _ _ us hl => match us, hl with | [_], _ => rfl) fun f₀ cdv A outer s H E hr => ⟨_, (pss_one (ps_ret (pe_and (pe_callB (call_isi1K (K := K) rfl) (by rfl) T.b_isinstance (by decide +kernel) (pa_cons (pv 0) (pa_cons (pe_bltn (v := .ty "tuple") (by rfl) T.b_tuple (by decide +kernel) rfl) pa_nil))) (pe_one (pe_cmpR op_eq (pe_callB (call_lenK (K := K) rfl) (by rfl) T.b_len (by decide +kernel) (pa_cons (pv 0) pa_nil)) pe_int (nomark _)))))), fun F v a r _ => ?_⟩
  have v0 : Sl K F (start N_is_pair [v]) 0 a := sl rfl r
  refine es_ret ?_
  cases a with
  | tuple xs =>
    refine (ed_and (ed_isi (ed_var v0) (by decide +kernel : kitB "tuple" "tuple" = some true)) fun _ => ?_).eq (by rw [Bool.true_and])
    refine ed_op (ed_len (ed_var v0) (n := xs.length) rfl) (ed_int (n := 2)) fun x y F1 H1 z r1 r2 Q q => ?_
    cases r1
    cases r2
    refine ⟨rfl, q _ ?_⟩
    have e : decide (V.int (xs.length : Int) = V.int 2) = isPairD (.tuple xs) := by
      unfold isPairD
      exact decide_eq_decide.mpr ⟨fun h => by injection h with h; omega, fun h => by rw [h]; rfl⟩
    rw [e]
    exact .bl _
  | int i => exact no_isi (ed_var v0) (by decide +kernel : kitB "int" "tuple" = some false)
  | bool i => exact no_isi (ed_var v0) (by decide +kernel : kitB "bool" "tuple" = some false)
  | none => exact no_isi (ed_var v0) (by decide +kernel : kitB "NoneType" "tuple" = some false)
  | str x => exact no_isi (ed_var v0) (by decide +kernel : kitB "str" "tuple" = some false)
  | list x => exact no_isi (ed_var v0) (by decide +kernel : kitB "list" "tuple" = some false)
  | dict x => exact no_isi (ed_var v0) (by decide +kernel : kitB "dict" "tuple" = some false)

abbrev s_is_ascending : Stmt := top 12
abbrev N_is_ascending : List Str := ["row", "at"]
theorem sc_is_ascending : FnScope N_is_ascending ["row"] (defScope s_is_ascending) := ⟨rfl, rfl, rfl, by decide +kernel, rfl, by decide +kernel, by decide +kernel⟩
/- slots of is_ascending: 0 row, 1 at -/
theorem k_is_ascending (Fx : Fg K mg "is_ascending" s_is_ascending) (T : Txt mg) : Kp P w K mg base 1 "is_ascending" ["row"] (sp1 K (fun d => ∃ l : List Str, d = .list (l.map .str) ∧ l.length < 100000) fun d => .bool (ascS (match d with | .list ds => ds.map strD | _ => []))) := by
  refine kp1 Fx sc_is_ascending (fun F => F.binds fun _ _ _ _ _ _ us hl => match us, hl with | [_], _ => rfl) fun f₀ cdv A outer s H E hr => ⟨_, (pss_one (ps_ret (pe_callB (cr_all rfl) (by rfl) T.b_all (by decide +kernel) (pa_cons (pe_lc (own := [("at", 1)]) (g := gName 1) (tt := tYes) rfl sc_is_ascending.nd (pi_range1 (by rfl) T.b_range (pa_cons (pe_op op_sub (pe_callB (call_lenK (K := K) rfl) (by rfl) T.b_len (by decide +kernel) (pa_cons (pv 0) pa_nil)) pe_int) pa_nil)) (blkOk_by (N := N_is_ascending) (sc := defScope s_is_ascending) (by decide +kernel)) (fun _ _ _ _ _ => (pg_name (i := 1) sc_is_ascending.nd rfl (Or.inl rfl))) (fun _ _ _ _ _ => pts_nil) (fun _ _ _ _ _ => (pe_cmpR op_ltA (pe_ix (ix_seqK (K := K) rfl) (pv 0) (pv 1) (fun _ _ => rfl)) (pe_ix (ix_seqK (K := K) rfl) (pv 0) (pe_op op_add (pv 1) pe_int) (fun _ _ => rfl)) (nomark _)))) pa_nil)))), fun F v a r hp => ?_⟩
  obtain ⟨l, rfl, hl⟩ := hp
  have v0 : Sl K F (start N_is_ascending [v]) 0 (.list (l.map .str)) := sl rfl r
  refine es_ret ?_
  have e0 : (l.map PyData.str).map strD = l := by
    rw [List.map_map]
    exact List.map_id _
  show EvD K F _ _ (.bool (ascS ((l.map PyData.str).map strD)))
  rw [e0, ← ascS_range l]
  refine ed_all ?_
  refine (ed_lcR (p := fun _ => true) (f := fun d => match d with | .int i => .bool (decide ((l.getD i.toNat default).cps.toList < (l.getD (i.toNat + 1) default).cps.toList)) | _ => .none)
    (ed_I0 (ed_len (ed_var v0) (n := (l.map PyData.str).length) rfl) (ed_int (n := 1)) fun G => .int _) (by rw [List.length_map]; omega) (by rw [List.length_map]; omega) fun d hd => ?_).eq ?_
  · obtain ⟨i, hi, rfl⟩ := List.mem_map.mp hd
    have hi' : i < l.length - 1 := by
      have h := List.mem_range.mp hi
      rw [List.length_map] at h
      omega
    refine turn_name (fun v => rfl) (fun v G _ _ => eb_yes) fun _ v' G x r' => ?_
    have w0 : Sl K G ((wipe (start N_is_ascending [v]) [1]).set 1 (some v')) 0 (.list (l.map .str)) := (Sl.mono x v0 : Sl K G (start N_is_ascending [v]) 0 _) |> fun ⟨u, h1, h2⟩ => ⟨u, h1, h2⟩
    have w1 : Sl K G ((wipe (start N_is_ascending [v]) [1]).set 1 (some v')) 1 (.int (i : Int)) := sl rfl r'
    have g1 : ∀ j : Nat, j < l.length → atI (l.map PyData.str) (j : Int) = some (.str (l.getD j default)) := fun j hj => atI_nat (by rw [List.getElem?_map, List.getElem?_eq_getElem hj, List.getD_eq_getElem?_getD, List.getElem?_eq_getElem hj]; rfl)
    refine ed_op (ixL_of (ed_var w0) (ed_var w1) (g1 i (by omega))) (ixL_of (ed_var w0) (ed_I0 (ed_var w1) (ed_int (n := 1)) fun G => .int _) (g1 (i + 1) (by omega))) fun x y F1 H1 z r1 r2 Q q => ?_
    cases r1
    cases r2
    exact .inr ⟨_, _, rfl, rfl, q _ (.bl _)⟩
  · rw [filter_yes]
    unfold nats
    have e1 : (((l.map PyData.str).length : Int) - 1).toNat = l.length - 1 := by
      rw [List.length_map]
      omega
    rw [e1, List.map_map, List.map_map]
    rfl
end
end Cn
set_option Elab.async false
set_option linter.all false
set_option maxRecDepth 100000
set_option maxHeartbeats 4000000
namespace Cn
open PySem PySem.Spec PyProof.Rows L2
theorem all_map_id {α : Type} (l : List α) (f : α → Bool) : (l.map f).all id = l.all f := by
  rw [List.all_map]
  rfl
theorem fine_tup {xs : List D} (h : fine (.tuple xs) = true) : xs.length < 100000 ∧ fineAll xs = true := by
  unfold fine at h
  obtain ⟨h1, h2⟩ := Bool.and_eq_true_iff.mp h
  exact ⟨of_decide_eq_true h1, h2⟩
theorem fine_pair {a b : D} (h : fine (.tuple [a, b]) = true) : fine a = true ∧ fine b = true :=
  ⟨fineAll_mem (fine_tup h).2 (by simp), fineAll_mem (fine_tup h).2 (by simp)⟩
/-- the slots of a block over its own: what stood there stands -/
theorem sl_in {K : PySem.W.Frag} {F G : Hp} {σ τ : L2.St} {i : Nat} {d : D} (x : Ex F G) (h : Sl K F σ i d) (e : ∀ v, σ[i]? = some (some v) → τ[i]? = some (some v)) : Sl K G τ i d :=
  let ⟨v, h1, h2⟩ := h; ⟨v, e v h1, dp_ex x h2⟩
section
variable {P : Program} {w : World} {K : PySem.W.Frag} {mg : Str → Option Value} {base : Heap}

abbrev s_has_names : Stmt := top 13
abbrev N_has_names : List Str := ["thing", "names", "pair", "name", "_"]
theorem sc_has_names : FnScope N_has_names ["thing"] (defScope s_has_names) := ⟨rfl, rfl, rfl, by decide +kernel, rfl, by decide +kernel, by decide +kernel⟩
/- slots of has_names: 0 thing, 1 names, 2 pair, 3 name, 4 _ -/
theorem k_has_names (Fx : Fg K mg "has_names" s_has_names) (T : Txt mg) (k_is_pair : Kp P w K mg base 1 "is_pair" ["thing"] (sp1 K (fun _ => True) fun d => .bool (isPairD d)))
    (k_is_name : Kp P w K mg base 1 "is_name" ["thing"] (sp1 K (fun d => fine d = true) fun d => .bool (isNameD d)))
    (k_is_ascending : Kp P w K mg base 1 "is_ascending" ["row"] (sp1 K (fun d => ∃ l : List Str, d = .list (l.map .str) ∧ l.length < 100000) fun d => .bool (ascS (match d with | .list ds => ds.map strD | _ => [])))) :
    Kp P w K mg base 2 "has_names" ["thing"] (sp1 K (fun d => fine d = true) fun d => .bool (hasNamesD d)) := by
  refine kp1 Fx sc_has_names (fun F => F.binds fun _ _ _ _ _ _ us hl => match us, hl with | [_], _ => rfl) fun f₀ cdv A outer s H E hr => ⟨_, (pss_cons (ps_if (PW.pt (pw_or (pt_not (pt_val (pe_callB (call_isi1K (K := K) rfl) (by rfl) T.b_isinstance (by decide +kernel) (pa_cons (pv 0) (pa_cons (pe_bltn (v := .ty "tuple") (by rfl) T.b_tuple (by decide +kernel) rfl) pa_nil))))) (pw_or1 (pt_not (pt_val (pe_callB (cr_all rfl) (by rfl) T.b_all (by decide +kernel) (pa_cons (pe_lc (own := [("pair", 2)]) (g := gName 2) (tt := tYes) rfl sc_has_names.nd (pi_tup (pv 0)) (blkOk_by (N := N_has_names) (sc := defScope s_has_names) (by decide +kernel)) (fun _ _ _ _ _ => (pg_name (i := 2) sc_has_names.nd rfl (Or.inl rfl))) (fun _ _ _ _ _ => pts_nil) (fun _ _ _ _ _ => (pe_kp k_is_pair (hr.mono (by decide)) (by rfl) (pa_cons (pv 2) pa_nil)))) pa_nil)))))))
  (pss_one (ps_ret pe_bl)) pss_nil)
  (pss_cons (ps_setLc (i := 1) (own := [("name", 3), ("_", 4)]) (g := gTup K 2 (gCons (gName 3) (gCons (gName 4) gNil))) (tt := tYes) rfl sc_has_names.nd rfl rfl (sw_true rfl rfl rfl (by decide +kernel)) (pi_tup (pv 0)) (blkOk_by (N := N_has_names) (sc := defScope s_has_names) (by decide +kernel)) (fun _ _ _ _ _ => (pg_tup rfl (pgs_cons (pg_name (i := 3) sc_has_names.nd rfl (Or.inl rfl)) (pgs_cons (pg_name (i := 4) sc_has_names.nd rfl (Or.inl rfl)) pgs_nil)))) (fun _ _ _ _ _ => pts_nil) (fun _ _ _ _ _ => (pv 3)))
  (pss_one (ps_ret (pe_and (pe_callB (cr_all rfl) (by rfl) T.b_all (by decide +kernel) (pa_cons (pe_lc (own := [("name", 3)]) (g := gName 3) (tt := tYes) rfl sc_has_names.nd (pi_list (pv 1)) (blkOk_by (N := N_has_names) (sc := defScope s_has_names) (by decide +kernel)) (fun _ _ _ _ _ => (pg_name (i := 3) sc_has_names.nd rfl (Or.inl rfl))) (fun _ _ _ _ _ => pts_nil) (fun _ _ _ _ _ => (pe_kp k_is_name (hr.mono (by decide)) (by rfl) (pa_cons (pv 3) pa_nil)))) pa_nil)) (pe_one (pe_kp k_is_ascending (hr.mono (by decide)) (by rfl) (pa_cons (pv 1) pa_nil)))))))), fun F v a r hf => ?_⟩
  have v0 : Sl K F (start N_has_names [v]) 0 a := sl rfl r
  cases a with
  | int i => exact no_isiS (ed_var v0) (by decide +kernel : kitB "int" "tuple" = some false)
  | bool i => exact no_isiS (ed_var v0) (by decide +kernel : kitB "bool" "tuple" = some false)
  | none => exact no_isiS (ed_var v0) (by decide +kernel : kitB "NoneType" "tuple" = some false)
  | str x => exact no_isiS (ed_var v0) (by decide +kernel : kitB "str" "tuple" = some false)
  | list x => exact no_isiS (ed_var v0) (by decide +kernel : kitB "list" "tuple" = some false)
  | dict x => exact no_isiS (ed_var v0) (by decide +kernel : kitB "dict" "tuple" = some false)
  | tuple xs =>
    obtain ⟨hl, hfa⟩ := fine_tup hf
    have y1 : kitB (tyD (.tuple xs)) "tuple" = some true := (by decide +kernel : kitB "tuple" "tuple" = some true)
    refine es_if (b := !(xs.all isPairD)) ((eb_or (eb_not (eb_val (ed_isi (ed_var v0) y1))) fun _ => eb_not (eb_val (ed_all (bs := xs.map isPairD) ?_))).eq ?_) (fun h => (es_ret ed_bl).eq ?_) fun h => ?_
    · refine (ed_lcT (fun _ => true) (fun d => .bool (isPairD d)) (ed_var v0) hl fun d _ => turn_name (fun v => rfl) (fun v G _ _ => eb_yes) fun _ v' G x r' => ?_).eq ?_
      · exact ed_c1 (ed_var (sl rfl r')) True.intro rfl
      · rw [filter_yes, List.map_map]
        rfl
    · rw [all_map_id]
      rfl
    · have h' : xs.all isPairD = false := by
        cases e : xs.all isPairD with
        | true => rw [e] at h; cases h
        | false => rfl
      show PyData.bool false = .bool (xs.all isPairD && _)
      rw [h']
      rfl
    · have hall : xs.all isPairD = true := by
        cases e : xs.all isPairD with
        | true => rfl
        | false => rw [e] at h; cases h
      have hp : ∀ d ∈ xs, isPairD d = true := fun d hd => List.all_eq_true.mp hall d hd
      show EvS K F _ _ (.bool (xs.all isPairD && ((xs.map fstD).all isNameD && ascS ((xs.map fstD).map strD))))
      rw [hall, Bool.true_and]
      refine es_set (e := .list (xs.map fstD)) ?_ fun v1 G x r1 => es_ret ?_
      · refine (ed_lcT (fun _ => true) fstD (ed_var v0) hl fun d hd => ?_).eq (by rw [filter_yes])
        obtain ⟨a, b, rfl⟩ := pair_of (hp d hd)
        exact turn_pair (fun v w => rfl) (fun _ _ _ _ _ _ => eb_yes) fun _ v' w' G x r1 r2 => ed_var (sl rfl r1)
      · have v1' : Sl K G ((start N_has_names [v]).set 1 (some v1)) 1 (.list (xs.map fstD)) := sl rfl r1
        refine ed_and (ed_all (bs := (xs.map fstD).map isNameD) ?_ |>.eq (by rw [all_map_id])) fun hn => ?_
        · refine (ed_lcL (fun _ => true) (fun d => .bool (isNameD d)) (ed_var v1') (by rw [List.length_map]; exact hl) fun d hd => turn_name (fun v => rfl) (fun v G _ _ => eb_yes) fun _ v' G x r' => ?_).eq ?_
          · refine ed_c1 (ed_var (sl rfl r')) ?_ rfl
            obtain ⟨q, hq, rfl⟩ := List.mem_map.mp hd
            obtain ⟨a, b, rfl⟩ := pair_of (hp q hq)
            exact (fine_pair (fineAll_mem hfa hq)).1
          · rw [filter_yes, List.map_map (g := PyData.bool)]
            rfl
        · refine ed_c1 (ed_var v1') ⟨(xs.map fstD).map strD, ?_, by rw [List.length_map, List.length_map]; exact hl⟩ rfl
          have e : ∀ l : List D, l.all isNameD = true → l = (l.map strD).map PyData.str := fun l => by
            induction l with
            | nil => intro _; rfl
            | cons y l ih =>
              intro h
              rw [List.all_cons] at h
              obtain ⟨h1, h2⟩ := Bool.and_eq_true_iff.mp h
              rw [List.map_cons, List.map_cons, ← ih h2, ← str_of h1]
          rw [← e _ hn]

abbrev s_is_plan : Stmt := top 15
abbrev N_is_plan : List Str := ["thing", "_", "moment"]
theorem sc_is_plan : FnScope N_is_plan ["thing"] (defScope s_is_plan) := ⟨rfl, rfl, rfl, by decide +kernel, rfl, by decide +kernel, by decide +kernel⟩
/- slots of is_plan: 0 thing, 1 _, 2 moment -/
theorem k_is_plan (Fx : Fg K mg "is_plan" s_is_plan) (T : Txt mg) (k_has_names : Kp P w K mg base 2 "has_names" ["thing"] (sp1 K (fun d => fine d = true) fun d => .bool (hasNamesD d)))
    (k_is_number : Kp P w K mg base 1 "is_number" ["thing"] (sp1 K (fun _ => True) fun d => .bool (isNumD d))) :
    Kp P w K mg base 3 "is_plan" ["thing"] (sp1 K (fun d => fine d = true) fun d => .bool (isPlanD d)) := by
  refine kp1 Fx sc_is_plan (fun F => F.binds fun _ _ _ _ _ _ us hl => match us, hl with | [_], _ => rfl) fun f₀ cdv A outer s H E hr => ⟨_, (pss_one (ps_ret (pe_and (pe_kp k_has_names (hr.mono (by decide)) (by rfl) (pa_cons (pv 0) pa_nil)) (pe_one (pe_callB (cr_all rfl) (by rfl) T.b_all (by decide +kernel) (pa_cons (pe_lc (own := [("_", 1), ("moment", 2)]) (g := gTup K 2 (gCons (gName 1) (gCons (gName 2) gNil))) (tt := tYes) rfl sc_is_plan.nd (pi_tup (pv 0)) (blkOk_by (N := N_is_plan) (sc := defScope s_is_plan) (by decide +kernel)) (fun _ _ _ _ _ => (pg_tup rfl (pgs_cons (pg_name (i := 1) sc_is_plan.nd rfl (Or.inl rfl)) (pgs_cons (pg_name (i := 2) sc_is_plan.nd rfl (Or.inl rfl)) pgs_nil)))) (fun _ _ _ _ _ => pts_nil) (fun _ _ _ _ _ => (pe_kp k_is_number (hr.mono (by decide)) (by rfl) (pa_cons (pv 2) pa_nil)))) pa_nil)))))), fun F v a r hf => ?_⟩
  have v0 : Sl K F (start N_is_plan [v]) 0 a := sl rfl r
  refine es_ret ?_
  unfold isPlanD
  refine ed_and (ed_c1 (ed_var v0) hf rfl) fun hn => ?_
  cases a with
  | tuple xs =>
    obtain ⟨hl, hfa⟩ := fine_tup hf
    have hp : ∀ d ∈ xs, isPairD d = true := fun d hd => List.all_eq_true.mp (Bool.and_eq_true_iff.mp (show (xs.all isPairD && _) = true from hn)).1 d hd
    refine (ed_all (bs := (xs.map sndD).map isNumD) ?_).eq (by rw [all_map_id])
    refine (ed_lcT (fun _ => true) (fun d => .bool (isNumD (sndD d))) (ed_var v0) hl fun d hd => ?_).eq ?_
    · obtain ⟨a, b, rfl⟩ := pair_of (hp d hd)
      exact turn_pair (fun v w => rfl) (fun _ _ _ _ _ _ => eb_yes) fun _ v' w' G x r1 r2 => ed_c1 (ed_var (sl rfl r2)) True.intro rfl
    · rw [filter_yes, List.map_map, List.map_map]
      rfl
  | int i => cases hn
  | bool i => cases hn
  | none => cases hn
  | str x => cases hn
  | list x => cases hn
  | dict x => cases hn

abbrev s_is_limit : Stmt := top 18
abbrev N_is_limit : List Str := ["thing", "_", "end"]
theorem sc_is_limit : FnScope N_is_limit ["thing"] (defScope s_is_limit) := ⟨rfl, rfl, rfl, by decide +kernel, rfl, by decide +kernel, by decide +kernel⟩
/- slots of is_limit: 0 thing, 1 _, 2 end -/
theorem k_is_limit (Fx : Fg K mg "is_limit" s_is_limit) (T : Txt mg) (k_has_names : Kp P w K mg base 2 "has_names" ["thing"] (sp1 K (fun d => fine d = true) fun d => .bool (hasNamesD d)))
    (k_is_number : Kp P w K mg base 1 "is_number" ["thing"] (sp1 K (fun _ => True) fun d => .bool (isNumD d))) :
    Kp P w K mg base 3 "is_limit" ["thing"] (sp1 K (fun d => fine d = true) fun d => .bool (isLimitD d)) := by
  refine kp1 Fx sc_is_limit (fun F => F.binds fun _ _ _ _ _ _ us hl => match us, hl with | [_], _ => rfl) fun f₀ cdv A outer s H E hr => ⟨_, (pss_one (ps_ret (pe_and (pe_kp k_has_names (hr.mono (by decide)) (by rfl) (pa_cons (pv 0) pa_nil)) (pe_one (pe_callB (cr_all rfl) (by rfl) T.b_all (by decide +kernel) (pa_cons (pe_lc (own := [("_", 1), ("end", 2)]) (g := gTup K 2 (gCons (gName 1) (gCons (gName 2) gNil))) (tt := tYes) rfl sc_is_limit.nd (pi_tup (pv 0)) (blkOk_by (N := N_is_limit) (sc := defScope s_is_limit) (by decide +kernel)) (fun _ _ _ _ _ => (pg_tup rfl (pgs_cons (pg_name (i := 1) sc_is_limit.nd rfl (Or.inl rfl)) (pgs_cons (pg_name (i := 2) sc_is_limit.nd rfl (Or.inl rfl)) pgs_nil)))) (fun _ _ _ _ _ => pts_nil) (fun _ _ _ _ _ => (pe_or (pe_cmpR op_isN (pv 2) pe_non (nomark _)) (pe_one (pe_kp k_is_number (hr.mono (by decide)) (by rfl) (pa_cons (pv 2) pa_nil)))))) pa_nil)))))), fun F v a r hf => ?_⟩
  have v0 : Sl K F (start N_is_limit [v]) 0 a := sl rfl r
  refine es_ret ?_
  unfold isLimitD
  refine ed_and (ed_c1 (ed_var v0) hf rfl) fun hn => ?_
  cases a with
  | tuple xs =>
    obtain ⟨hl, hfa⟩ := fine_tup hf
    have hp : ∀ d ∈ xs, isPairD d = true := fun d hd => List.all_eq_true.mp (Bool.and_eq_true_iff.mp (show (xs.all isPairD && _) = true from hn)).1 d hd
    refine (ed_all (bs := (xs.map sndD).map isEndD) ?_).eq (by rw [all_map_id])
    refine (ed_lcT (fun _ => true) (fun d => .bool (isEndD (sndD d))) (ed_var v0) hl fun d hd => ?_).eq ?_
    · obtain ⟨a, b, rfl⟩ := pair_of (hp d hd)
      refine turn_pair (fun v w => rfl) (fun _ _ _ _ _ _ => eb_yes) fun _ v' w' G x r1 r2 => ?_
      refine (ed_or (ed_isN (ed_var (sl rfl r2)) rfl) fun _ => ed_c1 (ed_var (sl rfl r2)) True.intro rfl).eq ?_
      cases b <;> rfl
    · rw [filter_yes, List.map_map, List.map_map]
      rfl
  | int i => cases hn
  | bool i => cases hn
  | none => cases hn
  | str x => cases hn
  | list x => cases hn
  | dict x => cases hn
end
end Cn
set_option Elab.async false
set_option linter.all false
set_option maxRecDepth 100000
set_option maxHeartbeats 4000000
/-! dict(a tuple of pairs); sorted(d.items()) of a dict from texts to whole numbers. -/
namespace Cn
open PySem PySem.Spec PyProof.Rows L2
/-- what is added above F: the objects at the places of S, all new -/
theorem Grow.add {F H H' : Hp} (S : Addr → Prop) [DecidablePred S] (hS : ∀ b, S b → H b = none) (e : Ex F H) (e2 : Ex H H') : Grow F H (fun b => if S b then H' b else F b) H' := by
  have nf : ∀ b, S b → F b = none := fun b hb => Evl.fresh_back e (hS b hb)
  refine ⟨fun a o h => ?_, fun a o h => ?_, e2, fun b o h q => ?_⟩
  · have n : ¬ S a := fun z => by rw [nf a z] at h; cases h
    show (if S a then H' a else F a) = some o
    rw [if_neg n]
    exact h
  · have h : (if S a then H' a else F a) = some o := h
    by_cases n : S a
    · rw [if_pos n] at h
      exact h
    · rw [if_neg n] at h
      exact e2 a o (e a o h)
  · have n : ¬ S b := fun z => by rw [hS b z] at h; cases h
    show (if S b then H' b else F b) = none
    rw [if_neg n]
    exact q

section
variable {X : Cx}
theorem TupZ.plain {pins : List (Addr × Obj)} {σ : L2.St} {H : Hp} {s : Shared} {a : Addr} {xs : List V} (I : Inv X pins σ H s) (h : TupZ X.K H a xs) : ∃ its : List Value, Vals xs its ∧ PlainSeq "tuple" s.heap a its.toArray ∧ xs.length ≤ sizeLine := by
  rcases h with ⟨o, h, hd⟩ | ⟨o, its, n, hk, hc, hd, hs, hz, r⟩
  · obtain ⟨hg, z, its, r, o', hg', hc, n, hs⟩ := (show ObjOk X.prog X.w H s.heap a (.frz o (.tup xs)) from I.hok a _ h)
    have e : o = o' := Option.some.inj (hg.symm.trans hg')
    subst e
    exact ⟨its, r, ⟨o, n, hg, hc, hd, hs⟩, z⟩
  · have e := r.length
    refine ⟨its.toList, r, ⟨o, n, I.kIn a o hk, hc, hd, by simpa using hs⟩, ?_⟩
    simp only [Array.length_toList] at e
    omega
theorem pairs_ofZ {pins : List (Addr × Obj)} {σ : L2.St} {H : Hp} {s : Shared} (I : Inv X pins σ H s) : ∀ {ps : List Addr} {kvs : List (Key × V)}, Paired (fun p kv => SqT X.K H p [kV kv.1, kv.2]) ps kvs →
    ∃ (prs : List (Key × Value)) (two : List (Value × Value)), KV kvs prs ∧ prs.length = ps.length ∧ two.length = ps.length ∧ ∀ (j : Nat) (u y : Value), two[j]? = some (u, y) → ∃ (b : Addr) (k : Key), ps[j]? = some b ∧ IsTup s.heap b #[u, y] ∧ prs[j]? = some (k, y) ∧ keyIs k u = true
  | _, _, .nil => ⟨[], [], .nil, rfl, rfl, fun j u y e => by simp at e⟩
  | _, _, .cons (a := p) (b := kv) h t => by
    obtain ⟨prs, two, r, hl, hl2, hp⟩ := pairs_ofZ I t
    obtain ⟨its, rv, ht, _⟩ := I.tuple h
    obtain ⟨u, y, ei, ru, ry⟩ := vals2 rv
    subst ei
    refine ⟨(kv.1, y) :: prs, (u, y) :: two, .cons ⟨rfl, ry⟩ r, by rw [List.length_cons, List.length_cons, hl], by rw [List.length_cons, List.length_cons, hl2], fun j u' y' e => ?_⟩
    cases j with
    | zero =>
      have e' : (u, y) = (u', y') := Option.some.inj e
      injection e' with e1 e2
      subst e1 e2
      exact ⟨p, kv.1, rfl, ht, rfl, kV_is (P := X.prog) (w := X.w) ru⟩
    | succ j =>
      obtain ⟨b, k, e1, e2, e3, e4⟩ := hp j u' y' (by simpa using e)
      exact ⟨b, k, by simpa using e1, e2, by simpa using e3, e4⟩
def rDictT (K : PySem.W.Frag) : List V → Hp → VK → Prop := fun xs H Q => ∃ (a : Addr) (ps : List Addr) (kvs : List (Key × V)), xs = [.ref a] ∧ TupZ K H a (ps.map V.ref) ∧ Paired (fun p kv => SqT K H p [kV kv.1, kv.2]) ps kvs ∧ ∀ p, H p = none → Q (.ref p) (upd H p (.dK (mergeK [] kvs)))
theorem call_dictT {K : PySem.W.Frag} (hK : X.K = K) (hcalm : X.calm = true) : CallR X (.type "dict") (rDictT K) := by
  subst hK
  intro pins s σ H xs us Q I r q
  obtain ⟨a, ps, kvs, ex, hq, hp, q⟩ := q
  subst ex
  obtain ⟨u, eu, rx⟩ := vals1 r
  subst eu
  cases rx
  obtain ⟨its, rv, pl, hz⟩ := hq.plain I
  have ei := refs_at rv
  subst ei
  rw [List.length_map] at hz
  obtain ⟨prs, two, rel, hl, hl2, hpr⟩ := pairs_ofZ I hp
  have it : PairItems s.heap (ps.map Value.ref).toArray (fun j => ps.getD j 0) two := ⟨by simp [hl2], fun j k v e => by
    obtain ⟨b, key, e1, ⟨o, ho, hc, n, hd⟩, _⟩ := hpr j k v e
    exact ⟨by simp [e1, List.getD_eq_getElem?_getD], .inl (by show s.heap.IsTuple (ps.getD j 0) #[k, v]; rw [List.getD_eq_getElem?_getD, e1]; exact ⟨o, ho, hc, n, hd⟩)⟩⟩
  refine PySem.call_dict_pairs (knd := mixKind X.prog X.w) (kvs := prs) (PairArg.tuple a _ _ two) (I.ok.hd hcalm) ⟨pl, it⟩ ⟨by rw [hl, hl2], fun i key v e => ?_⟩ (by rw [hl2]; exact hz) fun h' tk hd' k => ?_
  · obtain ⟨b, k, e1, e2, e3, e4⟩ := hpr i key v e
    exact ⟨k, e3, e4⟩
  · have k' : ∀ b o, s.heap.get? b = some o → h'.get? b = some o := fun b o e => k b o (by simp) e
    have hm : (s.heap.objs.size == sysModules) = false := beq_eq_false_iff_ne.mpr (Nat.ne_of_gt I.big)
    have hlen : (mergeK [] kvs).length ≤ sizeLine := by
      refine Nat.le_trans (length_mergeK kvs []) ?_
      rw [List.length_nil, Nat.zero_add, rel.length, hl]
      exact hz
    exact ⟨.ref s.heap.objs.size, upd H s.heap.objs.size (.dK (mergeK [] kvs)), I.laid (t' := tk) k' (Nat.le_refl _) (show ObjOk X.prog X.w _ _ _ (.dK (mergeK [] kvs)) from ⟨hlen, hm, merged [] prs, KV.merge rel .nil, hd'⟩), rfl, q _ (I.hok.fresh (Nat.le_refl _))⟩

/-! ### d.items() -/
def rItemsK : V → List V → Hp → VK → Prop := fun x xs H Q => ∃ (a : Addr) (kvs : List (Key × V)), x = .ref a ∧ xs = [] ∧ H a = some (.dK kvs) ∧ ∀ p, H p = none → Q (.ref p) (upd H p (DX.itemsO p a))
theorem mt_itemsK : MtR X "dict.items" rItemsK := by
  intro pins s σ H x xs v us Q I rx rxs h
  obtain ⟨a, kvs, rfl, rfl, ha, q⟩ := h
  cases rx
  cases rxs
  obtain ⟨z, hd, vs, rel, o, es, ep, ho, hx, hdat, _⟩ := dk_of I.hok ha
  refine DT.callItems (es := es) (ep := ep) hd ⟨o, ho, hx, hdat⟩ ?_
  have hf : H s.heap.objs.size = none := I.hok.fresh (Nat.le_refl _)
  exact ⟨.ref s.heap.objs.size, upd H s.heap.objs.size (DX.itemsO s.heap.objs.size a), I.laid (t' := s.toks) (fun b u e => Heap.get?_push_of_some _ e) (Nat.le_refl _) (DX.itemsO_ok (Heap.get?_push_size _ rfl)), rfl, q _ hf⟩
/-! ### sorted(d.items()), texts to whole numbers -/
abbrev kvI (q : Str × Int) : Key × V := (Sum.inr q.1, V.int q.2)
def prD (q : Str × Int) : D := .tuple [.str q.1, .int q.2]
def rSortItK : List V → Hp → VK → Prop := fun vs H Q => ∃ (p a : Addr) (ks : List (Str × Int)), vs = [.ref p] ∧ H p = some (DX.itemsO p a) ∧ H a = some (.dK (ks.map kvI)) ∧ ks.length ≤ 1000 ∧
  ∀ (H' : Hp) (l : Addr) (ts : List Addr), (∀ b o, H b = some o → H' b = some o) → H l = none → (∀ t ∈ ts, H t = none) → H' l = some (.lst (ts.map V.ref)) →
    Paired (fun (t : Addr) (q : Str × Int) => ∃ o : Obj, o.dict = none ∧ H' t = some (.frz o (.tup [.str q.1, .int q.2]))) ts (ks.mergeSort (PySem.W.dataLe false prD)) → Q (.ref l) H'
theorem takeZ {pins : List (Addr × Obj)} {σ : L2.St} {H0 : Hp} {s : Shared} {h' : Heap} {tk : Nat} {P : Addr → Obj → List V → Prop} (I0 : Inv X pins σ H0 s) : ∀ (L : List Addr) (H1 : Hp), Inv X pins σ H1 { s with heap := h', toks := tk } → L.Nodup →
    (∀ a ∈ L, s.heap.objs.size ≤ a ∧ H1 a = none ∧ ∃ o vs, P a o vs ∧ ∀ H2, ObjOk X.prog X.w H2 h' a (.frz o (.tup vs))) →
    ∃ H2, Inv X pins σ H2 { s with heap := h', toks := tk } ∧ (∀ b o, H1 b = some o → H2 b = some o) ∧ ∀ a ∈ L, ∃ o vs, P a o vs ∧ H2 a = some (.frz o (.tup vs))
  | [], H1, I1, _, _ => ⟨H1, I1, fun _ _ e => e, fun _ h => nomatch h⟩
  | a :: L, H1, I1, hn, h => by
    obtain ⟨hb, hnone, o, vs, hP, ok⟩ := h a (List.mem_cons_self ..)
    have I2 : Inv X pins σ (upd H1 a (.frz o (.tup vs))) { s with heap := h', toks := tk } := I1.take (h' := h') (t' := tk) (fun b ob _ e => e) (I0.fpOk hb hnone) (ok _)
    rw [List.nodup_cons] at hn
    obtain ⟨H2, I3, g, q⟩ := takeZ I0 L (upd H1 a (.frz o (.tup vs))) I2 hn.2 fun c hc => by
      obtain ⟨c1, c2, c3⟩ := h c (List.mem_cons_of_mem _ hc)
      exact ⟨c1, by rw [upd_ne (fun z => hn.1 (by rw [← z]; exact hc))]; exact c2, c3⟩
    refine ⟨H2, I3, fun b o e => g b o (by rw [upd_ne (ne_of_none e hnone)]; exact e), fun c hc => ?_⟩
    rcases List.mem_cons.mp hc with rfl | hc
    · exact ⟨o, vs, hP, g _ _ upd_same⟩
    · exact q c hc
theorem eachIs_of {α β : Type} {R : α → β → Prop} : ∀ {l : List α} {m : List β}, l.length = m.length → (∀ (j : Nat) (a : α) (b : β), l[j]? = some a → m[j]? = some b → R a b) → PySem.W.EachIs R l m
  | [], [], _, _ => .nil
  | a :: l, b :: m, h, f => .cons (f 0 a b rfl rfl) (eachIs_of (by simpa using h) fun j x y e1 e2 => f (j + 1) x y (by simpa using e1) (by simpa using e2))
theorem eachIs_len {α β : Type} {R : α → β → Prop} {l : List α} {m : List β} (h : PySem.W.EachIs R l m) : l.length = m.length := h.length
/-- the object of a pair (text, whole number) -/
def PrAt (h : Heap) (a : Addr) (q : Str × Int) (o : Obj) : Prop := ∃ t u, o = { cls := Value.type "tuple", data := Data.seq #[Value.str q.1 t, Value.int q.2 u] } ∧ h.get? a = some o
theorem PrAt.reads {h : Heap} {a : Addr} {q : Str × Int} {o : Obj} (x : PrAt h a q o) : Reads h (.ref a) (prD q) [] := by
  obtain ⟨t, u, rfl, e⟩ := x
  exact Reads.tuple e rfl rfl (.cons (.str _ _) (.cons (.int _ _) .nil))
theorem prD_alike (p q : Str × Int) : PySem.W.alike (prD p) (prD q) = true := by
  unfold prD
  simp [PySem.W.alike, PySem.W.alikeAll]
theorem prD_depth (p : Str × Int) : (prD p).depth ≤ 8 := by
  unfold prD
  simp [PyData.depth, PyData.depthAll]
theorem pairs_get {P : Program} {w : World} : ∀ {es : List DictEntry} {vs : List (Key × Value)}, Pairs (mixKind P w) es vs → ∀ {j : Nat} {e : DictEntry}, es[j]? = some e → ∃ k x, vs[j]? = some (k, x) ∧ keyIs k e.key = true ∧ e.val = x
  | _, _, .nil, j, e, h => by simp at h
  | _, _, .cons (kv := kv) h1 h2 t, 0, e, h => by
    have h := Option.some.inj h
    subst h
    exact ⟨kv.1, kv.2, rfl, h1, h2⟩
  | _, _, .cons _ _ t, j + 1, e, h => pairs_get t (by simpa using h)
theorem cr_sortItK (hc : X.calm = true) (hu : X.A.units + 64 < cLine) : CallR X (.builtin "sorted") rSortItK := by
  intro pins s σ H xs us Q I r h
  obtain ⟨p, a, ks, rfl, hp, ha, hlen, q⟩ := h
  obtain rfl := Vals.ref1 r
  have view : s.heap.IsItemsView p a := (show ObjOk X.prog X.w H s.heap p (DX.itemsO p a) from I.hok p _ hp).1
  obtain ⟨z, hd, vs, rel, o, es, ep, ho, hx, hdat, _, hes, _⟩ := dk_of I.hok ha
  have l1 : (ks.map kvI).length = vs.length := Paired.length rel
  rw [List.length_map] at l1
  have l2 : es.size = vs.length := by
    have e := hes.length
    rw [Array.length_toList] at e
    exact e
  have hh : X.A.handled = none := I.ok.hd hc
  have hsz : sizeLine = 16777216 := sizeLine_eq
  refine DT.sortedI (es := es) (ep := ep) hh view ⟨o, ho, hx, hdat⟩ (by omega) fun h' tk as hk hlt hl hG => ?_
  have nd : as.Nodup := List.Pairwise.imp (fun {a b} (h : a < b) => Nat.ne_of_lt h) hG.rise
  -- the pairs
  have pr : ∀ (j : Nat) (b : Addr), as[j]? = some b → ∃ (q : Str × Int) (o : Obj), ks[j]? = some q ∧ PrAt h' b q o := by
    intro j b hj
    obtain ⟨en, e1, e3⟩ := hG.pairs j b hj
    obtain ⟨k, x, e4, e2, e5⟩ := pairs_get hes (j := j) (e := en) (by simpa using e1)
    have hj' : j < ks.length := by
      have := (List.getElem?_eq_some_iff.mp e4).1
      omega
    obtain ⟨y, g1, g2, g3⟩ := LiI.paired_get rel (i := j) (x := kvI ks[j]) (by rw [List.getElem?_map, List.getElem?_eq_getElem hj']; rfl)
    rw [e4] at g1
    cases g1
    have g2' : (Sum.inr (ks[j]).1 : Key) = k := g2
    subst g2'
    have e2' : keyIs (Sum.inr (ks[j]).1) en.key = true := e2
    obtain ⟨t, ek⟩ := Value.isStrOf_shape (x := (ks[j]).1) (v := en.key) e2'
    obtain ⟨u, ex⟩ := (show ∃ u, x = Value.int (ks[j]).2 u from g3)
    refine ⟨ks[j], _, List.getElem?_eq_getElem hj', t, u, rfl, ?_⟩
    rw [← ek, ← ex, ← e5]
    exact e3
  have kb : ∀ b o, h'.get? b = some o → (h'.push { cls := .type "list", data := .seq (as.map Value.ref).toArray }).get? b = some o := fun b o e => Heap.get?_push_of_some _ e
  have hob : (h'.push { cls := .type "list", data := .seq (as.map Value.ref).toArray }).get? h'.objs.size = some (seqObj "list" (as.map Value.ref).toArray 0) := Heap.get?_push_size _ rfl
  have ne0 : ∀ b o, h'.get? b = some o → b ≠ h'.objs.size := fun b o e => Nat.ne_of_lt (Heap.lt_size e)
  generalize hh2 : h'.push { cls := .type "list", data := .seq (as.map Value.ref).toArray } = h2 at hob kb ⊢
  have lak : as.length = ks.length := by omega
  have R0 := eachIs_of (R := fun (v : Value) (q : Str × Int) => ∃ (b : Addr) (o : Obj), v = .ref b ∧ b ∈ as ∧ PrAt h' b q o) (l := as.map Value.ref) (m := ks) (by rw [List.length_map]; exact lak) fun j v q hv hq => by
    rw [List.getElem?_map] at hv
    obtain ⟨b, hb, rfl⟩ := Option.map_eq_some_iff.mp hv
    obtain ⟨q', o, g1, g2⟩ := pr j b hb
    rw [hq] at g1
    cases g1
    exact ⟨b, o, rfl, List.mem_of_getElem? hb, g2⟩
  refine PySem.W.list_sort_data (s := { s with heap := h2, toks := tk }) (enc := prD) hob R0 (R0.mono fun v q ⟨b, o, e1, e2, e3⟩ => ⟨[], e1 ▸ (show Reads h2 (.ref b) (prD q) [] from let ⟨t, u, eo, g⟩ := e3; PrAt.reads ⟨t, u, eo, kb _ _ g⟩), by simp⟩)
    (fun d hd d' hd' => by
      obtain ⟨x, _, rfl⟩ := List.mem_map.mp hd
      obtain ⟨y, _, rfl⟩ := List.mem_map.mp hd'
      exact prD_alike x y) (.inl fun d hd => by
      obtain ⟨x, _, rfl⟩ := List.mem_map.mp hd
      exact ⟨_, _, rfl⟩) (by omega) (fun b _ => by
      have h8 := prD_depth b
      show X.A.units + 1 + 1 + (prD b).depth < cLine
      omega) fun out hol hout => ?_
  show EP X pins σ Q (.ref h'.objs.size) { s with heap := sortedHeap h2 h'.objs.size (as.map Value.ref) out.toArray, toks := tk }
  have kF : ∀ b o, b ≠ h'.objs.size → h2.get? b = some o → (sortedHeap h2 h'.objs.size (as.map Value.ref) out.toArray).get? b = some o := fun b o hb e => (sortedHeap_old hb (Heap.lt_size e)).trans e
  have kG : ∀ b o, h'.get? b = some o → (sortedHeap h2 h'.objs.size (as.map Value.ref) out.toArray).get? b = some o := fun b o e => kF b o (ne0 _ _ e) (kb _ _ e)
  have kS : ∀ b o, s.heap.get? b = some o → (sortedHeap h2 h'.objs.size (as.map Value.ref) out.toArray).get? b = some o := fun b o e => kG _ _ (hk b o e)
  obtain ⟨eF, heF⟩ := sortedHeap_at (vs := as.map Value.ref) (out := out.toArray) hob
  have I1 : Inv X pins σ H { s with heap := sortedHeap h2 h'.objs.size (as.map Value.ref) out.toArray, toks := tk } := I.kept (t' := tk) kS
  have hn0 : H h'.objs.size = none := I.hok.fresh (Nat.le_of_lt hlt)
  -- the sorted list's addresses
  have zs_of : ∀ {out : List Value} {qs : List (Str × Int)}, PySem.W.EachIs (fun (v : Value) (q : Str × Int) => ∃ (b : Addr) (o : Obj), v = .ref b ∧ b ∈ as ∧ PrAt h' b q o) out qs →
      ∃ zs : List Addr, out = zs.map Value.ref ∧ Paired (fun (b : Addr) (q : Str × Int) => b ∈ as ∧ ∃ o, PrAt h' b q o) zs qs := fun {out qs} r => by
    induction r with
    | nil => exact ⟨[], rfl, .nil⟩
    | cons h _ ih =>
      obtain ⟨b, o, rfl, h1, h2⟩ := h
      obtain ⟨zs, rfl, h3⟩ := ih
      exact ⟨b :: zs, rfl, .cons ⟨h1, o, h2⟩ h3⟩
  obtain ⟨zs, ez, pz⟩ := zs_of hout
  have lz : zs.length = ks.length := by
    have e := hol
    rw [ez, List.length_map] at e
    exact e
  have rv : Vals (zs.map V.ref) out := by
    rw [ez]
    exact LiI.vals_refs zs
  have I2 : Inv X pins σ (upd H h'.objs.size (.lst (zs.map V.ref))) { s with heap := sortedHeap h2 h'.objs.size (as.map Value.ref) out.toArray, toks := tk } :=
    I1.take (h' := sortedHeap h2 h'.objs.size (as.map Value.ref) out.toArray) (t' := tk) (fun b ob _ e => e) (I.fpOk (Nat.le_of_lt hlt) hn0) ⟨by rw [List.length_map, lz]; omega, out, eF, rv, heF⟩
  have asn : ∀ b ∈ as, H b = none := fun b hb => I.hok.fresh (Nat.le_of_lt (hG.above b hb))
  obtain ⟨H2, I3, g, qt⟩ := takeZ (P := fun b o vs => ∃ q : Str × Int, PrAt h' b q o ∧ vs = [.str q.1, .int q.2]) I as _ I2 nd fun b hb => by
    obtain ⟨j, hj⟩ := List.mem_iff_getElem?.mp hb
    obtain ⟨q, o, hq, t, u, eo, hg⟩ := pr j b hj
    have hbl : s.heap.objs.size ≤ b := Nat.le_of_lt (hG.above b hb)
    refine ⟨hbl, ?_, o, [.str q.1, .int q.2], ⟨q, ⟨t, u, eo, hg⟩, rfl⟩, fun H3 => ⟨kG _ _ hg, by show 2 ≤ sizeLine; omega, [.str q.1 t, .int q.2 u], .cons ⟨t, rfl⟩ (.cons ⟨u, rfl⟩ .nil), ⟨o, kG _ _ hg, ?_⟩⟩⟩
    · rw [upd_ne (ne0 _ _ hg)]
      exact asn b hb
    · subst eo
      exact ⟨rfl, _, rfl⟩
  have gr : ∀ b o, H b = some o → H2 b = some o := fun b o e => g b o (by rw [upd_ne (ne_of_none e hn0)]; exact e)
  have fin : Paired (fun (t : Addr) (q : Str × Int) => ∃ o : Obj, o.dict = none ∧ H2 t = some (.frz o (.tup [.str q.1, .int q.2]))) zs (ks.mergeSort (PySem.W.dataLe false prD)) := L2.Paired.mapP pz fun b q ⟨hb, o, t, u, eo, hg⟩ => by
    obtain ⟨o', vs', ⟨q', ⟨t', u', eo', hg'⟩, rfl⟩, hH⟩ := qt b hb
    have e := Option.some.inj (hg.symm.trans hg')
    rw [eo, eo'] at e
    injection e with _ _ e2 _
    injection e2 with e3 _
    have e4 := congrArg Array.toList e3
    simp only [List.cons.injEq] at e4
    obtain ⟨e5, e6, _⟩ := e4
    injection e5 with e7 _
    injection e6 with e8 _
    refine ⟨o', by rw [eo'], ?_⟩
    rw [hH, e7, e8]
  have zn : ∀ t ∈ zs, H t = none := fun t ht => by
    obtain ⟨j, q, _, _, h1, _⟩ := LiI.paired_ix pz ht
    exact asn t h1
  exact ⟨.ref h'.objs.size, H2, I3, rfl, q H2 h'.objs.size zs gr hn0 zn (g _ _ upd_same) fin⟩
end
end Cn
set_option Elab.async false
set_option linter.all false
set_option maxRecDepth 100000
set_option maxHeartbeats 4000000
/-! The mathematics of plans and limits as lists of pairs. -/
namespace Cn
open PySem PySem.Spec PyProof.Rows L2
abbrev Plan := List (Str × Int)
abbrev Lim := List (Str × Option Int)
def optD : Option Int → D
  | none => .none
  | some n => .int n
def optV : Option Int → V
  | none => .non
  | some n => .int n
def lrD (q : Str × Option Int) : D := .tuple [.str q.1, optD q.2]
def planD (ps : Plan) : D := .tuple (ps.map prD)
def limD (ls : Lim) : D := .tuple (ls.map lrD)
def lim (ps : Plan) : Lim := ps.map fun q => (q.1, some q.2)
theorem planD_lim (ps : Plan) : limD (lim ps) = planD ps := by
  unfold limD planD lim
  rw [List.map_map]
  rfl
def laterM (ps : Plan) (n : Int) : Plan := ps.map fun q => (q.1, q.2 + n)
def lk {α : Type} (l : List (Str × α)) (x : Str) : Option α := (l.find? fun q => decide (q.1 = x)).map (·.2)
def roomM : Option Int → Option Int → Bool
  | _, none => true
  | none, some _ => false
  | some a, some b => decide (a ≤ b)
def withinM (one other : Lim) : Bool := one.all fun q => match lk other q.1 with
  | none => false
  | some l => roomM q.2 l
def putQ (acc : Plan) (x : Str) (v : Int) : Plan := if (acc.any fun p => decide (p.1 = x)) = true then acc.map (fun p => if p.1 = x then (p.1, v) else p) else acc ++ [(x, v)]
def mx (i j : Int) : Int := if j > i then j else i
def step (acc : Plan) (q : Str × Int) : Plan := putQ acc q.1 (mx q.2 ((lk acc q.1).getD q.2))
def steps (acc : Plan) (ps : Plan) : Plan := ps.foldl step acc
def joinAll (pss : List Plan) : Plan := pss.foldl steps []
def joinM (pss : List Plan) : Plan := (joinAll pss).mergeSort (PySem.W.dataLe false prD)

end Cn
set_option Elab.async false
set_option linter.all false
set_option maxRecDepth 100000
set_option maxHeartbeats 4000000
namespace Cn
open PySem PySem.Spec PyProof.Rows L2
def Good (ps : Plan) : Prop := fine (planD ps) = true ∧ isPlanD (planD ps) = true
def GoodL (ls : Lim) : Prop := fine (limD ls) = true ∧ isLimitD (limD ls) = true
/-- ascending texts stand before all later ones -/
theorem ascS_lt : ∀ {l : List Str}, ascS l = true → l.Pairwise fun x y => x.cps.toList < y.cps.toList
  | [], _ => .nil
  | [x], _ => List.pairwise_singleton _ _
  | x :: y :: r, h => by
    unfold ascS at h
    obtain ⟨h1, h2⟩ := Bool.and_eq_true_iff.mp h
    have ih := ascS_lt h2
    have hxy := of_decide_eq_true h1
    refine List.pairwise_cons.mpr ⟨fun z hz => ?_, ih⟩
    rcases List.mem_cons.mp hz with rfl | hz
    · exact hxy
    · exact List.lt_trans hxy ((List.pairwise_cons.mp ih).1 z hz)
theorem ascS_nodup {l : List Str} (h : ascS l = true) : l.Nodup := (ascS_lt h).imp fun {x y} h e => by
  rw [e] at h
  exact List.lt_irrefl _ h
section
variable {P : Program} {w : World} {K : PySem.W.Frag} {mg : Str → Option Value} {base : Heap}
/-- a pure def by its body's reading -/
theorem kpN {x : Str} {st : Stmt} {N ps : List Str} {k : Nat} {R : List D → D → Prop} (Fx : Fg K mg x st) (S : FnScope N ps (defScope st)) (hb : ∀ {f : Addr} {fd : FuncData} (_ : Fun K x x st f fd), Binds K fd ps [])
    (body : ∀ (f₀ : Addr) (cdv : Value) (A : Around) (outer : List Env) (s : Shared) (H : Hp) (E : XK), Room k (A.deeper (envOfC x (defScope st) s.heap.objs.size f₀ cdv)) →
      ∃ t, PSs (cxOf CX0 P w K mg base N x (defScope st) f₀ cdv A outer s H E).nox (defBody st) t ∧ ∀ F vs ds d, DzAll K F vs ds → ds.length = ps.length → R ds d → EvS K F t (start N vs) d) : Kp P w K mg base (k + 1) x ps (spD K ps.length R) := by
  obtain ⟨a, fd, hm, F⟩ := Fx
  refine ⟨a, fd, hm, F.kp, hb F, F.ok S spD_len fun cdv A outer s H vs Q E hr h => ?_⟩
  obtain ⟨ds, d, F0, hF, hda, hn, hR, q⟩ := h
  obtain ⟨t, h1, h2⟩ := body a cdv A outer s H E hr
  exact ⟨t, h1, h2 F0 vs ds d hda hn hR F0 H (Evl.Ex.refl _) hF _ q⟩
theorem dz2 {F : Hp} {vs : List V} {a b : D} (h : DzAll K F vs [a, b]) : ∃ v u, vs = [v, u] ∧ Dz K F v a ∧ Dz K F u b := by
  cases h with
  | cons h1 t =>
    cases t with
    | cons h2 t =>
      cases t
      exact ⟨_, _, rfl, h1, h2⟩
/-- an if that raises, not taken -/
theorem es_ok {F : Hp} {σ : L2.St} {tt : TT} {tr : TS} {d : D} (h : EvB F tt σ false) (k : EvS K F tr σ d) : EvS K F (tSeq (tIfS tt tNever tNext) tr) σ d := es_if h (fun z => nomatch z) fun _ => k
abbrev rel2 (K : PySem.W.Frag) (R : List D → D → Prop) : Sp := spD K 2 R
def R_later (ds : List D) (d : D) : Prop := ∃ ps n, ds = [planD ps, .int n] ∧ Good ps ∧ d = planD (laterM ps n)

abbrev s_later : Stmt := top 16
abbrev N_later : List Str := ["plan", "number", "name", "moment"]
theorem sc_later : FnScope N_later ["plan", "number"] (defScope s_later) := ⟨rfl, rfl, rfl, by decide +kernel, rfl, by decide +kernel, by decide +kernel⟩
/- slots of later: 0 plan, 1 number, 2 name, 3 moment -/
theorem k_later (Fx : Fg K mg "later" s_later) (T : Txt mg) (k_is_plan : Kp P w K mg base 3 "is_plan" ["thing"] (sp1 K (fun d => fine d = true) fun d => .bool (isPlanD d)))
    (k_is_number : Kp P w K mg base 1 "is_number" ["thing"] (sp1 K (fun _ => True) fun d => .bool (isNumD d))) :
    Kp P w K mg base 4 "later" ["plan", "number"] (spD K 2 R_later) := by
  refine kpN Fx sc_later (fun F => F.binds fun _ _ _ _ _ _ us hl => match us, hl with | [_, _], _ => rfl) fun f₀ cdv A outer s H E hr => ⟨_, (pss_cons (ps_if (pt_not (pt_val (pe_kp k_is_plan (hr.mono (by decide)) (by rfl) (pa_cons (pv 0) pa_nil))))
  (pss_one ps_never) pss_nil)
  (pss_cons (ps_if (pt_not (pt_val (pe_kp k_is_number (hr.mono (by decide)) (by rfl) (pa_cons (pv 1) pa_nil))))
  (pss_one ps_never) pss_nil)
  (pss_one (ps_ret (pe_callTy (call_tupleZ (K := K) rfl) (by rfl) T.b_tuple (by decide +kernel) (pa_cons (pe_lc (own := [("name", 2), ("moment", 3)]) (g := gTup K 2 (gCons (gName 2) (gCons (gName 3) gNil))) (tt := tYes) rfl sc_later.nd (pi_tup (pv 0)) (blkOk_by (N := N_later) (sc := defScope s_later) (by decide +kernel)) (fun _ _ _ _ _ => (pg_tup rfl (pgs_cons (pg_name (i := 2) sc_later.nd rfl (Or.inl rfl)) (pgs_cons (pg_name (i := 3) sc_later.nd rfl (Or.inl rfl)) pgs_nil)))) (fun _ _ _ _ _ => pts_nil) (fun _ _ _ _ _ => (pe_tupZ (pa_cons (pv 2) (pa_cons (pe_op op_add (pv 3) (pv 1)) pa_nil))))) pa_nil)))))), fun F vs ds d hda _ hR => ?_⟩
  obtain ⟨ps, n, rfl, ⟨g1, g2⟩, rfl⟩ := hR
  obtain ⟨v, u, rfl, r0, r1⟩ := dz2 hda
  have v0 : Sl K F (start N_later [v, u]) 0 (planD ps) := sl rfl r0
  have v1 : Sl K F (start N_later [v, u]) 1 (.int n) := sl rfl r1
  have hl : ps.length < 100000 := by
    have e := (fine_tup g1).1
    rw [List.length_map] at e
    exact e
  refine es_ok ((eb_not (eb_val (ed_c1 (ed_var v0) g1 (by rw [g2])))).eq rfl) (es_ok ((eb_not (eb_val (ed_c1 (ed_var v1) True.intro rfl))).eq rfl) (es_ret ?_))
  refine (ed_tupleL (ds := (laterM ps n).map prD) ?_)
  refine (ed_lcT (fun _ => true) (fun d => match d with | .tuple [.str x, .int m] => .tuple [.str x, .int (m + n)] | _ => .none) (ed_var v0) (by rw [List.length_map]; exact hl) fun d hd => ?_).eq ?_
  · obtain ⟨q, _, rfl⟩ := List.mem_map.mp hd
    refine turn_pair (fun v w => rfl) (fun _ _ _ _ _ _ => eb_yes) fun _ v' w' G x r1' r2' => ?_
    refine ed_tup (eas_two (ed_var (sl rfl r1')) (ed_I0 (ed_var (sl rfl r2')) (ed_var (sl_in x v1 fun v h => h)) fun G => .int _)) (by show 2 ≤ 100000; decide)
  · rw [filter_yes, List.map_map]
    unfold laterM
    rw [List.map_map]
    rfl

def R_room (ds : List D) (d : D) : Prop := ∃ e l, ds = [optD e, optD l] ∧ d = .bool (roomM e l)
abbrev s__is_room : Stmt := top 20
abbrev N__is_room : List Str := ["end", "last"]
theorem sc__is_room : FnScope N__is_room ["end", "last"] (defScope s__is_room) := ⟨rfl, rfl, rfl, by decide +kernel, rfl, by decide +kernel, by decide +kernel⟩
/- slots of _is_room: 0 end, 1 last -/
theorem k__is_room (Fx : Fg K mg "_is_room" s__is_room) (T : Txt mg) : Kp P w K mg base 1 "_is_room" ["end", "last"] (spD K 2 R_room) := by
  refine kpN Fx sc__is_room (fun F => F.binds fun _ _ _ _ _ _ us hl => match us, hl with | [_, _], _ => rfl) fun f₀ cdv A outer s H E hr => ⟨_, (pss_one (ps_ret (pe_or (pe_cmpR op_isN (pv 1) pe_non (nomark _)) (pe_one (pe_and (pe_cmpR op_notN (pv 0) pe_non (nomark _)) (pe_one (pe_cmpR op_le (pv 0) (pv 1) (nomark _)))))))), fun F vs ds d hda _ hR => ?_⟩
  obtain ⟨e, l, rfl, rfl⟩ := hR
  obtain ⟨v, u, rfl, r0, r1⟩ := dz2 hda
  have v0 : Sl K F (start N__is_room [v, u]) 0 (optD e) := sl rfl r0
  have v1 : Sl K F (start N__is_room [v, u]) 1 (optD l) := sl rfl r1
  refine es_ret ?_
  cases l with
  | none => exact (ed_or (c := true) (ed_isN (b := true) (ed_var v1) rfl) fun z => nomatch z).eq (by cases e <;> rfl)
  | some b =>
    cases e with
    | none => exact (ed_or (ed_isN (b := false) (ed_var v1) rfl) fun _ => ed_and (c := true) (ed_notN (b := false) (ed_var v0) rfl) fun z => nomatch z).eq rfl
    | some a => exact (ed_or (ed_isN (b := false) (ed_var v1) rfl) fun _ => ed_and (ed_notN (b := true) (ed_var v0) rfl) fun _ => ed_I0 (ed_var v0) (ed_var v1) fun G => .bl _).eq rfl
end
end Cn
set_option Elab.async false
set_option linter.all false
set_option maxRecDepth 100000
set_option maxHeartbeats 4000000
namespace Cn
open PySem PySem.Spec PyProof.Rows L2
theorem mergeK_nd : ∀ (more acc : List (Key × V)), ((acc ++ more).map (·.1)).Nodup → mergeK acc more = acc ++ more
  | [], acc, _ => (List.append_nil _).symm
  | p :: more, acc, h => by
    have hn : valV acc p.1 = none := by
      cases e : valV acc p.1 with
      | none => rfl
      | some v =>
        have hm : p.1 ∈ acc.map (·.1) := valV_in e
        rw [List.map_append, List.map_cons] at h
        exact absurd (List.mem_cons_self) ((List.nodup_append.mp h).2.2 _ hm _ · rfl)
    show mergeK (putK acc p.1 p.2) more = _
    rw [putK_new _ hn, mergeK_nd more _ (by rw [List.append_assoc]; exact h), List.append_assoc]
    rfl
def kvO (q : Str × Option Int) : Key × V := (Sum.inr q.1, optV q.2)
theorem valV_lk : ∀ (l : Lim) (x : Str), valV (l.map kvO) (Sum.inr x : Key) = (lk l x).map optV
  | [], x => rfl
  | q :: l, x => by
    rw [List.map_cons]
    unfold lk
    rw [List.find?_cons]
    by_cases h : q.1 = x
    · rw [valV_pos (by show (Sum.inr q.1 : Key) = Sum.inr x; rw [h]), decide_eq_true h]
      rfl
    · rw [valV_neg (by show ¬ (Sum.inr q.1 : Key) = Sum.inr x; intro e; exact h (Sum.inr.inj e)), decide_eq_false h, valV_lk l x]
      rfl
theorem fst_lr (ls : Lim) : ((ls.map lrD).map fstD).map strD = ls.map (·.1) := by
  rw [List.map_map, List.map_map]
  rfl
theorem GoodL.asc {ls : Lim} (h : GoodL ls) : ascS (ls.map (·.1)) = true := by
  have h2 := (Bool.and_eq_true_iff.mp h.2).1
  have h3 : ((ls.map lrD).all isPairD && (((ls.map lrD).map fstD).all isNameD && ascS (((ls.map lrD).map fstD).map strD))) = true := h2
  rw [fst_lr] at h3
  exact (Bool.and_eq_true_iff.mp (Bool.and_eq_true_iff.mp h3).2).2
theorem GoodL.nd {ls : Lim} (h : GoodL ls) : (ls.map (·.1)).Nodup := ascS_nodup h.asc
theorem GoodL.len {ls : Lim} (h : GoodL ls) : ls.length < 100000 := by
  have e := (fine_tup h.1).1
  rw [List.length_map] at e
  exact e
theorem dz_opt {K : PySem.W.Frag} {F : Hp} {v : V} {o : Option Int} (h : Dz K F v (optD o)) : v = optV o := by
  cases o <;> (cases h; rfl)
/-- a tuple of pairs, by its pairs' addresses -/
theorem dz_lim {K : PySem.W.Frag} {F : Hp} : ∀ {ls : Lim} {xs : List V}, DzAll K F xs (ls.map lrD) → ∃ ps : List Addr, xs = ps.map V.ref ∧ Paired (fun p kv => SqT K F p [kV kv.1, kv.2]) ps (ls.map kvO)
  | [], _, .nil => ⟨[], rfl, .nil⟩
  | q :: ls, _, .cons h t => by
    obtain ⟨ps, rfl, pp⟩ := dz_lim t
    have h' : Dz K F _ (.tuple [.str q.1, optD q.2]) := h
    cases h' with
    | @tup a xs _ hs ha =>
      obtain ⟨v, u, rfl, r1, r2⟩ := dz2 ha
      cases r1
      have e := dz_opt r2
      subst e
      exact ⟨a :: ps, rfl, .cons hs.sq pp⟩
theorem paired_mono {α β : Type} {R S : α → β → Prop} {l : List α} {m : List β} (h : Paired R l m) (f : ∀ a b, R a b → S a b) : Paired S l m := L2.Paired.mapP h f
section
variable {P : Program} {w : World} {K : PySem.W.Frag} {mg : Str → Option Value} {base : Heap}
/-- x = e where e leaves something that is told by Pv -/
theorem es_setP {F : Hp} {σ : L2.St} {te : TE} {tr : TS} {i : Nat} {d : D} {Pv : Hp → V → Prop} (h : ∀ F1 H1, Ex F F1 → Ex F1 H1 → ∀ Q : VK, (∀ v F2 H2, Grow F1 H1 F2 H2 → Pv F2 v → Q v H2) → te σ H1 Q)
    (k : ∀ v G, Ex F G → Pv G v → EvS K G tr (σ.set i (some v)) d) : EvS K F (tSeq (tAsg te (gName i)) tr) σ d := fun F1 H1 a z E q =>
  h F1 H1 a z _ fun v F2 H2 g r => k v F2 (a.trans g.ff) r F2 H2 (Evl.Ex.refl _) g.fh E fun w F3 H3 g2 r2 => q w F3 H3 (g.trans g2) r2
def R_within (ds : List D) (d : D) : Prop := ∃ one other, ds = [limD one, limD other] ∧ GoodL one ∧ GoodL other ∧ d = .bool (withinM one other)

abbrev s_is_within : Stmt := top 19
abbrev N_is_within : List Str := ["one", "other", "ends", "name", "end"]
theorem sc_is_within : FnScope N_is_within ["one", "other"] (defScope s_is_within) := ⟨rfl, rfl, rfl, by decide +kernel, rfl, by decide +kernel, by decide +kernel⟩
/- slots of is_within: 0 one, 1 other, 2 ends, 3 name, 4 end -/
theorem k_is_within (Fx : Fg K mg "is_within" s_is_within) (T : Txt mg) (k_is_limit : Kp P w K mg base 3 "is_limit" ["thing"] (sp1 K (fun d => fine d = true) fun d => .bool (isLimitD d)))
    (k__is_room : Kp P w K mg base 1 "_is_room" ["end", "last"] (spD K 2 R_room)) : Kp P w K mg base 4 "is_within" ["one", "other"] (spD K 2 R_within) := by
  refine kpN Fx sc_is_within (fun F => F.binds fun _ _ _ _ _ _ us hl => match us, hl with | [_, _], _ => rfl) fun f₀ cdv A outer s H E hr => ?_
  have hu := hu_of hr
  refine ⟨_, (pss_cons (ps_if (PW.pt (pw_or (pt_not (pt_val (pe_kp k_is_limit (hr.mono (by decide)) (by rfl) (pa_cons (pv 0) pa_nil)))) (pw_or1 (pt_not (pt_val (pe_kp k_is_limit (hr.mono (by decide)) (by rfl) (pa_cons (pv 1) pa_nil)))))))
  (pss_one ps_never) pss_nil)
  (pss_cons (ps_set (i := 2) sc_is_within.nd rfl (Or.inr rfl) (pe_callTy (call_dictT (K := K) rfl rfl) (by rfl) T.b_dict (by decide +kernel) (pa_cons (pv 1) pa_nil)))
  (pss_one (ps_ret (pe_callB (cr_all rfl) (by rfl) T.b_all (by decide +kernel) (pa_cons (pe_lc (own := [("name", 3), ("end", 4)]) (g := gTup K 2 (gCons (gName 3) (gCons (gName 4) gNil))) (tt := tYes) rfl sc_is_within.nd (pi_tup (pv 0)) (blkOk_by (N := N_is_within) (sc := defScope s_is_within) (by decide +kernel)) (fun _ _ _ _ _ => (pg_tup rfl (pgs_cons (pg_name (i := 3) sc_is_within.nd rfl (Or.inl rfl)) (pgs_cons (pg_name (i := 4) sc_is_within.nd rfl (Or.inl rfl)) pgs_nil)))) (fun _ _ _ _ _ => pts_nil) (fun _ _ _ _ _ => (pe_and (pe_cmp (pc_din hu (pv 3) (pv 2))) (pe_one (pe_kp k__is_room (hr.mono (by decide)) (by rfl) (pa_cons (pv 4) (pa_cons (pe_dget hu (pv 2) (pv 3) (fun _ _ => rfl)) pa_nil))))))) pa_nil)))))), fun F vs ds d hda _ hR => ?_⟩
  obtain ⟨one, other, rfl, g1, g2, rfl⟩ := hR
  obtain ⟨v, u, rfl, r0, r1⟩ := dz2 hda
  have v0 : Sl K F (start N_is_within [v, u]) 0 (limD one) := sl rfl r0
  have v1 : Sl K F (start N_is_within [v, u]) 1 (limD other) := sl rfl r1
  refine es_ok ((eb_or (eb_not (eb_val (ed_c1 (ed_var v0) g1.1 (by rw [g1.2])))) fun _ => eb_not (eb_val (ed_c1 (ed_var v1) g2.1 (by rw [g2.2])))).eq rfl) ?_
  refine es_setP (Pv := fun G v => ∃ p, v = .ref p ∧ G p = some (.dK (other.map kvO))) (fun F1 H1 a z Q q => ?_) fun v2 G x hv2 => es_ret ?_
  · refine ed_var v1 F1 H1 a z _ fun vv F2 H2 g r => ?_
    cases (show Dz K F2 vv (.tuple (other.map lrD)) from r) with
    | @tup b xs _ hs ha =>
      obtain ⟨ps, rfl, pp⟩ := dz_lim ha
      refine ⟨b, ps, other.map kvO, rfl, hs.ex g.fh, paired_mono pp fun p kv h => Evl.ex_t g.fh h, fun p hp => ?_⟩
      rw [mergeK_nd _ _ (by
        rw [List.nil_append, List.map_map]
        have e := g2.nd
        have e2 : other.map ((·.1) ∘ kvO) = (other.map (·.1)).map (Sum.inr : Str → Key) := by
          rw [List.map_map]
          rfl
        rw [e2]
        exact List.Pairwise.map _ (fun a b h e => h (Sum.inr.inj e)) e), List.nil_append]
      have n := Grow.new (o := .dK (other.map kvO)) g.fh hp
      exact q _ _ _ (g.trans n) ⟨p, rfl, upd_same⟩
  · obtain ⟨p, rfl, hp⟩ := hv2
    have v0' : Sl K G ((start N_is_within [v, u]).set 2 (some (.ref p))) 0 (limD one) := sl_in x v0 fun v h => h
    refine (ed_all (bs := one.map fun q => match lk other q.1 with | none => false | some l => roomM q.2 l) ?_).eq ?_
    · refine (ed_lcT (fun _ => true) (fun d => match d with | .tuple [.str x, y] => .bool (match lk other x with | none => false | some l => roomM (match y with | .int m => some m | _ => none) l) | _ => .none)
        (ds := one.map lrD) (ed_var v0') (by rw [List.length_map]; exact g1.len) fun d hd => ?_).eq ?_
      · obtain ⟨q, _, rfl⟩ := List.mem_map.mp hd
        refine turn_pair (fun v w => rfl) (fun _ _ _ _ _ _ => eb_yes) fun _ v' w' G' x' r1' r2' => ?_
        have hp' : G' p = some (.dK (other.map kvO)) := x' p _ hp
        have eo : (match optD q.2 with | .int m => some m | _ => none) = q.2 := by cases q.2 <;> rfl
        show EvD K G' _ _ (.bool (match lk other q.1 with | none => false | some l => roomM (match optD q.2 with | .int m => some m | _ => none) l))
        rw [eo]
        cases r1'
        have dg : ∀ H2, Ex G' H2 → DGet H2 p (.str q.1) ((lk other q.1).map optV) := fun H2 z => by
          rw [← valV_lk]
          exact DGet.k (k := Sum.inr q.1) (z p _ hp')
        refine (ed_and (b := (lk other q.1).isSome) (c := match lk other q.1 with | none => true | some l => roomM q.2 l) (fun F1 H1 a z Q k => ?_) fun hs => ?_).eq (by cases lk other q.1 <;> rfl)
        · refine ⟨_, rfl, _, rfl, p, _, rfl, dg H1 (a.trans z), ?_⟩
          have e : ((lk other q.1).map optV).isSome = (lk other q.1).isSome := by cases lk other q.1 <;> rfl
          rw [e]
          exact k _ F1 H1 (Grow.refl z) (.bl _)
        · cases hl : lk other q.1 with
          | none => rw [hl] at hs; cases hs
          | some l =>
            refine ed_call (eas_two (ed_var (sl rfl r2')) (fun F1 H1 a z Q k => ?_)) rfl ⟨q.2, l, rfl, rfl⟩
            have h := dg H1 (a.trans z)
            rw [hl] at h
            exact ⟨_, rfl, _, rfl, p, optV l, rfl, h, k _ F1 H1 (Grow.refl z) (by cases l <;> constructor)⟩
      · rw [filter_yes, List.map_map, List.map_map]
        refine congrArg PyData.list (List.map_congr_left fun q _ => ?_)
        have eo : (match optD q.2 with | .int m => some m | _ => none) = q.2 := by cases q.2 <;> rfl
        show PyData.bool (match lk other q.1 with | none => false | some l => roomM (match optD q.2 with | .int m => some m | _ => none) l) = _
        rw [eo]
        rfl
    · rw [all_map_id]
      rfl
end
end Cn
set_option Elab.async false
set_option linter.all false
set_option maxRecDepth 100000
set_option maxHeartbeats 4000000
namespace Cn
open PySem PySem.Spec PyProof.Rows L2
theorem valV_lkI : ∀ (l : Plan) (x : Str), valV (l.map kvI) (Sum.inr x : Key) = (lk l x).map V.int
  | [], x => rfl
  | q :: l, x => by
    rw [List.map_cons]
    unfold lk
    rw [List.find?_cons]
    by_cases h : q.1 = x
    · rw [valV_pos (by show (Sum.inr q.1 : Key) = Sum.inr x; rw [h]), decide_eq_true h]
      rfl
    · rw [valV_neg (by show ¬ (Sum.inr q.1 : Key) = Sum.inr x; intro e; exact h (Sum.inr.inj e)), decide_eq_false h, valV_lkI l x]
      rfl
theorem putK_putQ (acc : Plan) (x : Str) (v : Int) : putK (acc.map kvI) (Sum.inr x : Key) (V.int v) = (putQ acc x v).map kvI := by
  have e1 : ((acc.map kvI).any fun kv => decide (kv.1 = (Sum.inr x : Key))) = acc.any fun p => decide (p.1 = x) := by
    rw [List.any_map]
    congr 1
    funext p
    exact decide_eq_decide.mpr ⟨fun e => Sum.inr.inj e, fun e => by show (Sum.inr p.1 : Key) = Sum.inr x; rw [e]⟩
  unfold putK putQ
  rw [e1]
  by_cases h : (acc.any fun p => decide (p.1 = x)) = true
  · rw [if_pos h, if_pos h, List.map_map, List.map_map]
    refine List.map_congr_left fun p _ => ?_
    show (if (Sum.inr p.1 : Key) = Sum.inr x then ((Sum.inr p.1 : Key), V.int v) else kvI p) = kvI (if p.1 = x then (p.1, v) else p)
    by_cases hp : p.1 = x
    · rw [if_pos (by rw [hp]), if_pos hp]
    · rw [if_neg (fun e => hp (Sum.inr.inj e)), if_neg hp]
  · rw [if_neg h, if_neg h, List.map_append]
    rfl
theorem putQ_len (acc : Plan) (x : Str) (v : Int) : (putQ acc x v).length ≤ acc.length + 1 := by
  unfold putQ
  split
  · rw [List.length_map]
    omega
  · rw [List.length_append]
    exact Nat.le_refl _
theorem steps_len : ∀ (ps acc : Plan), (steps acc ps).length ≤ acc.length + ps.length
  | [], acc => Nat.le_refl _
  | q :: ps, acc => by
    have h := steps_len ps (step acc q)
    have h2 := putQ_len acc q.1 (mx q.2 ((lk acc q.1).getD q.2))
    show (steps (step acc q) ps).length ≤ _
    rw [List.length_cons]
    have h3 : (step acc q).length ≤ acc.length + 1 := h2
    omega
def total (pss : List Plan) : Nat := (pss.map List.length).sum
theorem joins_len : ∀ (pss : List Plan) (acc : Plan), (pss.foldl steps acc).length ≤ acc.length + total pss
  | [], acc => Nat.le_refl _
  | ps :: pss, acc => by
    have h := joins_len pss (steps acc ps)
    have h2 := steps_len ps acc
    show (pss.foldl steps (steps acc ps)).length ≤ _
    unfold total at h ⊢
    rw [List.map_cons, List.sum_cons]
    omega
theorem total_take : ∀ (pss : List Plan) (i : Nat), total (pss.take i) ≤ total pss
  | [], i => by rw [List.take_nil]; exact Nat.le_refl _
  | ps :: pss, 0 => Nat.zero_le _
  | ps :: pss, i + 1 => by
    have h := total_take pss i
    unfold total at h ⊢
    rw [List.take_succ_cons, List.map_cons, List.sum_cons, List.map_cons, List.sum_cons]
    omega
theorem total_take_at {pss : List Plan} {i : Nat} {ps : Plan} (h : pss[i]? = some ps) : total (pss.take i) + ps.length ≤ total pss := by
  have h2 := total_take pss (i + 1)
  rw [take_at h] at h2
  unfold total at h2 ⊢
  rw [List.map_append, List.sum_append] at h2
  simpa using h2
section
variable {P : Program} {w : World} {K : PySem.W.Frag} {mg : Str → Option Value} {base : Heap}
def R_joined (ds : List D) (d : D) : Prop := ∃ pss : List Plan, ds = [.list (pss.map planD)] ∧ (∀ ps ∈ pss, Good ps) ∧ pss.length < 100000 ∧ total pss ≤ 1000 ∧ d = planD (joinM pss)
theorem dz_paired {F : Hp} {α : Type} {f : α → D} : ∀ {xs : List α} {vs : List V}, DzAll K F vs (xs.map f) → ∀ {i : Nat} {v : V}, vs[i]? = some v → ∃ x, xs[i]? = some x ∧ Dz K F v (f x) := fun {xs vs} h i v hv => by
  obtain ⟨d, h1, h2⟩ := dpa_get h hv
  rw [List.getElem?_map] at h1
  obtain ⟨x, e1, e2⟩ := Option.map_eq_some_iff.mp h1
  exact ⟨x, e1, e2 ▸ h2⟩
theorem g_two {H1 : Hp} {σ : L2.St} {i j : Nat} {t : Addr} {v1 v2 : V} {R : L2.St → Hp → Prop} (h : SqT K H1 t [v1, v2]) (k : R ((σ.set i (some v1)).set j (some v2)) H1) : gTup K 2 (gCons (gName i) (gCons (gName j) gNil)) (.ref t) σ H1 R :=
  ⟨_, _, rfl, h, rfl, _, _, rfl, _, _, rfl, rfl, k⟩

abbrev s_joined : Stmt := top 17
abbrev N_joined : List Str := ["plans", "at", "plan", "lasts", "name", "moment"]
theorem sc_joined : FnScope N_joined ["plans"] (defScope s_joined) := ⟨rfl, rfl, rfl, by decide +kernel, rfl, by decide +kernel, by decide +kernel⟩
/- slots of joined: 0 plans, 1 at, 2 plan, 3 lasts, 4 name, 5 moment -/
theorem k_joined (Fx : Fg K mg "joined" s_joined) (T : Txt mg) (k_is_list : Kp P w K mg base 1 "is_list" ["thing"] (sp1 K (fun _ => True) fun d => .bool (isListD d)))
    (k_is_plan : Kp P w K mg base 3 "is_plan" ["thing"] (sp1 K (fun d => fine d = true) fun d => .bool (isPlanD d))) : Kp P w K mg base 4 "joined" ["plans"] (spD K 1 R_joined) := by
  refine kpN Fx sc_joined (fun F => F.binds fun _ _ _ _ _ _ us hl => match us, hl with | [_], _ => rfl) fun f₀ cdv A outer s H E hr => ?_
  have hu := hu_of hr
  refine ⟨_, (pss_cons (ps_if (pt_not (pt_val (pe_kp k_is_list (hr.mono (by decide)) (by rfl) (pa_cons (pv 0) pa_nil))))
  (pss_one ps_never) pss_nil)
  (pss_cons (ps_for PassesOwn.never rfl (pi_enum (by rfl) T.b_enumerate (pa_cons (pv 0) pa_nil)) (pg_tup rfl (pgs_cons (pg_name (i := 1) sc_joined.nd rfl (Or.inl rfl)) (pgs_cons (pg_name (i := 2) sc_joined.nd rfl (Or.inl rfl)) pgs_nil)))
  (pss_one (ps_if (pt_not (pt_val (pe_kp k_is_plan (hr.mono (by decide)) (by rfl) (pa_cons (pv 2) pa_nil))))
  (pss_one ps_never) pss_nil)))
  (pss_cons (ps_set (i := 3) sc_joined.nd rfl (Or.inl rfl) pe_dnewK)
  (pss_cons (ps_for PassesOwn.never rfl (pi_list (pv 0)) (pg_name (i := 2) sc_joined.nd rfl (Or.inl rfl))
  (pss_one (ps_for PassesOwn.never rfl (pi_tup (pv 2)) (pg_tup rfl (pgs_cons (pg_name (i := 4) sc_joined.nd rfl (Or.inl rfl)) (pgs_cons (pg_name (i := 5) sc_joined.nd rfl (Or.inl rfl)) pgs_nil)))
  (pss_one (ps_dput hu (pv 3) (pv 4) (pe_callB (call_max2 rfl) (by rfl) T.b_max (by decide +kernel) (pa_cons (pv 5) (pa_cons (pe_dget2 hu (pv 3) (pv 4) (pv 5) ⟨rfl, rfl, rfl, rfl⟩) pa_nil))) rfl)))))
  (pss_one (ps_ret (pe_callTy (call_tupleZ (K := K) rfl) (by rfl) T.b_tuple (by decide +kernel) (pa_cons (pe_callB (cr_sortItK rfl hr.units) (by rfl) T.b_sorted (by decide +kernel) (pa_cons (pe_bm0 PySem.F.plainAttrs_dict PySem.F.slot_dict_items PySem.F.type_dict_items mt_itemsK (pv 3)) pa_nil)) pa_nil)))))))), fun F vs ds d hda _ hR => ?_⟩
  obtain ⟨pss, rfl, good, hl, ht, rfl⟩ := hR
  cases hda with
  | @cons v _ _ _ r0 tl =>
  cases tl
  have v0 : Sl K F (start N_joined [v]) 0 (.list (pss.map planD)) := sl rfl r0
  refine es_ok ((eb_not (eb_val (ed_c1 (ed_var v0) True.intro rfl))).eq rfl) fun F1 H1 a z E q => ?_
  cases dp_ex a r0 with
  | @lst b xs _ hs ha =>
  -- for at, plan in enumerate(plans)
  refine ⟨_, rfl, b, xs, rfl, Evl.ex_l z hs, for_it (walk_enum (K := K) (a := b) (xs := xs)) (fun i σ H => Ex H1 H ∧ ∃ x y, σ = [some (.ref b), x, y, none, none, none]) ⟨Evl.Ex.refl _, none, none, rfl⟩ (fun i σ H _ p => Evl.ex_l (z.trans p.1) hs) ?_ ?_⟩
  · rintro i x σ H H' hi ⟨e, x1, x2, rfl⟩ ⟨t, y1, y2, rfl, ht0, rfl, h1, h2⟩
    cases h1
    obtain ⟨ps, hps, dps⟩ := dz_paired ha h2
    have e2 : Ex H1 (upd H t (.tup [.int i, y2])) := e.trans (Evl.Ex.new ht0)
    refine g_two (SqT.of upd_same) ?_
    have w2 : Sl K F1 (([some (.ref b), x1, x2, none, none, none] : L2.St).set 1 (some (.int i)) |>.set 2 (some y2)) 2 (planD ps) := sl rfl dps
    have gp := good ps (List.mem_of_getElem? hps)
    refine (eb_not (eb_val (ed_c1 (ed_var w2) gp.1 (by rw [gp.2])))) F1 _ (Evl.Ex.refl _) (z.trans e2) _ fun F2 H2 g => ?_
    exact iteF ⟨e2.trans g.hh, _, _, rfl⟩
  · rintro σ H ⟨e, x1, x2, rfl⟩
    -- lasts = {}
    intro p hp
    have p1 : H1 p = none := Evl.fresh_back e hp
    -- for plan in plans
    refine ⟨_, rfl, b, rfl, ⟨xs, Evl.ex_l ((z.trans e).trans (Evl.Ex.new hp)) hs⟩, for_list (K := K) (a := b) (xs := xs) (fun i σ H => Ex H1 H ∧ H p = some (.dK (((pss.take i).foldl steps []).map kvI)) ∧ ∃ x y u u', σ = [some (.ref b), x, y, some (.ref p), u, u'])
      ⟨e.trans (Evl.Ex.new hp), upd_same, _, _, _, _, rfl⟩ (fun i σ H _ q => Evl.ex_l (z.trans q.1) hs) ?_ ?_⟩
    · rintro i x σ H hx ⟨e, hd, y1, y2, y3, y4, rfl⟩
      obtain ⟨ps, hps, dps⟩ := dz_paired ha hx
      cases (show Dz K F1 x (.tuple (ps.map prD)) from dps) with
      | @tup c ys _ hsT haT =>
      -- for name, moment in plan
      refine ⟨_, rfl, c, rfl, ⟨ys, (hsT.ex (z.trans e)).sq⟩, for_tup (K := K) (a := c) (xs := ys) (fun j σ H => Ex H1 H ∧ H p = some (.dK ((steps ((pss.take i).foldl steps []) (ps.take j)).map kvI)) ∧ ∃ u u', σ = [some (.ref b), y1, some (.ref c), some (.ref p), u, u'])
        ⟨e, by rw [List.take_zero]; exact hd, _, _, rfl⟩ (fun j σ H _ q => (hsT.ex (z.trans q.1)).sq) ?_ ?_⟩
      · rintro j y σ H hy ⟨e, hd, y5, y6, rfl⟩
        obtain ⟨m, hm, dm⟩ := dz_paired haT hy
        refine g_pair (F1 := F1) dm (z.trans e) fun u1 u2 r1 r2 => ?_
        cases r1
        cases r2
        -- lasts[name] = max(moment, lasts.get(name, moment))
        have hle : (steps ((pss.take i).foldl steps []) (ps.take j)).length ≤ 1000 := by
          have h1 := steps_len (ps.take j) ((pss.take i).foldl steps [])
          have h2 := joins_len (pss.take i) []
          have h3 := total_take_at hps
          have h4 : (ps.take j).length ≤ ps.length := by rw [List.length_take]; omega
          simp only [List.length_nil] at h2
          omega
        refine ⟨_, rfl, _, rfl, p, rfl, .inl ⟨_, .inl hd⟩, _, rfl, _, rfl, _, DGet.k (k := Sum.inr m.1) hd, m.2, (lk (steps ((pss.take i).foldl steps []) (ps.take j)) m.1).getD m.2, ?_, _, rfl, _, rfl, p, _, rfl, DPut.k (k := Sum.inr m.1) hd (by rw [List.length_map]; exact small1000 hle), ?_⟩
        · rw [valV_lkI]
          cases lk (steps ((pss.take i).foldl steps []) (ps.take j)) m.1 <;> rfl
        · refine ⟨Evl.Ex.mut e p1, ?_, _, _, rfl⟩
          rw [upd_same, take_at hm]
          show some (HO.dK (putK _ (Sum.inr m.1 : Key) (V.int (mx m.2 _)))) = _
          rw [putK_putQ]
          unfold steps
          rw [List.foldl_append]
          rfl
      · rintro σ H ⟨e, hd, y5, y6, rfl⟩
        have el : ys.length = ps.length := by rw [dpa_len haT, List.length_map]
        refine ⟨e, ?_, _, _, _, _, rfl⟩
        rw [el, List.take_length] at hd
        rw [hd, take_at hps, List.foldl_append]
        rfl
    · rintro σ H ⟨e, hd, y1, y2, y3, y4, rfl⟩
      have el : xs.length = pss.length := by rw [dpa_len ha, List.length_map]
      rw [el, List.take_length] at hd
      have hd' : H p = some (.dK ((joinAll pss).map kvI)) := hd
      have hjl : (joinAll pss).length ≤ 1000 := by
        have h2 := joins_len pss []
        simp only [List.length_nil] at h2
        have h3 : (joinAll pss).length = (pss.foldl steps []).length := rfl
        omega
      -- tuple(sorted(lasts.items()))
      refine ⟨_, rfl, .inr (.inr (.inl ⟨rfl, .inl ⟨_, hd'⟩⟩)), p, _, rfl, rfl, hd', fun t htn => ?_⟩
      have npt : p ≠ t := ne_of_none hd' htn
      refine ⟨t, p, joinAll pss, rfl, upd_same, by rw [upd_ne npt]; exact hd', hjl, fun H2 l ts k1 k2 k3 k4 k5 => ?_⟩
      have E1 : Ex H1 (upd H t (DX.itemsO t p)) := e.trans (Evl.Ex.new htn)
      have E2 : Ex H1 H2 := E1.trans k1
      refine ⟨l, ts.map V.ref, rfl, .inl ⟨SqL.of k4, fun l2 o hl2 hod => ?_⟩⟩
      have fresh : ∀ c, (c = l2 ∨ c ∈ ts) → H1 c = none := fun c hc => by
        rcases hc with rfl | hc
        · exact Evl.fresh_back E2 hl2
        · exact Evl.fresh_back E1 (k3 c hc)
      have g := Grow.add (F := F1) (H := H1) (H' := upd H2 l2 (.frz o (.tup (ts.map V.ref)))) (fun c => c = l2 ∨ c ∈ ts) fresh z (E2.trans (Evl.Ex.new hl2))
      refine q _ _ _ g (.tup (TupZ.of (by rw [if_pos (.inl rfl)]; exact upd_same) hod) ?_)
      have conv : ∀ {ts' : List Addr} {qs : Plan}, (∀ t ∈ ts', t ∈ ts) → Paired (fun (t : Addr) (q : Str × Int) => ∃ o : Obj, o.dict = none ∧ H2 t = some (.frz o (.tup [.str q.1, .int q.2]))) ts' qs →
          DzAll K (fun c => if c = l2 ∨ c ∈ ts then upd H2 l2 (.frz o (.tup (ts.map V.ref))) c else F1 c) (ts'.map V.ref) (qs.map prD) := fun {ts' qs} hm h => by
        induction h with
        | nil => exact .nil
        | @cons t qq ts' qs h _ ih =>
          obtain ⟨o2, d2, h2⟩ := h
          have ht2 := hm t List.mem_cons_self
          refine .cons (.tup (TupZ.of (o := o2) ?_ d2) (.cons (.str _) (.cons (.int _) .nil))) (ih fun c hc => hm c (List.mem_cons_of_mem _ hc))
          show (if t = l2 ∨ t ∈ ts then _ else _) = _
          rw [if_pos (.inr ht2), upd_ne (ne_of_none h2 hl2)]
          exact h2
      exact conv (fun _ h => h) k5
end
end Cn
set_option Elab.async false
set_option linter.all false
set_option maxRecDepth 100000
set_option maxHeartbeats 4000000
namespace Cn
open PySem PySem.Spec PyProof.Rows L2
/-! ### the state of the draws -/
def stK (lg cl : Addr) (rest turn : Int) : List (Key × V) := [(.inr "large", .ref lg), (.inr "cells", .ref cl), (.inr "rest", .int rest), (.inr "turn", .int turn)]
theorem k_lc : ¬ ((Sum.inr ("large" : Str) : Key) = Sum.inr ("cells" : Str)) := by decide +kernel
theorem k_lr : ¬ ((Sum.inr ("large" : Str) : Key) = Sum.inr ("rest" : Str)) := by decide +kernel
theorem k_lt : ¬ ((Sum.inr ("large" : Str) : Key) = Sum.inr ("turn" : Str)) := by decide +kernel
theorem k_cr : ¬ ((Sum.inr ("cells" : Str) : Key) = Sum.inr ("rest" : Str)) := by decide +kernel
theorem k_ct : ¬ ((Sum.inr ("cells" : Str) : Key) = Sum.inr ("turn" : Str)) := by decide +kernel
theorem k_rt : ¬ ((Sum.inr ("rest" : Str) : Key) = Sum.inr ("turn" : Str)) := by decide +kernel
theorem st_large (lg cl : Addr) (r t : Int) : valV (stK lg cl r t) (Sum.inr ("large" : Str) : Key) = some (.ref lg) := valV_pos rfl
theorem st_cells (lg cl : Addr) (r t : Int) : valV (stK lg cl r t) (Sum.inr ("cells" : Str) : Key) = some (.ref cl) := (valV_neg k_lc).trans (valV_pos rfl)
theorem st_rest (lg cl : Addr) (r t : Int) : valV (stK lg cl r t) (Sum.inr ("rest" : Str) : Key) = some (.int r) := (valV_neg k_lr).trans ((valV_neg k_cr).trans (valV_pos rfl))
theorem st_turn (lg cl : Addr) (r t : Int) : valV (stK lg cl r t) (Sum.inr ("turn" : Str) : Key) = some (.int t) := (valV_neg k_lt).trans ((valV_neg k_ct).trans ((valV_neg k_rt).trans (valV_pos rfl)))
theorem put_rest (lg cl : Addr) (r t v : Int) : putK (stK lg cl r t) (Sum.inr ("rest" : Str) : Key) (.int v) = stK lg cl v t := by
  have n4 : ¬ ((Sum.inr ("turn" : Str) : Key) = Sum.inr ("rest" : Str)) := fun e => k_rt e.symm
  unfold putK
  rw [valV_any, st_rest]
  unfold stK
  simp only [Option.isSome_some, if_true, List.map_cons, List.map_nil, if_neg k_lr, if_neg k_cr, if_neg n4]
theorem put_turn (lg cl : Addr) (r t v : Int) : putK (stK lg cl r t) (Sum.inr ("turn" : Str) : Key) (.int v) = stK lg cl r v := by
  unfold putK
  rw [valV_any, st_turn]
  unfold stK
  simp only [Option.isSome_some, if_true, List.map_cons, List.map_nil, if_neg k_lt, if_neg k_ct, if_neg k_rt]
structure StX (st lg cl : Addr) (large cells : List Int) (rest turn : Int) (H : Hp) : Prop where
  hs : H st = some (.dK (stK lg cl rest turn))
  hl : H lg = some (.lst (large.map V.int))
  hc : H cl = some (.lst (cells.map V.int))
  nn : ∀ x ∈ large, 0 ≤ x
  l1 : large.length ≤ 100
  l2 : cells.length ≤ 100
  r0 : 0 ≤ rest
  t0 : 0 ≤ turn
  ne : lg ≠ cl
/-- at most b more draws of its turn are asked -/
def StOk (st lg cl : Addr) (b : Nat) (H : Hp) : Prop := ∃ large cells rest turn, StX st lg cl large cells rest turn H ∧ turn + (b : Int) ≤ 1000000000
theorem StOk.mono {st lg cl : Addr} {b c : Nat} {H : Hp} (h : StOk st lg cl b H) (l : c ≤ b) : StOk st lg cl c H := by
  obtain ⟨la, ce, r, t, x, e⟩ := h
  exact ⟨la, ce, r, t, x, by omega⟩
/-- all but the state's own stands as it was -/
def Fr (st lg : Addr) (H H' : Hp) : Prop := ∀ c o, c ≠ st → c ≠ lg → H c = some o → H' c = some o
theorem Fr.refl {st lg : Addr} {H : Hp} : Fr st lg H H := fun _ _ _ _ h => h
theorem Fr.trans {st lg : Addr} {H H1 H2 : Hp} (a : Fr st lg H H1) (b : Fr st lg H1 H2) : Fr st lg H H2 := fun c o n m h => b c o n m (a c o n m h)
theorem Fr.of {st lg : Addr} {H H' : Hp} (e : Ex H H') : Fr st lg H H' := fun c o _ _ h => e c o h
theorem Fr.st {st lg : Addr} {H H1 : Hp} {o : HO} (a : Fr st lg H H1) : Fr st lg H (upd H1 st o) := fun c u n m h => by
  rw [upd_ne n]
  exact a c u n m h
theorem Fr.lg {st lg : Addr} {H H1 : Hp} {o : HO} (a : Fr st lg H H1) : Fr st lg H (upd H1 lg o) := fun c u n m h => by
  rw [upd_ne m]
  exact a c u n m h
theorem StX.ex {st lg cl : Addr} {la ce : List Int} {r t : Int} {H H' : Hp} (x : StX st lg cl la ce r t H) (e : Ex H H') : StX st lg cl la ce r t H' := ⟨e _ _ x.hs, e _ _ x.hl, e _ _ x.hc, x.nn, x.l1, x.l2, x.r0, x.t0, x.ne⟩
theorem StOk.ex {st lg cl : Addr} {b : Nat} {H H' : Hp} (h : StOk st lg cl b H) (e : Ex H H') : StOk st lg cl b H' := by
  obtain ⟨la, ce, r, t, x, q⟩ := h
  exact ⟨la, ce, r, t, x.ex e, q⟩
theorem StX.stl {st lg cl : Addr} {la ce : List Int} {r t : Int} {H : Hp} (x : StX st lg cl la ce r t H) : st ≠ lg := ne_of x.hs x.hl (fun z => nomatch z)
theorem StX.stc {st lg cl : Addr} {la ce : List Int} {r t : Int} {H : Hp} (x : StX st lg cl la ce r t H) : st ≠ cl := ne_of x.hs x.hc (fun z => nomatch z)
theorem StX.rest {st lg cl : Addr} {la ce : List Int} {r t v : Int} {H : Hp} (x : StX st lg cl la ce r t H) (hv : 0 ≤ v) : StX st lg cl la ce v t (upd H st (.dK (putK (stK lg cl r t) (Sum.inr ("rest" : Str) : Key) (.int v)))) :=
  ⟨by rw [upd_same, put_rest], by rw [upd_ne x.stl.symm]; exact x.hl, by rw [upd_ne x.stc.symm]; exact x.hc, x.nn, x.l1, x.l2, hv, x.t0, x.ne⟩
theorem StX.turn {st lg cl : Addr} {la ce : List Int} {r t v : Int} {H : Hp} (x : StX st lg cl la ce r t H) (hv : 0 ≤ v) : StX st lg cl la ce r v (upd H st (.dK (putK (stK lg cl r t) (Sum.inr ("turn" : Str) : Key) (.int v)))) :=
  ⟨by rw [upd_same, put_turn], by rw [upd_ne x.stl.symm]; exact x.hl, by rw [upd_ne x.stc.symm]; exact x.hc, x.nn, x.l1, x.l2, x.r0, hv, x.ne⟩
theorem StX.pop {st lg cl : Addr} {y : Int} {la ce : List Int} {r t : Int} {H : Hp} (x : StX st lg cl (y :: la) ce r t H) : StX st lg cl la ce r t (upd H lg (.lst (la.map V.int))) :=
  ⟨by rw [upd_ne x.stl]; exact x.hs, upd_same, by rw [upd_ne x.ne.symm]; exact x.hc, fun z hz => x.nn z (List.mem_cons_of_mem _ hz), by have := x.l1; rw [List.length_cons] at this; omega, x.l2, x.r0, x.t0, x.ne⟩
theorem shaped_ints (ns : List Int) : SeqAt.shaped (.list (ns.map .int)) = true := by
  have h1 : ∀ ns : List Int, PyData.canLayAll0 (ns.map .int) = true := fun ns => by
    induction ns with
    | nil => rfl
    | cons n ns ih =>
      rw [List.map_cons]
      unfold PyData.canLayAll0
      rw [ih]
      rfl
  have h2 : ∀ ns : List Int, PyData.depthAll (ns.map .int) ≤ 8 := fun ns => by
    induction ns with
    | nil => decide
    | cons n ns ih =>
      rw [List.map_cons]
      unfold PyData.depthAll
      exact Nat.max_le.mpr ⟨by unfold PyData.depth; omega, ih⟩
  unfold SeqAt.shaped
  have h3 : (PyData.list (ns.map .int)).canLay0 = true := by
    unfold PyData.canLay0
    exact h1 ns
  have h4 : (PyData.list (ns.map .int)).depth ≤ 64 := by
    have := h2 ns
    unfold PyData.depth
    omega
  rw [h3, decide_eq_true h4]
  rfl
theorem dp_ints {K : PySem.W.Frag} {H : Hp} {a : Addr} {ns : List Int} (h : SqL K H a (ns.map V.int)) : Dp K H (.ref a) (.list (ns.map .int)) := by
  refine .lst h ?_
  clear h
  induction ns with
  | nil => exact .nil
  | cons n ns ih => exact .cons (.int n) ih
theorem eqv_nil (ns : List Int) : PyData.eqv (.list (ns.map .int)) (.list []) = ns.isEmpty := by
  cases ns with
  | nil => simp only [List.map_nil, PyData.eqv, PyData.eqvAll]; rfl
  | cons n ns => simp only [List.map_cons, PyData.eqv, PyData.eqvAll]; rfl
/-- x != [] of a list of whole numbers -/
theorem ne_nil {K : PySem.W.Frag} {H : Hp} {a p : Addr} {ns : List Int} {Q : VK} (h : H a = some (.lst (ns.map V.int))) (hp : H p = none) (q : Q (.bl (!ns.isEmpty)) (upd H p (.lst []))) : rNeD K (.ref a) (.ref p) (upd H p (.lst [])) Q :=
  ⟨_, .list [], dp_ints (SqL.of (by rw [upd_ne (ne_of_none h hp)]; exact h)), .lst (SqL.of upd_same) .nil, shaped_ints ns, by decide +kernel, by rw [eqv_nil]; exact q⟩
section
variable {P : Program} {w : World} {K : PySem.W.Frag} {mg : Str → Option Value} {base : Heap}
def spDraw : Sp := fun vs H Q _ => ∃ st lg cl b n, vs = [.ref st, .int n] ∧ 0 < n ∧ n < 1000000 ∧ StOk st lg cl (b + 1) H ∧ ∀ r H', 0 ≤ r → r < n → StOk st lg cl b H' → Fr st lg H H' → Q (.int r) H'
/-- a def's promise by hand -/
theorem kpH {x : Str} {st : Stmt} {N ps : List Str} {k : Nat} {sp : Sp} (Fx : Fg K mg x st) (S : FnScope N ps (defScope st)) (hb : ∀ {f : Addr} {fd : FuncData} (_ : Fun K x x st f fd), Binds K fd ps []) (len : ∀ vs H Q E, sp vs H Q E → vs.length = ps.length)
    (body : ∀ (f₀ : Addr) (cdv : Value) (A : Around) (outer : List Env) (s : Shared) (H : Hp) (vs : List V) (Q : VK) (E : XK), Room k (A.deeper (envOfC x (defScope st) s.heap.objs.size f₀ cdv)) → sp vs H Q E →
      ∃ t, PSs (cxOf CX0 P w K mg base N x (defScope st) f₀ cdv A outer s H E).nox (defBody st) t ∧ t { nx := fun _ H' => Q .non H', rt := Q } (start N vs) H) : Kp P w K mg base (k + 1) x ps sp := by
  obtain ⟨a, fd, hm, F⟩ := Fx
  exact ⟨a, fd, hm, F.kp, hb F, F.ok S len fun cdv A outer s H vs Q E hr h => body a cdv A outer s H vs Q E hr h⟩

/-- the loop that brings a great number forward -/
theorem draw_loop {rest : TS} {D : Ends} {st lg cl : Addr} {t0 : Int} {ce0 : List Int} {σ : L2.St} (hσ : σ[0]? = some (some (.ref st)))
    {H0 : Hp} (after : ∀ la r H', StX st lg cl la ce0 r t0 H' → Fr st lg H0 H' → rest D σ H') :
    ∀ {la0 : List Int} {r0 : Int} {H : Hp}, StX st lg cl la0 ce0 r0 t0 H → Fr st lg H0 H →
    tSeq (tWhile (tAnd (tTest (tOp rEq (tDGet (tVar 0) (tC (.str "rest"))) (tC (.int 0)))) (tTest (tOp (rNeD K) (tDGet (tVar 0) (tC (.str "large"))) (tLst tNil))))
      (sDPut (tVar 0) (tC (.str "rest")) (tBM K "list" rPopAt (tDGet (tVar 0) (tC (.str "large"))) (tCons (tC (.int 0)) tNil)))) rest D σ H := fun {la0 r0 H} X0 fr0 => by
  refine ⟨fun m σ' H' => σ' = σ ∧ ∃ la r, la.length = m ∧ StX st lg cl la ce0 r t0 H' ∧ Fr st lg H0 H', ⟨_, rfl, la0, r0, rfl, X0, fr0⟩, ?_⟩
  rintro m σ2 H' ⟨hs2, la, r, hm, X, fr⟩
  rw [hs2]
  have dg : ∀ {H1 : Hp} {k : Str} {v : V}, Ex H' H1 → valV (stK lg cl r t0) (Sum.inr k : Key) = some v → DGet H1 st (.str k) (some v) := fun {H1 k v} z e => by
    rw [← e]
    exact DGet.k (k := Sum.inr k) (z _ _ X.hs)
  refine ⟨_, hσ, st, .int r, rfl, dg (Evl.Ex.refl _) (st_rest lg cl r t0), rfl, _, rfl, ?_⟩
  by_cases hr : V.int r = V.int 0
  · rw [decide_eq_true hr]
    refine iteT ⟨_, hσ, st, .ref lg, rfl, dg (Evl.Ex.refl _) (st_large lg cl r t0), Nat.zero_le _, fun p hp => ne_nil X.hl hp ⟨_, rfl, ?_⟩⟩
    have X' := X.ex (Evl.Ex.new (o := .lst []) hp)
    cases la with
    | nil => exact iteF (after [] r _ X' (fr.trans (Fr.of (Evl.Ex.new hp))))
    | cons y la =>
      refine iteT ⟨fun σ' H' => σ' = σ ∧ ∃ r, StX st lg cl la ce0 r t0 H' ∧ Fr st lg H0 H', fun σ' H' ⟨h1, r, h2, h3⟩ => ⟨la.length, by rw [← hm, List.length_cons]; exact Nat.lt_succ_self _, h1, la, r, rfl, h2, h3⟩, ?_⟩
      have X2 := X'.pop
      refine ⟨_, hσ, st, .ref lg, rfl, dg (Evl.Ex.new hp) (st_large lg cl r t0), .inl ⟨rfl, _, SqL.of X'.hl⟩, lg, _, 0, 0, .int y, rfl, rfl, X'.hl, by decide, by decide, seqIndex_of (by decide) (by rw [List.length_map, List.length_cons]; omega), rfl, ?_⟩
      refine ⟨_, hσ, st, _, rfl, DPut.k (k := Sum.inr ("rest" : Str)) X2.hs (small1000 (by show 4 ≤ 1000; decide)), rfl, y, X2.rest (X.nn y List.mem_cons_self), (Fr.st (Fr.lg (fr.trans (Fr.of (Evl.Ex.new hp)))))⟩
  · rw [decide_eq_false hr]
    exact iteF (iteF (after la r _ X fr))
theorem pow_lt {x : Int} {k : Nat} (h0 : 0 ≤ x) (h1 : x < 2 ^ k) : x.natAbs < 2 ^ k := by
  have e : ((x.natAbs : Nat) : Int) = x := Int.natAbs_of_nonneg h0
  have h2 : ((x.natAbs : Nat) : Int) < ((2 ^ k : Nat) : Int) := by
    rw [e]
    simpa using h1
  exact Int.ofNat_lt.mp h2

theorem ite_int {b : Bool} {ta tb : TE} {σ : L2.St} {H : Hp} {Q : VK} (h1 : b = true → ∃ c : Int, ∀ Q : VK, Q (.int c) H → ta σ H Q) (h2 : b = false → ∃ c : Int, ∀ Q : VK, Q (.int c) H → tb σ H Q) (k : ∀ c : Int, Q (.int c) H) :
    if b = true then ta σ H Q else tb σ H Q := by
  cases b with
  | true =>
    obtain ⟨c, h⟩ := h1 rfl
    exact iteT (h Q (k c))
  | false =>
    obtain ⟨c, h⟩ := h2 rfl
    exact iteF (h Q (k c))

abbrev s__law_draw : Stmt := top 23
abbrev N__law_draw : List Str := ["_law_state", "_law_size", "_law_found", "_law_turn", "_law_cell", "_law_mixed"]
theorem sc__law_draw : FnScope N__law_draw ["_law_state", "_law_size"] (defScope s__law_draw) := ⟨rfl, rfl, rfl, by decide +kernel, rfl, by decide +kernel, by decide +kernel⟩
/- slots of _law_draw: 0 _law_state, 1 _law_size, 2 _law_found, 3 _law_turn, 4 _law_cell, 5 _law_mixed -/
theorem k__law_draw (Fx : Fg K mg "_law_draw" s__law_draw) (T : Txt mg) : Kp P w K mg base 1 "_law_draw" ["_law_state", "_law_size"] spDraw := by
  refine kpH Fx sc__law_draw (fun F => F.binds fun _ _ _ _ _ _ us hl => match us, hl with | [_, _], _ => rfl) (fun vs H Q E h => by obtain ⟨st, lg, cl, b, n, rfl, _⟩ := h; rfl) fun f₀ cdv A outer s H vs Q E hr h => ?_
  have hu := hu_of hr
  refine ⟨_, (pss_cons (ps_while PassesOwn.never (PW.pt (pw_and (pt_cmpR op_eq (pe_dget hu (pv 0) pe_str (fun _ _ => rfl)) pe_int (nomark _)) (pw_and1 (pt_cmpR (op_neD hr.units) (pe_dget hu (pv 0) pe_str (fun _ _ => rfl)) (pe_lst pa_nil) (nomark _)))))
  (pss_one (ps_dput hu (pv 0) pe_str (pe_bm PySem.F.plainAttrs_list PySem.F.slot_list_pop PySem.F.type_list_pop mt_popAt (pe_dget hu (pv 0) pe_str (fun _ _ => rfl)) (pa_cons pe_int pa_nil)) rfl)))
  (pss_cons (ps_if (pt_cmpR op_gt (pe_dget hu (pv 0) pe_str (fun _ _ => rfl)) pe_int (nomark _))
  (pss_cons (ps_set (i := 2) sc__law_draw.nd rfl (Or.inl rfl) (pe_op op_mod (pe_callTy call_int1 (by rfl) T.b_int (by decide +kernel) (pa_cons (pe_dget hu (pv 0) pe_str (fun _ _ => rfl)) pa_nil)) (pv 1)))
  (pss_cons (ps_dput hu (pv 0) pe_str (pe_op op_fdiv (pe_dget hu (pv 0) pe_str (fun _ _ => rfl)) (pv 1)) rfl)
  (pss_one (ps_ret (pv 2))))) pss_nil)
  (pss_cons (ps_set (i := 3) sc__law_draw.nd rfl (Or.inl rfl) (pe_op op_add (pe_dget hu (pv 0) pe_str (fun _ _ => rfl)) pe_int))
  (pss_cons (ps_dput hu (pv 0) pe_str (pv 3) rfl)
  (pss_cons (ps_set (i := 4) sc__law_draw.nd rfl (Or.inl rfl) (pe_ifExp (pt_cmpR (op_neD hr.units) (pe_dget hu (pv 0) pe_str (fun _ _ => rfl)) (pe_lst pa_nil) (nomark _)) (pe_ix ix_list (pe_dget hu (pv 0) pe_str (fun _ _ => rfl)) (pe_op op_mod (pe_callTy call_int1 (by rfl) T.b_int (by decide +kernel) (pa_cons (pv 3) pa_nil)) (pe_callB (call_lenK (K := K) rfl) (by rfl) T.b_len (by decide +kernel) (pa_cons (pe_dget hu (pv 0) pe_str (fun _ _ => rfl)) pa_nil))) (fun _ _ => rfl)) pe_int))
  (pss_cons (ps_set (i := 5) sc__law_draw.nd rfl (Or.inl rfl) (pe_op op_mod (pe_callTy call_int1 (by rfl) T.b_int (by decide +kernel) (pa_cons (pe_op op_pow (pe_op op_add (pe_op op_add (pe_op op_mod (pe_callTy call_int1 (by rfl) T.b_int (by decide +kernel) (pa_cons (pv 4) pa_nil)) pe_int) (pe_op op_mul pe_int (pv 3))) pe_int) pe_int) pa_nil)) pe_int))
  (pss_one (ps_ret (pe_op op_mod (pe_callTy call_int1 (by rfl) T.b_int (by decide +kernel) (pa_cons (pe_op op_fdiv (pe_op op_mod (pe_callTy call_int1 (by rfl) T.b_int (by decide +kernel) (pa_cons (pe_op op_pow (pe_op op_add (pv 5) (pe_op op_mul pe_int (pv 3))) pe_int) pa_nil)) pe_int) pe_int) pa_nil)) (pv 1)))))))))), ?_⟩
  obtain ⟨st, lg, cl, b, n, rfl, n0, n1, ⟨la0, ce, r0, t0, X0, hb⟩, q⟩ := h
  refine draw_loop (st := st) (lg := lg) (cl := cl) (ce0 := ce) (t0 := t0) (H0 := H) rfl (fun la r H1 X fr => ?_) X0 Fr.refl
  have dg : ∀ {H2 : Hp} {k : Str} {v : V}, Ex H1 H2 → valV (stK lg cl r t0) (Sum.inr k : Key) = some v → DGet H2 st (.str k) (some v) := fun {H2 k v} z e => by
    rw [← e]
    exact DGet.k (k := Sum.inr k) (z _ _ X.hs)
  have s4 : ∀ {r t : Int}, (stK lg cl r t).length < sizeLine := fun {r t} => small1000 (by show 4 ≤ 1000; decide)
  -- if state['rest'] > 0
  refine ⟨_, rfl, st, .int r, rfl, dg (Evl.Ex.refl _) (st_rest lg cl r t0), _, _, rfl, rfl, _, rfl, ?_⟩
  by_cases hr0 : 0 < r
  · rw [decide_eq_true hr0]
    refine iteT ⟨_, rfl, st, .int r, rfl, dg (Evl.Ex.refl _) (st_rest lg cl r t0), .inl ⟨_, rfl, _, rfl, _, _, rfl, rfl, n0, ?_⟩⟩
    refine ⟨_, rfl, st, .int r, rfl, dg (Evl.Ex.refl _) (st_rest lg cl r t0), _, rfl, _, _, rfl, rfl, ⟨n0, by omega⟩, _, rfl, st, _, rfl, DPut.k (k := Sum.inr ("rest" : Str)) X.hs s4, _, rfl, ?_⟩
    exact q _ _ (Int.emod_nonneg _ (by omega)) (Int.emod_lt_of_pos _ n0) ⟨la, ce, _, t0, X.rest (Int.ediv_nonneg X.r0 (by omega)), by omega⟩ fr.st
  · rw [decide_eq_false hr0]
    -- turn = state['turn'] + 1; state['turn'] = turn
    refine iteF ⟨_, rfl, st, .int t0, rfl, dg (Evl.Ex.refl _) (st_turn lg cl r t0), _, _, rfl, rfl, _, rfl, _, rfl, st, _, rfl, DPut.k (k := Sum.inr ("turn" : Str)) X.hs s4, ?_⟩
    have X2 := X.turn (v := t0 + 1) (by have := X.t0; omega)
    have t0' := X.t0
    have fr2 : Fr st lg H _ := fr.st (o := .dK (putK (stK lg cl r t0) (Sum.inr ("turn" : Str) : Key) (.int (t0 + 1))))
    generalize upd H1 st (.dK (putK (stK lg cl r t0) (Sum.inr ("turn" : Str) : Key) (.int (t0 + 1)))) = H2 at X2 fr2 ⊢
    have dg2 : ∀ {H3 : Hp} {k : Str} {v : V}, Ex H2 H3 → valV (stK lg cl r (t0 + 1)) (Sum.inr k : Key) = some v → DGet H3 st (.str k) (some v) := fun {H3 k v} z e => by
      rw [← e]
      exact DGet.k (k := Sum.inr k) (z _ _ X2.hs)
    -- the cell
    refine ⟨_, rfl, st, .ref cl, rfl, dg2 (Evl.Ex.refl _) (st_cells lg cl r (t0 + 1)), Nat.zero_le _, fun p hp => ne_nil X2.hc hp ⟨_, rfl, ?_⟩⟩
    have X3 := X2.ex (Evl.Ex.new (o := .lst []) hp)
    have fr3 : Fr st lg H (upd H2 p (.lst [])) := fr2.trans (Fr.of (Evl.Ex.new hp))
    have z3 : Ex H2 (upd H2 p (.lst [])) := Evl.Ex.new hp
    generalize upd H2 p (.lst []) = H3 at X3 fr3 z3 ⊢
    refine ite_int (fun hb => ?_) (fun _ => ⟨0, fun Q q => q⟩) fun c => ?_
    · cases ce with
      | nil => cases hb
      | cons c0 ce0 =>
        have hlen : (((c0 :: ce0).map V.int).length : Int) > 0 := by
          rw [List.length_map, List.length_cons]
          omega
        have hm0 := Int.emod_nonneg (t0 + 1) (show ((((c0 :: ce0).map V.int).length : Nat) : Int) ≠ 0 by omega)
        have hm1 := Int.emod_lt_of_pos (t0 + 1) hlen
        have hk : ((t0 + 1) % ((((c0 :: ce0).map V.int).length : Nat) : Int)).toNat < (c0 :: ce0).length := by
          rw [List.length_map] at hm1 hm0 ⊢
          omega
        refine ⟨(c0 :: ce0)[((t0 + 1) % ((((c0 :: ce0).map V.int).length : Nat) : Int)).toNat], fun Q q => ?_⟩
        refine ⟨_, rfl, st, .ref cl, rfl, dg2 z3 (st_cells lg cl r (t0 + 1)), _, rfl, .inl ⟨_, rfl, _, rfl, st, .ref cl, rfl, dg2 z3 (st_cells lg cl r (t0 + 1)), _, _, rfl, .inl ⟨_, SqL.of X3.hc, rfl⟩, ?_⟩⟩
        refine ⟨_, _, rfl, rfl, hlen, cl, _, _, _, rfl, rfl, SqL.of X3.hc, ?_, q⟩
        have e := atI_nat (xs := (c0 :: ce0).map V.int) (j := ((t0 + 1) % ((((c0 :: ce0).map V.int).length : Nat) : Int)).toNat) (v := .int ((c0 :: ce0)[((t0 + 1) % ((((c0 :: ce0).map V.int).length : Nat) : Int)).toNat])) (by rw [List.getElem?_map, List.getElem?_eq_getElem hk]; rfl)
        rw [Int.toNat_of_nonneg hm0] at e
        exact e
    · -- the reckoning
      have a1 := Int.emod_nonneg c (show (2147483629 : Int) ≠ 0 by decide)
      have a2 := Int.emod_lt_of_pos c (show (0 : Int) < 2147483629 by decide)
      have hb2 : t0 ≤ 1000000000 := by omega
      have b1 : (0 : Int) ≤ c % 2147483629 + 48271 * (t0 + 1) + 13579 := by omega
      have b2 : c % 2147483629 + 48271 * (t0 + 1) + 13579 < 2 ^ 64 := by omega
      refine ⟨_, rfl, .inl ⟨_, rfl, _, _, rfl, rfl, (show (0 : Int) < 2147483629 by decide), _, rfl, _, _, rfl, rfl, .inl ⟨by decide, by decide⟩, _, _, rfl, rfl, _, _, rfl, rfl, _, _, rfl, rfl, ⟨by decide, by decide, pow_lt b1 b2⟩, .inl ⟨_, rfl, _, _, rfl, rfl, (show (0 : Int) < 2147483647 by decide), ?_⟩⟩⟩
      have c1 := Int.emod_nonneg ((c % 2147483629 + 48271 * (t0 + 1) + 13579) ^ (3 : Int).toNat) (show (2147483647 : Int) ≠ 0 by decide)
      have c2 := Int.emod_lt_of_pos ((c % 2147483629 + 48271 * (t0 + 1) + 13579) ^ (3 : Int).toNat) (show (0 : Int) < 2147483647 by decide)
      have dd : ∀ m : Int, 0 ≤ m → m < 2147483647 → 0 ≤ m + 99991 * (t0 + 1) ∧ m + 99991 * (t0 + 1) < 2 ^ 64 := fun m h1 h2 => ⟨by omega, by omega⟩
      have d1 := (dd _ c1 c2).1
      have d2 := (dd _ c1 c2).2
      refine ⟨_, rfl, _, rfl, _, _, rfl, rfl, .inl ⟨by decide, by decide⟩, _, _, rfl, rfl, _, _, rfl, rfl, ⟨by decide, by decide, pow_lt d1 d2⟩, .inl ⟨_, rfl, _, _, rfl, rfl, (show (0 : Int) < 2147483587 by decide), _, _, rfl, rfl, ⟨by decide, by decide⟩, .inl ⟨_, rfl, _, rfl, _, _, rfl, rfl, n0, ?_⟩⟩⟩
      exact q _ _ (Int.emod_nonneg _ (by omega)) (Int.emod_lt_of_pos _ n0) ⟨la, ce, r, t0 + 1, X3, by omega⟩ fr3
end
end Cn
set_option Elab.async false
set_option linter.all false
set_option maxRecDepth 100000
set_option maxHeartbeats 4000000
namespace Cn
open PySem PySem.Spec PyProof.Rows L2
/-- F2 above F, while the state's own may change -/
structure GM (st lg : Addr) (F H F2 H2 : Hp) : Prop where
  ff : Ex F F2
  fh : Ex F2 H2
  fr : Fr st lg H H2
  nw : ∀ b o, H b = some o → F b = none → F2 b = none
  kp : ∀ b o, H b = some o → ∃ o', H2 b = some o'
theorem Grow.gm {st lg : Addr} {F H F2 H2 : Hp} (g : Grow F H F2 H2) : GM st lg F H F2 H2 := ⟨g.ff, g.fh, Fr.of g.hh, g.nw, fun b o h => ⟨o, g.hh b o h⟩⟩
theorem GM.refl {st lg : Addr} {F H : Hp} (z : Ex F H) : GM st lg F H F H := ⟨Evl.Ex.refl _, z, Fr.refl, fun _ _ _ q => q, fun b o h => ⟨o, h⟩⟩
theorem GM.trans {st lg : Addr} {F H F1 H1 F2 H2 : Hp} (a : GM st lg F H F1 H1) (c : GM st lg F1 H1 F2 H2) : GM st lg F H F2 H2 :=
  ⟨a.ff.trans c.ff, c.fh, a.fr.trans c.fr, fun d u hd q => let ⟨v, e⟩ := a.kp d u hd; c.nw d v e (a.nw d u hd q), fun d u hd => let ⟨v, e⟩ := a.kp d u hd; c.kp d v e⟩
theorem StOk.at_ {st lg cl : Addr} {b : Nat} {H : Hp} (h : StOk st lg cl b H) : (∃ o, H st = some o) ∧ ∃ o, H lg = some o := by
  obtain ⟨la, ce, r, t, x, _⟩ := h
  exact ⟨⟨_, x.hs⟩, _, x.hl⟩
/-- the state stands outside of what is frozen -/
structure Off (st lg cl : Addr) (b : Nat) (F H : Hp) : Prop where
  z : Ex F H
  s : F st = none
  l : F lg = none
  ok : StOk st lg cl b H
theorem Off.mono {st lg cl : Addr} {b c : Nat} {F H : Hp} (h : Off st lg cl b F H) (l : c ≤ b) : Off st lg cl c F H := ⟨h.z, h.s, h.l, h.ok.mono l⟩
theorem Off.gm {st lg cl : Addr} {b c : Nat} {F H F2 H2 : Hp} (h : Off st lg cl b F H) (g : GM st lg F H F2 H2) (ok : StOk st lg cl c H2) : Off st lg cl c F2 H2 := by
  obtain ⟨⟨o, h1⟩, o', h2⟩ := h.ok.at_
  exact ⟨g.fh, g.nw _ _ h1 h.s, g.nw _ _ h2 h.l, ok⟩
theorem Off.grow {st lg cl : Addr} {b : Nat} {F H F2 H2 : Hp} (h : Off st lg cl b F H) (g : Grow F H F2 H2) : Off st lg cl b F2 H2 := h.gm g.gm (h.ok.ex g.hh)
theorem GM.draw {st lg cl : Addr} {b c : Nat} {F H H2 : Hp} (h : Off st lg cl b F H) (fr : Fr st lg H H2) (ok : StOk st lg cl c H2) : GM st lg F H F H2 := by
  obtain ⟨⟨o, h1⟩, o', h2⟩ := ok.at_
  refine ⟨Evl.Ex.refl _, fun c o q => fr c o (ne_of_none q h.s) (ne_of_none q h.l) (h.z c o q), fr, fun _ _ _ q => q, fun d u q => ?_⟩
  by_cases e1 : d = st
  · exact ⟨o, e1 ▸ h1⟩
  · by_cases e2 : d = lg
    · exact ⟨o', e2 ▸ h2⟩
    · exact ⟨u, fr d u e1 e2 q⟩
theorem Off.draw {st lg cl : Addr} {b c : Nat} {F H H2 : Hp} (h : Off st lg cl b F H) (fr : Fr st lg H H2) (ok : StOk st lg cl c H2) : Off st lg cl c F H2 := h.gm (GM.draw h fr ok) ok
/-- an operator on two whole numbers with a condition -/
theorem ed_I {K : PySem.W.Frag} {F : Hp} {σ : L2.St} {ta tb : TE} {C : Int → Int → Prop} {g : Int → Int → V} {gd : D} {i j : Int} (h : EvD K F ta σ (.int i)) (k : EvD K F tb σ (.int j)) (hc : C i j) (hg : ∀ G, Dz K G (g i j) gd) : EvD K F (tOp (rI C g) ta tb) σ gd := ed_op h k fun x y F1 H1 z r1 r2 Q q => by
  cases r1
  cases r2
  exact ⟨i, j, rfl, rfl, hc, q _ (hg _)⟩
theorem dz_ints {K : PySem.W.Frag} {F : Hp} : ∀ (ns : List Int), DzAll K F (ns.map V.int) (ns.map .int)
  | [] => .nil
  | n :: ns => .cons (.int n) (dz_ints ns)
theorem seq_N {K : PySem.W.Frag} {F H : Hp} {σ : L2.St} {te : TE} {tr : TS} {i : Nat} {E : Ends} {ds : List D} (h : EvN K F te σ ds) (z : Ex F H) (k : ∀ p xs F2 H2, Grow F H F2 H2 → H p = none → F2 p = some (.lst xs) → DzAll K F2 xs ds → tr E (σ.set i (some (.ref p))) H2) : tSeq (tAsg te (gName i)) tr E σ H :=
  h F H (Evl.Ex.refl _) z _ k
theorem seq_D {K : PySem.W.Frag} {F H : Hp} {σ : L2.St} {te : TE} {tr : TS} {i : Nat} {E : Ends} {d : D} (h : EvD K F te σ d) (z : Ex F H) (k : ∀ v F2 H2, Grow F H F2 H2 → Dz K F2 v d → tr E (σ.set i (some v)) H2) : tSeq (tAsg te (gName i)) tr E σ H :=
  h F H (Evl.Ex.refl _) z _ k
theorem pairs_c {c : V} {tv : TE} {r : List (TE × TE)} {σ : L2.St} {H : Hp} {Q : List (V × V) → Hp → Prop} (h : tv σ H fun v H2 => tPairs r σ H2 fun ps H3 => Q ((c, v) :: ps) H3) : tPairs ((tC c, tv) :: r) σ H Q := h
theorem pairs_cc {c v : V} {r : List (TE × TE)} {σ : L2.St} {H : Hp} {Q : List (V × V) → Hp → Prop} (h : tPairs r σ H fun ps H3 => Q ((c, v) :: ps) H3) : tPairs ((tC c, tC v) :: r) σ H Q := h
theorem pairs_nil {σ : L2.St} {H : Hp} {Q : List (V × V) → Hp → Prop} (h : Q [] H) : tPairs [] σ H Q := h
def absI (c : Int) : Int := if c < 0 then -c else c
section
variable {P : Program} {w : World} {K : PySem.W.Frag} {mg : Str → Option Value} {base : Heap}
def spBegun (K : PySem.W.Frag) : Sp := fun vs H Q _ => ∃ (a : Addr) (ns : List Int), vs = [.ref a] ∧ SqL K H a (ns.map V.int) ∧ ns.length ≤ 63 ∧ ∀ st lg cl H', Ex H H' → H st = none → H lg = none → H cl = none → StOk st lg cl 1000000 H' → Q (.ref st) H'

abbrev s__law_begun : Stmt := top 22
abbrev N__law_begun : List Str := ["_law_script", "_law_cells", "_law_cell"]
theorem sc__law_begun : FnScope N__law_begun ["_law_script"] (defScope s__law_begun) := ⟨rfl, rfl, rfl, by decide +kernel, rfl, by decide +kernel, by decide +kernel⟩
/- slots of _law_begun: 0 _law_script, 1 _law_cells, 2 _law_cell -/
theorem k__law_begun (Fx : Fg K mg "_law_begun" s__law_begun) (T : Txt mg) : Kp P w K mg base 1 "_law_begun" ["_law_script"] (spBegun K) := by
  refine kpH Fx sc__law_begun (fun F => F.binds fun _ _ _ _ _ _ us hl => match us, hl with | [_], _ => rfl) (fun vs H Q E h => by obtain ⟨a, ns, rfl, _⟩ := h; rfl) fun f₀ cdv A outer s H vs Q E hr h => ?_
  refine ⟨_, (pss_cons (ps_setLc (i := 1) (own := [("_law_cell", 2)]) (g := gName 2) (tt := tYes) rfl sc__law_begun.nd rfl rfl (sw_true rfl rfl rfl (by decide +kernel)) (pi_list (pv 0)) (blkOk_by (N := N__law_begun) (sc := defScope s__law_begun) (by decide +kernel)) (fun _ _ _ _ _ => (pg_name (i := 2) sc__law_begun.nd rfl (Or.inl rfl))) (fun _ _ _ _ _ => pts_nil) (fun _ _ _ _ _ => (pe_callB call_abs (by rfl) T.b_abs (by decide +kernel) (pa_cons (pv 2) pa_nil))))
  (pss_one (ps_ret (pe_disp (pps_cons pe_str (pe_lc (own := [("_law_cell", 2)]) (g := gName 2) rfl sc__law_begun.nd (pi_list (pv 1)) (blkOk_by (N := N__law_begun) (sc := defScope s__law_begun) (by decide +kernel)) (fun _ _ _ _ _ => (pg_name (i := 2) sc__law_begun.nd rfl (Or.inl rfl))) (fun _ _ _ _ _ => (pts_one (pt_cmpR op_ge (pv 2) (pe_op op_pow pe_int pe_int) (nomark _)))) (fun _ _ _ _ _ => (pe_op op_sub (pv 2) (pe_op op_pow pe_int pe_int)))) (pps_cons pe_str (pv 1) (pps_cons pe_str pe_int (pps_cons pe_str pe_int pps_nil)))) (by rfl) (by rfl) (fun z => by cases z) (by decide))))), ?_⟩
  obtain ⟨a, ns, rfl, hS, hl, q⟩ := h
  have v0 : Sl K H (start N__law_begun [.ref a]) 0 (.list (ns.map .int)) := sl rfl (.lst hS (dz_ints ns))
  -- the cells
  refine seq_N (en_lcL (fun _ => true) (fun d => match d with | .int c => .int (absI c) | _ => .none) (ed_var v0) (by rw [List.length_map]; omega) fun d hd => ?_) (Evl.Ex.refl _) fun p xs F2 H2 g2 hp h2 r2 => ?_
  · obtain ⟨c, _, rfl⟩ := List.mem_map.mp hd
    refine turn_name (fun v => rfl) (fun v G _ _ => eb_yes) fun _ v' G x r' => ed_cb (eas_one (ed_var (sl rfl r'))) fun us F1 H1 z r Q q => ?_
    cases r with
    | cons r t =>
      cases t
      cases r
      exact ⟨c, rfl, q _ F1 H1 (Grow.refl z) (.int _)⟩
  rw [filter_yes, List.map_map] at r2
  have ex : xs = (ns.map absI).map V.int := by
    refine dpa_ints (bs := ns.map absI) (F := F2) (K := K) ?_
    rw [List.map_map]
    exact r2
  subst ex
  have v1 : Sl K F2 ((start N__law_begun [.ref a]).set 1 (some (.ref p))) 1 (.list ((ns.map absI).map .int)) := sl rfl (.lst (SqL.of h2) (dz_ints _))
  -- the state
  intro d hd
  have g3 := g2.trans (Grow.tmp (o := .dK []) g2.fh hd)
  refine pairs_c ((en_lcL (fun x => match x with | .int c => decide ((10 : Int) ^ (18 : Int).toNat ≤ c) | _ => false) (fun x => match x with | .int c => .int (c - (10 : Int) ^ (18 : Int).toNat) | _ => .none) (ed_var v1) (by rw [List.length_map, List.length_map]; omega) fun y hy => ?_ : EvN K F2 _ _ _)
    F2 _ (Evl.Ex.refl _) g3.fh _ fun l ls F4 H4 g4 hl4 h4 r4 => ?_)
  · obtain ⟨c, _, rfl⟩ := List.mem_map.mp hy
    refine turn_name (fun v => rfl) (fun v G _ r => eb_test (ed_I0 (ed_var (sl rfl r)) (ed_I ed_int ed_int ⟨by decide, by decide, by decide⟩ fun G => .int _) fun G => .bl _)) fun _ v' G x r' => ed_I0 (ed_var (sl rfl r')) (ed_I ed_int ed_int ⟨by decide, by decide, by decide⟩ fun G => .int _) fun G => .int _
  have el : ∃ la : List Int, ls = la.map V.int ∧ (∀ x ∈ la, 0 ≤ x) ∧ la.length ≤ 100 := by
    refine ⟨((ns.map absI).filter fun c => decide ((10 : Int) ^ (18 : Int).toNat ≤ c)).map fun c => c - (10 : Int) ^ (18 : Int).toNat, ?_, fun x hx => ?_, ?_⟩
    · refine dpa_ints (F := F4) (K := K) ?_
      rw [List.filter_map, List.map_map] at r4
      rw [List.map_map]
      exact r4
    · obtain ⟨c, hc, rfl⟩ := List.mem_map.mp hx
      have h := of_decide_eq_true (List.mem_filter.mp hc).2
      omega
    · rw [List.length_map]
      exact Nat.le_trans (List.length_filter_le _ _) (by rw [List.length_map]; omega)
  obtain ⟨la, rfl, lnn, lln⟩ := el
  have dp : H4 d = some (.dK []) := g4.hh _ _ upd_same
  have dl : d ≠ l := ne_of_none (upd_same (H := H2) (a := d) (o := .dK [])) hl4
  have pd : p ≠ d := ne_of_none (g2.fh _ _ h2) hd
  have pH4 : H4 p = some (.lst ((ns.map absI).map V.int)) := g4.fh _ _ (g4.ff _ _ h2)
  refine pairs_c ⟨_, rfl, pairs_cc (pairs_cc (pairs_nil ?_))⟩
  refine ⟨dp, [(.inr "large", .ref l), (.inr "cells", .ref p), (.inr "rest", .int 0), (.inr "turn", .int 0)], rfl, (by show 4 ≤ 15; decide), ?_⟩
  have hH : ∀ {b : Addr}, H2 b = none → H b = none := fun {b} h => Evl.fresh_back g2.hh h
  have hlH : H l = none := hH (by
    have e := Evl.fresh_back (Evl.Ex.new (o := .dK []) hd) hl4
    exact e)
  have mk : mergeK [] [(.inr "large", .ref l), (.inr "cells", .ref p), (.inr "rest", .int 0), (.inr "turn", .int 0)] = stK l p 0 0 := by
    rw [mergeK_nd _ _ (by
      show ([.inr "large", .inr "cells", .inr "rest", .inr "turn"] : List Key).Nodup
      decide +kernel)]
    rfl
  rw [mk]
  refine q d l p _ (fun b o e => ?_) (hH hd) hlH hp ⟨la, ns.map absI, 0, 0, ⟨upd_same, ?_, ?_, lnn, lln, by rw [List.length_map]; omega, Int.le_refl _, Int.le_refl _, ?_⟩, by decide⟩
  · rw [upd_ne (ne_of_none e (hH hd))]
    exact g4.hh _ _ (g3.hh _ _ e)
  · rw [upd_ne dl.symm]
    exact g4.fh _ _ h4
  · rw [upd_ne pd]
    exact pH4
  · intro e
    have e1 : upd H2 d (.dK []) p = some (.lst ((ns.map absI).map V.int)) := by rw [upd_ne pd]; exact g2.fh _ _ h2
    rw [e] at hl4
    rw [hl4] at e1
    cases e1

/-- what may be picked of: a text, or a list that is frozen -/
def spPick (K : PySem.W.Frag) : Sp := fun vs H Q _ => ∃ st lg cl b F, Off st lg cl (b + 1) F H ∧ ((∃ z : Str, vs = [.ref st, .str z] ∧ 0 < z.length ∧ z.length ≤ 1000 ∧ ∀ c H', c ∈ z.cps.toList → Off st lg cl b F H' → GM st lg F H F H' → Q (.str ⟨#[c]⟩) H') ∨
  (∃ p xs, vs = [.ref st, .ref p] ∧ SqL K F p xs ∧ 0 < xs.length ∧ xs.length ≤ 1000 ∧ ∀ v H', v ∈ xs → Off st lg cl b F H' → GM st lg F H F H' → Q v H'))

abbrev s__law_pick : Stmt := top 24
abbrev N__law_pick : List Str := ["_law_state", "_law_several"]
theorem sc__law_pick : FnScope N__law_pick ["_law_state", "_law_several"] (defScope s__law_pick) := ⟨rfl, rfl, rfl, by decide +kernel, rfl, by decide +kernel, by decide +kernel⟩
/- slots of _law_pick: 0 _law_state, 1 _law_several -/
theorem k__law_pick (Fx : Fg K mg "_law_pick" s__law_pick) (T : Txt mg) (k__law_draw : Kp P w K mg base 1 "_law_draw" ["_law_state", "_law_size"] spDraw) : Kp P w K mg base 2 "_law_pick" ["_law_state", "_law_several"] (spPick K) := by
  refine kpH Fx sc__law_pick (fun F => F.binds fun _ _ _ _ _ _ us hl => match us, hl with | [_, _], _ => rfl) (fun vs H Q E h => by
    obtain ⟨st, lg, cl, b, F, _, h⟩ := h
    rcases h with ⟨z, rfl, _⟩ | ⟨p, xs, rfl, _⟩ <;> rfl) fun f₀ cdv A outer s H vs Q E hr h => ?_
  refine ⟨_, (pss_one (ps_ret (pe_ix (ix_seqK (K := K) rfl) (pv 1) (pe_kp k__law_draw (hr.mono (by decide)) (by rfl) (pa_cons (pv 0) (pa_cons (pe_callB (call_lenK (K := K) rfl) (by rfl) T.b_len (by decide +kernel) (pa_cons (pv 1) pa_nil)) pa_nil))) (fun _ _ => rfl)))), ?_⟩
  obtain ⟨st, lg, cl, b, F, O, h⟩ := h
  rcases h with ⟨z, rfl, h0, h1, q⟩ | ⟨p, xs, rfl, hx, h0, h1, q⟩
  · refine ⟨_, rfl, _, rfl, _, rfl, _, z.length, rfl, ⟨Evl.sz_of (by omega), rfl⟩, st, lg, cl, b, _, rfl, by omega, by omega, O.ok, fun r H' r0 r1 ok fr => .inr (.inr ?_)⟩
    have hk : r.toNat < z.cps.toList.length := by
      show r.toNat < z.cps.size
      have e : z.length = z.cps.size := rfl
      omega
    refine ⟨z, r, z.cps.toList[r.toNat], rfl, rfl, Evl.sz_of (by omega), ?_, q _ H' (List.getElem_mem _) (O.mono (Nat.le_succ _) |>.draw fr ok) (GM.draw O fr ok)⟩
    have e := atI_nat (List.getElem?_eq_getElem hk)
    rw [Int.toNat_of_nonneg r0] at e
    exact e
  · refine ⟨_, rfl, _, rfl, _, rfl, _, xs.length, rfl, .inl ⟨_, Evl.ex_l O.z hx, rfl⟩, st, lg, cl, b, _, rfl, by omega, by omega, O.ok, fun r H' r0 r1 ok fr => .inl ?_⟩
    have O2 := O.draw fr ok
    have hk : r.toNat < xs.length := by omega
    refine ⟨p, xs, r, xs[r.toNat], rfl, rfl, Evl.ex_l O2.z hx, ?_, q _ H' (List.getElem_mem _) O2 (GM.draw O fr ok)⟩
    have e := atI_nat (List.getElem?_eq_getElem hk)
    rw [Int.toNat_of_nonneg r0] at e
    exact e
end
end Cn
set_option Elab.async false
set_option linter.all false
set_option maxRecDepth 100000
set_option maxHeartbeats 4000000
namespace Cn
open PySem PySem.Spec PyProof.Rows L2
theorem op_notIn_seqK {X : Cx} {K : PySem.W.Frag} (h : X.K = K) : OpR X (compareOp .NotIn) (rIn K true) := h ▸ op_notIn_seq
theorem rising_asc : ∀ {l : List Str}, sortedS l = true → l.Nodup → ascS l = true
  | [], _, _ => rfl
  | [x], _, _ => rfl
  | x :: y :: r, h, n => by
    have h' : (!ltCps y.cps.toList x.cps.toList && risingS y r) = true := h
    obtain ⟨h1, h2⟩ := Bool.and_eq_true_iff.mp h'
    obtain ⟨n1, n2⟩ := List.nodup_cons.mp n
    unfold ascS
    rw [rising_asc (l := y :: r) h2 n2, Bool.and_true]
    refine decide_eq_true ?_
    rw [ltCps_eq] at h1
    have h3 : ¬ y.cps.toList < x.cps.toList := by simpa using h1
    have h4 : x.cps.toList ≤ y.cps.toList := List.not_lt.mp h3
    rcases List.le_iff_lt_or_eq.mp h4 with h5 | h5
    · exact h5
    · exact absurd (Str.ext' (Array.toList_inj.mp h5)) (fun e => n1 (by rw [e]; exact List.mem_cons_self))
theorem inV_strs (x : Str) : ∀ l : List Str, inV (.str x) (l.map V.str) = decide (x ∈ l)
  | [] => rfl
  | y :: l => by
    have ih := inV_strs x l
    unfold inV at ih ⊢
    rw [List.map_cons, List.any_cons, ih]
    show ((y == x) || decide (x ∈ l)) = _
    by_cases h : x = y
    · subst h
      simp
    · have h2 : (y == x) = false := beq_eq_false_iff_ne.mpr (fun e => h e.symm)
      rw [h2, Bool.false_or]
      exact decide_eq_decide.mpr ⟨fun m => List.mem_cons_of_mem _ m, fun m => (List.mem_cons.mp m).resolve_left h⟩
theorem flat_strs (l : List Str) : (l.map V.str).all flatV = true := by
  rw [List.all_map]
  exact List.all_eq_true.mpr fun _ _ => rfl
theorem at0 {α : Type} {xs : List α} {v : α} (h : xs[0]? = some v) : atI xs 0 = some v := atI_nat (j := 0) h
/-- the first of [each for each in spare if each not in found] -/
theorem free_comp {K : PySem.W.Frag} {σ : L2.St} {H : Hp} {sp pf : Addr} {i j k : Nat} {xs fs : List Str} {Q : VK} (hs : H sp = some (.lst (xs.map V.str))) (hf : H pf = some (.lst (fs.map V.str)))
    (e1 : (wipe σ [k])[j]? = some (some (.ref pf))) (e0 : σ[i]? = some (some (.ref sp))) (ek : k < σ.length) (ejk : j ≠ k) (hl : xs.length < 1000)
    (hne : xs.filter (fun s => decide (s ∉ fs)) ≠ []) (q : ∀ y H2, y ∈ xs → y ∉ fs → Ex H H2 → Q (.str y) H2) :
    tOp (rIxL K) (tLc (iList K (tVar i)) (gName k) (tTest (tOp (rIn K true) (tVar k) (tVar j))) (tVar k) [k]) (tC (.int 0)) σ H Q := by
  refine ⟨_, e0, sp, rfl, ⟨_, SqL.of hs⟩, fun L hL => ?_⟩
  refine lc_list (K := K) (a := sp) (xs := xs.map V.str) (fun n H' => Ex H (upd H' L (.lst [])) ∧ H L = none ∧ Ex H H' ∧ H' L = some (.lst (((xs.take n).filter fun s => decide (s ∉ fs)).map V.str)))
    ⟨?_, hL, Evl.Ex.new hL, upd_same⟩ (fun n H' _ p => SqL.of (p.2.2.1 _ _ hs)) (fun n x H' hx ⟨p1, p2, p3, p4⟩ => ?_) (fun H' ⟨p1, p2, p3, p4⟩ => ?_)
  · rw [upd_upd]
    exact Evl.Ex.new hL
  · rw [List.getElem?_map] at hx
    obtain ⟨s, hs', rfl⟩ := Option.map_eq_some_iff.mp hx
    have lk : k < (wipe σ [k]).length := by rw [wipe_length]; exact ek
    have e2 : ((wipe σ [k]).set k (some (.str s)))[k]? = some (some (.str s)) := List.getElem?_set_self lk
    have e3 : ((wipe σ [k]).set k (some (.str s)))[j]? = some (some (.ref pf)) := by
      rw [List.getElem?_set_ne (Ne.symm ejk)]
      exact e1
    have hlen : (((xs.take n).filter fun s => decide (s ∉ fs)).map V.str).length < sizeLine := by
      rw [List.length_map]
      exact small1000 (Nat.le_trans (List.length_filter_le _ _) (by rw [List.length_take]; omega))
    refine ⟨?_, _, e2, _, e3, pf, _, rfl, .inl (SqL.of (p3 _ _ hf)), rfl, flat_strs _, _, rfl, ?_⟩
    · show ((σ.set k none).set k (some (V.str s))).set k none = σ.set k none
      rw [List.set_set, List.set_set]
    · rw [if_pos rfl, inV_strs]
      have ef : (xs.take (n + 1)).filter (fun s => decide (s ∉ fs)) = if s ∉ fs then (xs.take n).filter (fun s => decide (s ∉ fs)) ++ [s] else (xs.take n).filter fun s => decide (s ∉ fs) := by
        rw [take_at hs', List.filter_append]
        by_cases hm : s ∈ fs
        · rw [if_neg (fun z => z hm), List.filter_cons_of_neg (by simpa using hm), List.filter_nil, List.append_nil]
        · rw [if_pos hm, List.filter_cons_of_pos (by simpa using hm), List.filter_nil]
      by_cases hm : s ∈ fs
      · rw [decide_eq_true hm]
        refine iteF ⟨p1, p2, p3, ?_⟩
        rw [ef, if_neg (fun z => z hm)]
        exact p4
      · rw [decide_eq_false hm]
        refine iteT ⟨_, e2, _, p4, hlen, by rw [upd_upd]; exact p1, p2, Evl.Ex.mut p3 p2, ?_⟩
        rw [upd_same, ef, if_pos hm, List.map_append]
        rfl
  · have el : (xs.map V.str).length = xs.length := List.length_map _
    rw [el, List.take_length] at p4
    cases hc : xs.filter (fun s => decide (s ∉ fs)) with
    | nil => exact absurd hc hne
    | cons y r =>
      rw [hc] at p4
      have hy : y ∈ xs.filter (fun s => decide (s ∉ fs)) := by rw [hc]; exact List.mem_cons_self
      obtain ⟨h1, h2⟩ := List.mem_filter.mp hy
      exact ⟨L, _, 0, .str y, rfl, rfl, SqL.of p4, at0 rfl, q y H' h1 (of_decide_eq_true h2) p3⟩
theorem yesT {σ : L2.St} {H : Hp} {A B : Hp → Prop} (h : A H) : tYes σ H fun b H3 => if b = true then A H3 else B H3 := by
  show if true = true then A H else B H
  rw [if_pos rfl]
  exact h
/-- [word[:5] + letter for letter in letters] -/
theorem next_comp {σ : L2.St} {H : Hp} {i j k : Nat} {x : Str} {Q : VK} (e0 : σ[i]? = some (some (.str lettersS))) (e1 : (wipe σ [k])[j]? = some (some (.str x))) (ek : k < σ.length) (ejk : j ≠ k) (hx : x.length ≤ 1000)
    (q : ∀ L H2, H L = none → Ex H H2 → H2 L = some (.lst ((nexts x).map V.str)) → Q (.ref L) H2) :
    tLc (iStr (tVar i)) (gName k) tYes (tOp (fun x y H Q => ∃ i j, x = .str i ∧ y = .str j ∧ i.length + j.length ≤ sizeLine ∧ Q (.str (i ++ j)) H) (tSl rSlS (tVar j) tNoPart (tPart (tC (.int 5)))) (tVar k)) [k] σ H Q := by
  refine ⟨_, e0, _, rfl, fun L hL => ?_⟩
  refine lc_it (walk_str (z := lettersS)) (fun n H' => Ex H H' ∧ H' L = some (.lst (((lettersS.cps.toList.take n).map (cutL x)).map V.str))) ⟨Evl.Ex.new hL, upd_same⟩ (fun _ _ _ _ => True.intro) (fun n v H' H2 hn ⟨p1, p2⟩ hy => ?_) (fun H' ⟨p1, p2⟩ => ?_)
  · obtain ⟨rfl, c, hc, rfl⟩ := hy
    have lk : k < (wipe σ [k]).length := by rw [wipe_length]; exact ek
    have e2 : ((wipe σ [k]).set k (some (.str (⟨#[c]⟩ : Str))))[k]? = some (some (.str (⟨#[c]⟩ : Str))) := List.getElem?_set_self lk
    have e3 : ((wipe σ [k]).set k (some (.str (⟨#[c]⟩ : Str))))[j]? = some (some (.str x)) := by
      rw [List.getElem?_set_ne (Ne.symm ejk)]
      exact e1
    have hsz : sizeLine = 16777216 := sizeLine_eq
    have hcl : (cutS x none (some 5)).length ≤ 5 := by
      have e : (cutS x none (some 5)).length = (cutS x none (some 5)).cps.toList.length := rfl
      rw [e, cut5, List.length_take]
      omega
    refine ⟨?_, yesT ⟨_, e3, _, rfl, x, rfl, by omega, _, e2, _, _, rfl, rfl, ?_, _, p2, ?_, ?_, ?_⟩⟩
    · show ((σ.set k none).set k (some (V.str (⟨#[c]⟩ : Str)))).set k none = σ.set k none
      rw [List.set_set, List.set_set]
    · have e : (⟨#[c]⟩ : Str).length = 1 := rfl
      omega
    · rw [List.length_map, List.length_map]
      exact small1000 (by rw [List.length_take, letters_len]; omega)
    · exact Evl.Ex.mut p1 hL
    · have hc' : lettersS.cps.toList[n]? = some c := by rw [Array.getElem?_toList]; exact hc
      rw [upd_same, take_at hc', List.map_append, List.map_append]
      rfl
  · have e : lettersS.cps.toList.take lettersS.cps.size = lettersS.cps.toList := List.take_of_length_le (by rw [Array.length_toList]; exact Nat.le_refl _)
    rw [e] at p2
    exact q L H' hL p1 p2
/-! one's own objects beside the state -/
theorem StOk.own {st lg cl L : Addr} {b : Nat} {H : Hp} {o : HO} (h : StOk st lg cl b H) (h1 : L ≠ st) (h2 : L ≠ lg) (h3 : L ≠ cl) : StOk st lg cl b (upd H L o) := by
  obtain ⟨la, ce, r, t, x, e⟩ := h
  exact ⟨la, ce, r, t, ⟨by rw [upd_ne h1.symm]; exact x.hs, by rw [upd_ne h2.symm]; exact x.hl, by rw [upd_ne h3.symm]; exact x.hc, x.nn, x.l1, x.l2, x.r0, x.t0, x.ne⟩, e⟩
theorem GM.own {st lg L : Addr} {F H F2 H2 : Hp} {o : HO} (g : GM st lg F H F2 H2) (h1 : F2 L = none) (h2 : H L = none) : GM st lg F H F2 (upd H2 L o) :=
  ⟨g.ff, Evl.Ex.mut g.fh h1, fun c u n m h => by rw [upd_ne (ne_of_none h h2)]; exact g.fr c u n m h, g.nw, fun c u h => by rw [upd_ne (ne_of_none h h2)]; exact g.kp c u h⟩
/-- L is no part of the state -/
structure Ow (st lg cl L : Addr) : Prop where
  a : L ≠ st
  b : L ≠ lg
  c : L ≠ cl
theorem Off.ow {st lg cl L : Addr} {b : Nat} {F H : Hp} (O : Off st lg cl b F H) (hL : H L = none) : Ow st lg cl L := by
  obtain ⟨la, ce, r, t, x, e⟩ := O.ok
  exact ⟨ne_of_none x.hs hL |>.symm, ne_of_none x.hl hL |>.symm, ne_of_none x.hc hL |>.symm⟩
theorem Off.own {st lg cl L : Addr} {b : Nat} {F H : Hp} {o : HO} (O : Off st lg cl b F H) (w : Ow st lg cl L) (hF : F L = none) : Off st lg cl b F (upd H L o) := ⟨Evl.Ex.mut O.z hF, O.s, O.l, O.ok.own w.a w.b w.c⟩
theorem GM.none {st lg : Addr} {F H F2 H2 : Hp} (g : GM st lg F H F2 H2) {L : Addr} (h : H2 L = none) : H L = none := by
  cases e : H L with
  | none => rfl
  | some o =>
    obtain ⟨o', e'⟩ := g.kp L o e
    rw [h] at e'
    cases e'
section
variable {P : Program} {w : World} {K : PySem.W.Frag} {mg : Str → Option Value} {base : Heap}
def spWords : Sp := fun vs H Q _ => ∃ (st lg cl : Addr) (b m : Nat) (F : Hp), vs = [.ref st, .int (m : Int)] ∧ m ≤ 6 ∧ Off st lg cl (b + 8 * m) F H ∧
  ∀ p (ws : List Str) H', ws.length = m → ascS ws = true → (∀ x ∈ ws, nameOk x = true) → GM st lg F H (upd F p (.lst (ws.map V.str))) H' → F p = none → Off st lg cl b (upd F p (.lst (ws.map V.str))) H' → Q (.ref p) H'
/-- [pick(state, letters) for sign in range(1 + draw(state, 6))], joined -/
theorem drawn_word {st lg cl : Addr} {b : Nat} {F H : Hp} {σ : L2.St} {i0 i1 k : Nat} {Q : VK} (O : Off st lg cl (b + 7) F H) (e0 : σ[i0]? = some (some (.ref st))) (e1 : (wipe σ [k])[i1]? = some (some (.str lettersS))) (e2 : (wipe σ [k])[i0]? = some (some (.ref st))) (ek : k < σ.length) (n0 : i0 ≠ k) (n1 : i1 ≠ k)
    (q : ∀ x H', Low x → Off st lg cl b F H' → GM st lg F H F H' → Q (.str x) H') :
    tM1 (fun x xs H Q => ∃ a p, ∃ ys : List Str, x = .str a ∧ xs = [.ref p] ∧ (SqL K H p (ys.map V.str) ∨ SqT K H p (ys.map V.str)) ∧ (ys.map (·.length)).sum + ys.length * a.length ≤ 16777216 ∧ Q (.str (Txt.join a ys)) H) (tC (.str ""))
      (tLc (iRng1 (tCons (tOp (rI0 fun i j => .int (i + j)) (tC (.int 1)) (tCall spDraw [] E0 (tCons (tVar i0) (tCons (tC (.int 6)) tNil)))) tNil)) (gName k) tYes (tCall (spPick K) [] E0 (tCons (tVar i0) (tCons (tVar i1) tNil))) [k]) σ H Q := by
  refine ⟨⟨_, rfl⟩, _, e0, st, lg, cl, b + 6, 6, rfl, by decide, by decide, O.ok, fun r H1 r0 r1 ok fr => ?_⟩
  have O1 := O.draw fr ok
  have g1 := GM.draw O fr ok
  refine ⟨1, r, rfl, rfl, _, rfl, by omega, by omega, fun L hL => ?_⟩
  have W := O1.ow hL
  have FL : F L = none := Evl.fresh_back O1.z hL
  refine lc_range (lo := 0) (n := (1 + r).toNat) (fun n H' => ∃ cs : List Nat, cs.length = n ∧ (∀ c ∈ cs, c ∈ lettersS.cps.toList) ∧ H' L = some (.lst (cs.map fun c => .str (⟨#[c]⟩ : Str))) ∧ Off st lg cl (b + 6 - n) F H' ∧ GM st lg F H F H')
    ⟨[], rfl, fun _ h => absurd h List.not_mem_nil, upd_same, O1.grow (Grow.tmp O1.z hL), g1.trans (Grow.tmp O1.z hL).gm⟩ (fun n H' hn ⟨cs, c1, c2, c3, c4, c5⟩ => ?_) (fun H' ⟨cs, c1, c2, c3, c4, c5⟩ => ?_)
  · have lk : k < (wipe σ [k]).length := by rw [wipe_length]; exact ek
    have hn6 : n < 6 := by omega
    refine ⟨?_, yesT ⟨_, ?_, _, ?_, st, lg, cl, b + 6 - (n + 1), F, c4.mono (by omega), .inl ⟨lettersS, rfl, by decide +kernel, by decide +kernel, fun c H2 hc O2 g2 => ?_⟩⟩⟩
    · show ((σ.set k none).set k _).set k none = σ.set k none
      rw [List.set_set, List.set_set]
    · rw [List.getElem?_set_ne (Ne.symm n0)]
      exact e2
    · rw [List.getElem?_set_ne (Ne.symm n1)]
      exact e1
    · have c3' := g2.fr L _ W.a W.b c3
      refine ⟨_, c3', by rw [List.length_map]; exact small1000 (by omega), cs ++ [c], by rw [List.length_append, c1]; rfl, fun d hd => ?_, by rw [upd_same, List.map_append]; rfl, O2.own W FL, (c5.trans g2).own FL (g1.none hL)⟩
      · rcases List.mem_append.mp hd with hd | hd
        · exact c2 d hd
        · rw [List.mem_singleton.mp hd]
          exact hc
  · have e1 : (1 + r).toNat ≤ 6 := by omega
    have e2 : 1 ≤ (1 + r).toNat := by omega
    refine ⟨"", L, cs.map fun c => (⟨#[c]⟩ : Str), rfl, rfl, .inl (SqL.of (by rw [List.map_map]; exact c3)), ?_, q _ H' (drawn_low c2 (by omega) (by omega)) (c4.mono (by omega)) c5⟩
    have e3 : ((cs.map fun c => (⟨#[c]⟩ : Str)).map (·.length)).sum ≤ 100 := by
      have h : ∀ cs : List Nat, ((cs.map fun c => (⟨#[c]⟩ : Str)).map (·.length)).sum = cs.length := fun cs => by
        induction cs with
        | nil => rfl
        | cons c cs ih =>
          rw [List.map_cons, List.map_cons, List.sum_cons, ih, List.length_cons]
          show 1 + cs.length = _
          omega
      rw [h]
      omega
    have e4 : ("" : Str).length = 0 := rfl
    rw [e4, Nat.mul_zero]
    omega
end
end Cn
set_option Elab.async false
set_option linter.all false
set_option maxRecDepth 100000
set_option maxHeartbeats 4000000
namespace Cn
open PySem PySem.Spec PyProof.Rows L2
section
variable {P : Program} {w : World} {K : PySem.W.Frag} {mg : Str → Option Value} {base : Heap}
theorem off_upd {st lg cl p : Addr} {b : Nat} {F H : Hp} {o : HO} (O : Off st lg cl b F H) (hp : H p = some o) (hF : F p = none) (w1 : p ≠ st) (w2 : p ≠ lg) : Off st lg cl b (upd F p o) H ∧ ∀ {H0 : Hp}, H0 p = none → GM st lg F H0 F H → GM st lg F H0 (upd F p o) H := by
  have x : Ex F (upd F p o) := Evl.Ex.new hF
  have y : Ex (upd F p o) H := fun c u e => by
    by_cases h : c = p
    · subst h
      rw [upd_same] at e
      rw [← e]
      exact hp
    · rw [upd_ne h] at e
      exact O.z c u e
  refine ⟨⟨y, by rw [upd_ne w1.symm]; exact O.s, by rw [upd_ne w2.symm]; exact O.l, O.ok⟩, fun {H0} h0 g => ⟨x, y, g.fr, fun c u h q => ?_, g.kp⟩⟩
  rw [upd_ne (ne_of_none h h0)]
  exact g.nw c u h q
theorem pick_word {st lg cl : Addr} {b : Nat} {F H : Hp} {σ : L2.St} {i0 i4 : Nat} {d : Str} {Q : VK} (O : Off st lg cl (b + 1) F H) (e0 : σ[i0]? = some (some (.ref st))) (e4 : σ[i4]? = some (some (.str d))) (hd : Low d)
    (q : ∀ x H', Low x → Off st lg cl b F H' → GM st lg F H F H' → Q (.str x) H') :
    tCall (spPick K) [] E0 (tCons (tVar i0) (tCons (tLst (tCons (tC (.str "a")) (tCons (tC (.str "b")) (tCons (tC (.str "c")) (tCons (tC (.str "aa")) (tCons (tC (.str "none")) (tCons (tC (.str "things")) (tCons (tC (.str "zzzzzz")) (tCons (tVar i4) (tCons (tVar i4) tNil)))))))))) tNil)) σ H Q := by
  refine ⟨_, e0, _, e4, _, e4, Evl.sz_of (show 9 ≤ 100000 by decide), fun p hp => ?_⟩
  have g := Grow.tmp (o := .lst [.str "a", .str "b", .str "c", .str "aa", .str "none", .str "things", .str "zzzzzz", .str d, .str d]) O.z hp
  have W := O.ow hp
  have FL : F p = none := Evl.fresh_back O.z hp
  have O1 := O.grow g
  obtain ⟨O2, _⟩ := off_upd O1 upd_same FL W.a W.b
  refine ⟨st, lg, cl, b, _, O2, .inr ⟨p, _, rfl, SqL.of upd_same, by show 0 < 9; decide, by show 9 ≤ 1000; decide, fun v H' hv O3 g3 => ?_⟩⟩
  have O4 : Off st lg cl b F H' := ⟨(Evl.Ex.new FL).trans O3.z, O.s, O.l, O3.ok⟩
  have g4 : GM st lg F H F H' := ⟨Evl.Ex.refl _, O4.z, (Fr.of g.hh).trans g3.fr, fun _ _ _ q => q, fun c u h => g3.kp c u (g.hh c u h)⟩
  have hv' : ∃ x, v = .str x ∧ Low x := by
    simp only [List.mem_cons, List.not_mem_nil, or_false] at hv
    rcases hv with rfl | rfl | rfl | rfl | rfl | rfl | rfl | rfl | rfl
    · exact ⟨_, rfl, low_a⟩
    · exact ⟨_, rfl, low_b⟩
    · exact ⟨_, rfl, low_c⟩
    · exact ⟨_, rfl, low_aa⟩
    · exact ⟨_, rfl, low_none⟩
    · exact ⟨_, rfl, low_things⟩
    · exact ⟨_, rfl, low_z⟩
    · exact ⟨_, rfl, hd⟩
    · exact ⟨_, rfl, hd⟩
  obtain ⟨x, rfl, hx⟩ := hv'
  exact q x H' hx O4 g4

theorem asg {te : TE} {tr : TS} {i : Nat} {E : Ends} {σ : L2.St} {H : Hp} (h : te σ H fun x H1 => tr E (σ.set i (some x)) H1) : tSeq (tAsg te (gName i)) tr E σ H := h
abbrev s__law_words : Stmt := top 25
abbrev N__law_words : List Str := ["_law_state", "_law_many", "_law_letters", "_law_found", "_law_drawn", "_law_word", "_law_spare", "_law_sign", "_law_letter", "_law_each"]
theorem sc__law_words : FnScope N__law_words ["_law_state", "_law_many"] (defScope s__law_words) := ⟨rfl, rfl, rfl, by decide +kernel, rfl, by decide +kernel, by decide +kernel⟩
/- slots of _law_words: 0 _law_state, 1 _law_many, 2 _law_letters, 3 _law_found, 4 _law_drawn, 5 _law_word, 6 _law_spare, 7 _law_sign, 8 _law_letter, 9 _law_each -/
theorem k__law_words (Fx : Fg K mg "_law_words" s__law_words) (T : Txt mg) (k__law_draw : Kp P w K mg base 1 "_law_draw" ["_law_state", "_law_size"] spDraw) (k__law_pick : Kp P w K mg base 2 "_law_pick" ["_law_state", "_law_several"] (spPick K)) :
    Kp P w K mg base 3 "_law_words" ["_law_state", "_law_many"] spWords := by
  refine kpH Fx sc__law_words (fun F => F.binds fun _ _ _ _ _ _ us hl => match us, hl with | [_, _], _ => rfl) (fun vs H Q E h => by obtain ⟨st, lg, cl, b, m, F, rfl, _⟩ := h; rfl) fun f₀ cdv A outer s H vs Q E hr h => ?_
  refine ⟨_, (pss_cons (ps_asg (pe_tupZ (pa_cons pe_str (pa_cons (pe_lst pa_nil) pa_nil))) (pg_tup rfl (pgs_cons (pg_name (i := 2) sc__law_words.nd rfl (Or.inr rfl)) (pgs_cons (pg_name (i := 3) sc__law_words.nd rfl (Or.inr rfl)) pgs_nil))))
  (pss_cons (ps_while PassesOwn.never (pt_cmpR op_lt (pe_callB (call_lenK (K := K) rfl) (by rfl) T.b_len (by decide +kernel) (pa_cons (pv 3) pa_nil)) (pv 1) (nomark _))
  (pss_cons (ps_set (i := 4) sc__law_words.nd rfl (Or.inl rfl) (pe_join pe_str (pe_lc (own := [("_law_sign", 7)]) (g := gName 7) (tt := tYes) rfl sc__law_words.nd (pi_range1 (by rfl) T.b_range (pa_cons (pe_op op_add pe_int (pe_kp k__law_draw (hr.mono (by decide)) (by rfl) (pa_cons (pv 0) (pa_cons pe_int pa_nil)))) pa_nil)) (blkOk_by (N := N__law_words) (sc := defScope s__law_words) (by decide +kernel)) (fun _ _ _ _ _ => (pg_name (i := 7) sc__law_words.nd rfl (Or.inl rfl))) (fun _ _ _ _ _ => pts_nil) (fun _ _ _ _ _ => (pe_kp k__law_pick (hr.mono (by decide)) (by rfl) (pa_cons (pv 0) (pa_cons (pv 2) pa_nil)))))))
  (pss_cons (ps_set (i := 5) sc__law_words.nd rfl (Or.inr rfl) (pe_kp k__law_pick (hr.mono (by decide)) (by rfl) (pa_cons (pv 0) (pa_cons (pe_lst (pa_cons pe_str (pa_cons pe_str (pa_cons pe_str (pa_cons pe_str (pa_cons pe_str (pa_cons pe_str (pa_cons pe_str (pa_cons (pv 4) (pa_cons (pv 4) pa_nil)))))))))) pa_nil))))
  (pss_cons (ps_set (i := 6) sc__law_words.nd rfl (Or.inl rfl) (pe_op op_cat (pe_lst (pa_cons (pv 5) pa_nil)) (pe_lc (own := [("_law_letter", 8)]) (g := gName 8) (tt := tYes) rfl sc__law_words.nd (pi_str (pv 2)) (blkOk_by (N := N__law_words) (sc := defScope s__law_words) (by decide +kernel)) (fun _ _ _ _ _ => (pg_name (i := 8) sc__law_words.nd rfl (Or.inl rfl))) (fun _ _ _ _ _ => pts_nil) (fun _ _ _ _ _ => (pe_op op_add_str (pe_slice sl_str (pv 5) po_none (po_some pe_int)) (pv 8))))))
  (pss_one (ps_expr (pe_bm PySem.F.plainAttrs_list PySem.F.slot_list_append PySem.F.type_list_append mt_append (pv 3) (pa_cons (pe_ix ix_list (pe_lc (own := [("_law_each", 9)]) (g := gName 9) rfl sc__law_words.nd (pi_list (pv 6)) (blkOk_by (N := N__law_words) (sc := defScope s__law_words) (by decide +kernel)) (fun _ _ _ _ _ => (pg_name (i := 9) sc__law_words.nd rfl (Or.inl rfl))) (fun _ _ _ _ _ => (pts_one (pt_cmpR (op_notIn_seqK (K := K) rfl) (pv 9) (pv 3) rfl))) (fun _ _ _ _ _ => (pv 9))) pe_int (fun _ _ => rfl)) pa_nil))))))))
  (pss_one (ps_ret (pe_callB cr_sortedS (by rfl) T.b_sorted (by decide +kernel) (pa_cons (pv 3) pa_nil)))))), ?_⟩
  obtain ⟨st, lg, cl, b, m, F, rfl, hm, O, q⟩ := h
  refine ⟨Nat.zero_le _, fun pf hpf => ⟨Evl.sz_of (show 2 ≤ 100000 by decide), fun pt o hpt hod => g_two (.inl (.inr ⟨o, upd_same⟩)) ?_⟩⟩
  have W := O.ow hpf
  have Ff : F pf = none := Evl.fresh_back O.z hpf
  have g1 := Grow.tmp (o := .lst []) O.z hpf
  have g2 := g1.trans (Grow.tmp (o := .frz o (.tup [.str lettersS, .ref pf])) g1.fh hpt)
  have npt : pf ≠ pt := ne_of_none (upd_same (H := H) (a := pf) (o := .lst [])) hpt
  -- while len(found) < many
  refine ⟨fun k σ H' => ∃ fs : List Str, fs.length + k = m ∧ Off st lg cl (b + 8 * k) F H' ∧ GM st lg F H F H' ∧ H' pf = some (.lst (fs.map V.str)) ∧ fs.Nodup ∧ (∀ x ∈ fs, Low x) ∧ ∃ x1 x2 x3, σ = [some (.ref st), some (.int (m : Int)), some (.str lettersS), some (.ref pf), x1, x2, x3, none, none, none],
    ⟨m, [], Nat.zero_add _, O.grow g2, g2.gm, by rw [upd_ne npt, upd_same]; rfl, List.nodup_nil, fun _ h => absurd h List.not_mem_nil, _, _, _, rfl⟩, ?_⟩
  rintro k σ H' ⟨fs, hk, O', g', hf, nd, low, x1, x2, x3, rfl⟩
  refine ⟨_, rfl, _, _, rfl, .inl ⟨_, SqL.of hf, rfl⟩, _, rfl, _, _, rfl, rfl, _, rfl, ?_⟩
  by_cases hlt : (((fs.map V.str).length : Nat) : Int) < (m : Int)
  · rw [decide_eq_true hlt]
    rw [List.length_map] at hlt
    obtain ⟨k', rfl⟩ : ∃ k', k = k' + 1 := ⟨k - 1, by omega⟩
    refine iteT ⟨fun σ H' => ∃ fs : List Str, fs.length + k' = m ∧ Off st lg cl (b + 8 * k') F H' ∧ GM st lg F H F H' ∧ H' pf = some (.lst (fs.map V.str)) ∧ fs.Nodup ∧ (∀ x ∈ fs, Low x) ∧ ∃ x1 x2 x3, σ = [some (.ref st), some (.int (m : Int)), some (.str lettersS), some (.ref pf), x1, x2, x3, none, none, none],
      fun σ H' h => ⟨k', Nat.lt_succ_self _, h⟩, ?_⟩
    -- drawn
    refine asg (drawn_word (b := b + 8 * k' + 1) (k := 7) (i0 := 0) (i1 := 2) (O'.mono (by omega)) rfl rfl rfl (by show 7 < 10; decide) (by decide) (by decide) fun d H2 hd O2 g2 => ?_)
    have hf2 := g2.fr pf _ W.a W.b hf
    -- word
    refine asg (pick_word (b := b + 8 * k') (i0 := 0) (i4 := 4) O2 rfl rfl hd fun x H3 hx O3 g3 => ?_)
    have hf3 := g3.fr pf _ W.a W.b hf2
    -- spare
    refine ⟨_, rfl, Nat.succ_le_of_lt (by rw [sizeLine_eq]; decide), fun p1 hp1 => ?_⟩
    have hxl : x.length ≤ 1000 := by
      have e : x.length = x.cps.toList.length := rfl
      have h := hx.2.1
      omega
    refine next_comp (i := 2) (j := 5) (k := 8) rfl rfl (by show 8 < 10; decide) (by decide) hxl fun p2 H4 hp2 e4 h4 => ?_
    have hp1' : H4 p1 = some (.lst [.str x]) := e4 _ _ upd_same
    refine ⟨p1, p2, [.str x], (nexts x).map V.str, rfl, rfl, hp1', h4, Evl.sz_of (by rw [List.length_map]; unfold nexts; rw [List.length_map, letters_len]; show 1 + 26 ≤ 100000; decide), fun p3 hp3 => ?_⟩
    have e3 : Ex H3 (upd H4 p3 (.lst ([.str x] ++ (nexts x).map V.str))) := ((Evl.Ex.new hp1).trans e4).trans (Evl.Ex.new hp3)
    have hsp : ([.str x] ++ (nexts x).map V.str) = (spare x).map V.str := rfl
    rw [hsp] at e3 ⊢
    have O5 := O3.ok.ex e3
    have hf5 := e3 _ _ hf3
    -- found.append([each for each in spare if each not in found][0])
    refine ⟨_, rfl, .inl ⟨rfl, _, SqL.of hf5⟩, free_comp (K := K) (i := 6) (j := 3) (k := 9) (fs := fs) upd_same hf5 rfl rfl (by show 9 < 10; decide) (by decide) (by
      show (nexts x).length + 1 < 1000
      unfold nexts
      rw [List.length_map, letters_len]
      decide) (spare_free x fs (by omega)) fun y H6 hy hny e6 => ?_⟩
    have E : Ex H3 H6 := e3.trans e6
    refine ⟨pf, _, _, rfl, rfl, E _ _ hf3, by rw [List.length_map]; exact small1000 (by omega), ?_⟩
    have O6 : Off st lg cl (b + 8 * k') F H6 := ⟨O3.z.trans E, O3.s, O3.l, O3.ok.ex E⟩
    have g6 : GM st lg F H F H6 := ((g'.trans g2).trans g3).trans ⟨Evl.Ex.refl _, O6.z, Fr.of E, fun _ _ _ q => q, fun c u h => ⟨u, E c u h⟩⟩
    refine ⟨fs ++ [y], by rw [List.length_append]; show fs.length + 1 + k' = m; omega, O6.own W Ff, g6.own Ff hpf, by rw [upd_same, List.map_append]; rfl, ?_, fun z hz => ?_, _, _, _, rfl⟩
    · rw [List.nodup_append]
      exact ⟨nd, by simp, fun a ha b hb => by rw [List.mem_singleton.mp hb]; exact fun e => hny (e ▸ ha)⟩
    · rcases List.mem_append.mp hz with hz | hz
      · exact low z hz
      · rw [List.mem_singleton.mp hz]
        exact spare_low hx hy
  · rw [decide_eq_false hlt]
    rw [List.length_map] at hlt
    have hk0 : k = 0 := by omega
    subst hk0
    -- return sorted(found)
    refine iteF ⟨_, rfl, pf, fs, rfl, SqL.of hf, by omega, fun ws p pm srt hp => ?_⟩
    have Fp : F p = none := Evl.fresh_back O'.z hp
    have gp := g'.trans (Grow.new (o := .lst (ws.map V.str)) O'.z hp).gm
    refine q p ws _ (by rw [pm.length_eq]; omega) (rising_asc srt (pm.nodup_iff.mpr nd)) (fun x hx => nameOk_of (low x (pm.mem_iff.mp hx))) gp Fp (O'.gm (Grow.new (o := .lst (ws.map V.str)) O'.z hp).gm (O'.ok.ex (Evl.Ex.new hp)) |>.mono (by omega))
end
end Cn
set_option Elab.async false
set_option linter.all false
set_option maxRecDepth 100000
set_option maxHeartbeats 4000000
namespace Cn
open PySem PySem.Spec PyProof.Rows L2
section
variable {P : Program} {w : World} {K : PySem.W.Frag} {mg : Str → Option Value} {base : Heap}
theorem Off.off {st lg cl L : Addr} {b : Nat} {F H F2 H2 : Hp} (O : Off st lg cl b F H) (g : GM st lg F H F2 H2) {o : HO} (h : H L = some o) (hF : F L = none) : F2 L = none := g.nw L o h hF
theorem seq_par {a b : TE} {tr : TS} {E : Ends} {i j : Nat} {σ : L2.St} {H : Hp} (h : a σ H fun v H1 => b σ H1 fun w H2 => ∃ v' w', [v, w] = [v', w'] ∧ tr E ((σ.set i (some v')).set j (some w')) H2) : tSeq (tPar i j (tCons a (tCons b tNil))) tr E σ H := h
theorem if_op {r : R2} {ta tb : TE} {t u : TS} {E : Ends} {σ : L2.St} {H : Hp} (h : ta σ H fun x H1 => tb σ H1 fun y H2 => r x y H2 fun z H3 => ∃ k, z = .bl k ∧ (if k = true then t E σ H3 else u E σ H3)) : tIfS (tTest (tOp r ta tb)) t u E σ H := h
theorem ife_op {r : R2} {ta tb t u : TE} {σ : L2.St} {H : Hp} {Q : VK} (h : ta σ H fun x H1 => tb σ H1 fun y H2 => r x y H2 fun z H3 => ∃ k, z = .bl k ∧ (if k = true then t σ H3 Q else u σ H3 Q)) : tIf (tTest (tOp r ta tb)) t u σ H Q := h
theorem op_l {r : R2} {ta tb : TE} {σ : L2.St} {H : Hp} {Q : VK} (h : ta σ H fun x H1 => tb σ H1 fun y H2 => r x y H2 Q) : tOp r ta tb σ H Q := h
theorem cons_l {ta : TE} {tr : TA} {σ : L2.St} {H : Hp} {Q : List V → Hp → Prop} (h : ta σ H fun x H1 => tr σ H1 fun xs H2 => Q (x :: xs) H2) : tCons ta tr σ H Q := h
/-- a pick of a written list of whole numbers -/
theorem call_ints {st lg cl : Addr} {b : Nat} {F H : Hp} {σ : L2.St} {i0 : Nat} {ta : TA} {ns : List Int} {Q : VK} (O : Off st lg cl (b + 1) F H) (e0 : σ[i0]? = some (some (.ref st))) (hta : ∀ Q : List V → Hp → Prop, Q (ns.map V.int) H → ta σ H Q) (h0 : 0 < ns.length) (h1 : ns.length ≤ 100)
    (q : ∀ c H', c ∈ ns → Off st lg cl b F H' → GM st lg F H F H' → Q (.int c) H') : tCall (spPick K) [] E0 (tCons (tVar i0) (tCons (tLst ta) tNil)) σ H Q := by
  refine ⟨_, e0, hta _ ⟨by rw [List.length_map]; exact Evl.sz_of (by omega), fun p hp => ?_⟩⟩
  have g := Grow.tmp (o := .lst (ns.map V.int)) O.z hp
  have W := O.ow hp
  have FL : F p = none := Evl.fresh_back O.z hp
  have O1 := O.grow g
  obtain ⟨O2, _⟩ := off_upd O1 upd_same FL W.a W.b
  refine ⟨st, lg, cl, b, _, O2, .inr ⟨p, _, rfl, SqL.of upd_same, by rw [List.length_map]; exact h0, by rw [List.length_map]; omega, fun v H' hv O3 g3 => ?_⟩⟩
  have O4 : Off st lg cl b F H' := ⟨(Evl.Ex.new FL).trans O3.z, O.s, O.l, O3.ok⟩
  have g4 : GM st lg F H F H' := ⟨Evl.Ex.refl _, O4.z, (Fr.of g.hh).trans g3.fr, fun _ _ _ q => q, fun c u h => g3.kp c u (g.hh c u h)⟩
  obtain ⟨c, hc, rfl⟩ := List.mem_map.mp hv
  exact q c H' hc O4 g4
/-- a draw, the frozen part as it was -/
theorem call_draw {st lg cl : Addr} {b : Nat} {F H : Hp} {σ : L2.St} {i0 : Nat} {ta : TE} {n : Int} {Q : VK} (O : Off st lg cl (b + 1) F H) (e0 : σ[i0]? = some (some (.ref st))) (hta : ∀ Q : VK, Q (.int n) H → ta σ H Q) (n0 : 0 < n) (n1 : n < 1000000)
    (q : ∀ r H', 0 ≤ r → r < n → Off st lg cl b F H' → GM st lg F H F H' → Q (.int r) H') : tCall spDraw [] E0 (tCons (tVar i0) (tCons ta tNil)) σ H Q :=
  ⟨_, e0, hta _ ⟨st, lg, cl, b, n, rfl, n0, n1, O.ok, fun r H' r0 r1 ok fr => q r H' r0 r1 (O.draw fr ok) (GM.draw O fr ok)⟩⟩
def spRow (K : PySem.W.Frag) : Sp := fun vs H Q _ => ∃ (st lg cl pw : Addr) (b wide : Nat) (ws : List Str) (F : Hp), vs = [.ref st, .ref pw, .int (wide : Int)] ∧ wide ≤ 1000 ∧ ws.length ≤ 6 ∧ SqL K F pw (ws.map V.str) ∧ Off st lg cl (b + 20) F H ∧
  ∀ v (ps : Plan) F2 H2, (ps.map (·.1)).Sublist ws → GM st lg F H F2 H2 → Off st lg cl b F2 H2 → Dz K F2 v (planD ps) → Q v H2

abbrev s__law_row : Stmt := top 26
abbrev N__law_row : List Str := ["_law_state", "_law_words_here", "_law_wide", "_law_found", "_law_far", "_law_word"]
theorem sc__law_row : FnScope N__law_row ["_law_state", "_law_words_here", "_law_wide"] (defScope s__law_row) := ⟨rfl, rfl, rfl, by decide +kernel, rfl, by decide +kernel, by decide +kernel⟩
/- slots of _law_row: 0 _law_state, 1 _law_words_here, 2 _law_wide, 3 _law_found, 4 _law_far, 5 _law_word -/
theorem k__law_row (Fx : Fg K mg "_law_row" s__law_row) (T : Txt mg) (k__law_draw : Kp P w K mg base 1 "_law_draw" ["_law_state", "_law_size"] spDraw) (k__law_pick : Kp P w K mg base 2 "_law_pick" ["_law_state", "_law_several"] (spPick K)) :
    Kp P w K mg base 3 "_law_row" ["_law_state", "_law_words_here", "_law_wide"] (spRow K) := by
  refine kpH Fx sc__law_row (fun F => F.binds fun _ _ _ _ _ _ us hl => match us, hl with | [_, _, _], _ => rfl) (fun vs H Q E h => by obtain ⟨st, lg, cl, pw, b, wide, ws, F, rfl, _⟩ := h; rfl) fun f₀ cdv A outer s H vs Q E hr h => ?_
  refine ⟨_, (pss_cons (ps_par (i := 3) (j := 4) (by rfl) sc__law_row.nd rfl rfl (by decide) rfl rfl (pa_cons (pe_lst pa_nil) (pa_cons (pe_kp k__law_pick (hr.mono (by decide)) (by rfl) (pa_cons (pv 0) (pa_cons (pe_lst (pa_cons pe_int (pa_cons pe_int (pa_cons pe_int (pa_cons pe_int (pa_cons pe_int (pa_cons (pe_op op_mul pe_int (pe_op op_pow pe_int pe_int)) pa_nil))))))) pa_nil))) pa_nil)) (by rfl))
  (pss_cons (ps_for PassesOwn.never rfl (pi_list (pv 1)) (pg_name (i := 5) sc__law_row.nd rfl (Or.inl rfl))
  (pss_one (ps_if (pt_cmpR op_gt (pe_kp k__law_draw (hr.mono (by decide)) (by rfl) (pa_cons (pv 0) (pa_cons pe_int pa_nil))) pe_int (nomark _))
  (pss_one (ps_expr (pe_bm PySem.F.plainAttrs_list PySem.F.slot_list_append PySem.F.type_list_append mt_append (pv 3) (pa_cons (pe_tupZ (pa_cons (pv 5) (pa_cons (pe_op op_add (pe_op op_sub (pe_kp k__law_draw (hr.mono (by decide)) (by rfl) (pa_cons (pv 0) (pa_cons (pe_op op_add (pe_op op_mul pe_int (pv 2)) pe_int) pa_nil))) (pv 2)) (pv 4)) pa_nil))) pa_nil)))) pss_nil)))
  (pss_one (ps_ret (pe_callTy (call_tupleZ (K := K) rfl) (by rfl) T.b_tuple (by decide +kernel) (pa_cons (pv 3) pa_nil)))))), ?_⟩
  obtain ⟨st, lg, cl, pw, b, wide, ws, F, rfl, hw, hl, hS, O, q⟩ := h
  -- found, far
  refine seq_par ⟨Nat.zero_le _, fun pf hpf => ?_⟩
  have W := O.ow hpf
  have Ff : F pf = none := Evl.fresh_back O.z hpf
  have g1 := Grow.tmp (o := .lst []) O.z hpf
  have O1 := O.grow g1
  have hfp : upd H pf (.lst []) pf = some (.lst []) := upd_same
  refine call_ints (b := b + 19) (ns := [0, 0, 0, 0, 0, 9 * 10 ^ (8 : Int).toNat]) O1 rfl (fun Q q => ⟨10, 8, rfl, rfl, ⟨by decide, by decide, by decide⟩, 9, _, rfl, rfl, .inl ⟨by decide, by decide⟩, q⟩) (by decide) (by decide) fun far H2 _ O2 g2 => ?_
  have g2' := g1.gm.trans g2
  have hf2 := g2.fr pf _ W.a W.b hfp
  refine ⟨_, _, rfl, ?_⟩
  -- for word in words
  refine ⟨_, rfl, pw, rfl, ⟨_, Evl.ex_l O2.z hS⟩, for_list (K := K) (a := pw) (xs := ws.map V.str) (fun i σ H' => ∃ (Fi : Hp) (ps : Plan) (xs : List V) (u : Option V), Off st lg cl (b + 19 - 2 * i) Fi H' ∧ GM st lg F H Fi H' ∧ Fi pf = none ∧ H' pf = some (.lst xs) ∧ DzAll K Fi xs (ps.map prD) ∧ (ps.map (·.1)).Sublist (ws.take i) ∧
      σ = [some (.ref st), some (.ref pw), some (.int (wide : Int)), some (.ref pf), some (.int far), u])
    ⟨F, [], [], none, O2, g2', Ff, hf2, .nil, List.Sublist.refl _, rfl⟩ (fun i σ H' _ ⟨Fi, ps, xs, u, O3, g3, _⟩ => Evl.ex_l (g3.ff.trans O3.z) hS) ?_ ?_⟩
  · rintro i x σ H' hx ⟨Fi, ps, xs, u, O3, g3, Fp, hf, da, sub, rfl⟩
    rw [List.getElem?_map] at hx
    obtain ⟨s, hs', rfl⟩ := Option.map_eq_some_iff.mp hx
    have hi : i < ws.length := (List.getElem?_eq_some_iff.mp hs').1
    have xl : xs.length ≤ 6 := by
      have e1 := dpa_len da
      have e2 := sub.length_le
      rw [List.length_map] at e1 e2
      rw [List.length_take] at e2
      omega
    refine if_op (call_draw (b := b + 18 - 2 * i) (n := 4) (O3.mono (by omega)) rfl (fun Q q => q) (by decide) (by decide) fun r H4 r0 r1 O4 g4 => ?_)
    have hf4 := g4.fr pf _ W.a W.b hf
    refine ⟨_, _, rfl, rfl, _, rfl, ?_⟩
    by_cases hr : (0 : Int) < r
    · rw [decide_eq_true hr]
      refine iteT ⟨_, rfl, .inl ⟨rfl, _, SqL.of hf4⟩, cons_l ⟨_, rfl, cons_l (op_l (op_l (call_draw (b := b + 17 - 2 * i) (n := 2 * (wide : Int) + 1) (O4.mono (by omega)) rfl (fun Q q => ⟨_, rfl, 2, _, rfl, rfl, .inl ⟨by decide, by decide⟩, _, _, rfl, rfl, q⟩) (by omega) (by omega) fun r2 H5 _ _ O5 g5 => ?_)))⟩⟩
      have hf5 := g5.fr pf _ W.a W.b hf4
      refine ⟨_, rfl, _, _, rfl, rfl, _, rfl, _, _, rfl, rfl, Evl.sz_of (show 2 ≤ 100000 by decide), fun pt o hpt hod => ?_⟩
      have npt : pf ≠ pt := ne_of_none hf5 hpt
      have gt := Grow.new (o := .frz o (.tup [.str s, .int (r2 - (wide : Int) + far)])) O5.z hpt
      have O6 := O5.grow gt
      have Fp6 : upd Fi pt (.frz o (.tup [.str s, .int (r2 - (wide : Int) + far)])) pf = none := by rw [upd_ne npt]; exact Fp
      refine ⟨pf, xs, _, rfl, rfl, by rw [upd_ne npt]; exact hf5, small1000 (by omega), ?_⟩
      refine ⟨_, ps ++ [(s, r2 - (wide : Int) + far)], _, _, (O6.own W Fp6).mono (by omega), (((g3.trans g4).trans g5).trans gt.gm).own Fp6 hpf, Fp6, upd_same, ?_, ?_, rfl⟩
      · rw [List.map_append]
        exact dpa_app (dpa_ex gt.ff da) (.cons (.tup (TupZ.of upd_same hod) (.cons (.str _) (.cons (.int _) .nil))) .nil)
      · rw [List.map_append, take_at hs']
        exact sub.append (List.Sublist.refl _)
    · rw [decide_eq_false hr]
      refine iteF ⟨Fi, ps, xs, _, O4.mono (by omega), g3.trans g4, Fp, hf4, da, ?_, rfl⟩
      rw [take_at hs']
      exact sub.trans (List.sublist_append_left _ _)
  · rintro σ H' ⟨Fi, ps, xs, u, O3, g3, Fp, hf, da, sub, rfl⟩
    rw [List.length_map, List.take_length] at sub
    refine ⟨_, rfl, pf, xs, rfl, .inl ⟨SqL.of hf, fun l o hl' hod => ?_⟩⟩
    have gl := Grow.new (o := .frz o (.tup xs)) O3.z hl'
    refine q _ ps _ _ sub (g3.trans gl.gm) ((O3.grow gl).mono (by rw [List.length_map]; omega)) (.tup (TupZ.of upd_same hod) (dpa_ex gl.ff da))

def spBound (K : PySem.W.Frag) : Sp := fun vs H Q _ => ∃ (st lg cl pw : Addr) (b wide : Nat) (ws : List Str) (F : Hp), vs = [.ref st, .ref pw, .int (wide : Int)] ∧ wide ≤ 1000 ∧ ws.length ≤ 6 ∧ SqL K F pw (ws.map V.str) ∧ Off st lg cl (b + 30) F H ∧
  ∀ v (ls : Lim) F2 H2, (ls.map (·.1)).Sublist ws → GM st lg F H F2 H2 → Off st lg cl b F2 H2 → Dz K F2 v (limD ls) → Q v H2

abbrev s__law_bound : Stmt := top 27
abbrev N__law_bound : List Str := ["_law_state", "_law_words_here", "_law_wide", "_law_word", "_law_num"]
theorem sc__law_bound : FnScope N__law_bound ["_law_state", "_law_words_here", "_law_wide"] (defScope s__law_bound) := ⟨rfl, rfl, rfl, by decide +kernel, rfl, by decide +kernel, by decide +kernel⟩
/- slots of _law_bound: 0 _law_state, 1 _law_words_here, 2 _law_wide, 3 _law_word, 4 _law_num -/
theorem k__law_bound (Fx : Fg K mg "_law_bound" s__law_bound) (T : Txt mg) (k__law_draw : Kp P w K mg base 1 "_law_draw" ["_law_state", "_law_size"] spDraw) (k__law_row : Kp P w K mg base 3 "_law_row" ["_law_state", "_law_words_here", "_law_wide"] (spRow K)) :
    Kp P w K mg base 4 "_law_bound" ["_law_state", "_law_words_here", "_law_wide"] (spBound K) := by
  refine kpH Fx sc__law_bound (fun F => F.binds fun _ _ _ _ _ _ us hl => match us, hl with | [_, _, _], _ => rfl) (fun vs H Q E h => by obtain ⟨st, lg, cl, pw, b, wide, ws, F, rfl, _⟩ := h; rfl) fun f₀ cdv A outer s H vs Q E hr h => ?_
  refine ⟨_, (pss_one (ps_ret (pe_callTy (call_tupleZ (K := K) rfl) (by rfl) T.b_tuple (by decide +kernel) (pa_cons (pe_lc (own := [("_law_word", 3), ("_law_num", 4)]) (g := gTup K 2 (gCons (gName 3) (gCons (gName 4) gNil))) (tt := tYes) rfl sc__law_bound.nd (pi_tup (pe_kp k__law_row (hr.mono (by decide)) (by rfl) (pa_cons (pv 0) (pa_cons (pv 1) (pa_cons (pv 2) pa_nil))))) (blkOk_by (N := N__law_bound) (sc := defScope s__law_bound) (by decide +kernel)) (fun _ _ _ _ _ => (pg_tup rfl (pgs_cons (pg_name (i := 3) sc__law_bound.nd rfl (Or.inl rfl)) (pgs_cons (pg_name (i := 4) sc__law_bound.nd rfl (Or.inl rfl)) pgs_nil)))) (fun _ _ _ _ _ => pts_nil) (fun _ _ _ _ _ => (pe_tupZ (pa_cons (pv 3) (pa_cons (pe_ifExp (pt_cmpR op_eq (pe_kp k__law_draw (hr.mono (by decide)) (by rfl) (pa_cons (pv 0) (pa_cons pe_int pa_nil))) pe_int (nomark _)) pe_non (pv 4)) pa_nil))))) pa_nil)))), ?_⟩
  obtain ⟨st, lg, cl, pw, b, wide, ws, F, rfl, hw, hl, hS, O, q⟩ := h
  refine ⟨_, rfl, _, rfl, _, rfl, st, lg, cl, pw, b + 10, wide, ws, F, rfl, hw, hl, hS, O, fun v ps F1 H1 sub g1 O1 d1 => ?_⟩
  cases (show Dz K F1 v (.tuple (ps.map prD)) from d1) with
  | @tup c ys _ hsT haT =>
  refine ⟨c, rfl, ⟨ys, (hsT.ex O1.z).sq⟩, fun L hL => ?_⟩
  have W := O1.ow hL
  have FL : F1 L = none := Evl.fresh_back O1.z hL
  have gL := Grow.tmp (o := .lst []) O1.z hL
  have pl : ps.length ≤ 6 := by
    have e := sub.length_le
    rw [List.length_map] at e
    omega
  refine lc_tup (K := K) (a := c) (xs := ys) (fun i H' => ∃ (Fi : Hp) (ls : Lim) (xs : List V), Off st lg cl (b + 10 - i) Fi H' ∧ GM st lg F1 H1 Fi H' ∧ Fi L = none ∧ H' L = some (.lst xs) ∧ DzAll K Fi xs (ls.map lrD) ∧ ls.map (·.1) = (ps.take i).map (·.1))
    ⟨F1, [], [], O1.grow gL, gL.gm, FL, upd_same, .nil, rfl⟩ (fun i H' _ ⟨Fi, ls, xs, O3, g3, _⟩ => (hsT.ex (g3.ff.trans O3.z)).sq) (fun i x H' hx ⟨Fi, ls, xs, O3, g3, Fp, hf, da, sub2⟩ => ?_) (fun H' ⟨Fi, ls, xs, O3, g3, Fp, hf, da, sub2⟩ => ?_)
  · obtain ⟨m, hm, dm⟩ := dz_paired haT hx
    have hi : i < ps.length := (List.getElem?_eq_some_iff.mp hm).1
    have xl : xs.length ≤ 6 := by
      have e1 := dpa_len da
      have e2 := congrArg List.length sub2
      rw [List.length_map] at e1
      rw [List.length_map, List.length_map, List.length_take] at e2
      omega
    refine g_pair (F1 := F1) dm (g3.ff.trans O3.z) fun u1 u2 r1 r2 => ?_
    cases r1
    cases r2
    refine ⟨rfl, yesT ⟨_, rfl, cons_l (ife_op (call_draw (b := b + 9 - i) (n := 4) (O3.mono (by omega)) rfl (fun Q q => q) (by decide) (by decide) fun r H4 r0 r1 O4 g4 => ?_))⟩⟩
    have hf4 := g4.fr L _ W.a W.b hf
    refine ⟨rfl, _, rfl, ?_⟩
    have fin : ∀ o : Option Int, Dz K Fi (optV o) (optD o) → ∀ pt (ob : Obj), H4 pt = none → ob.dict = none → ∃ acc, upd H4 pt (.frz ob (.tup [.str m.1, optV o])) L = some (.lst acc) ∧ acc.length < sizeLine ∧ ∃ (Fi : Hp) (ls : Lim) (xs : List V), Off st lg cl (b + 10 - (i + 1)) Fi (upd (upd H4 pt (.frz ob (.tup [.str m.1, optV o]))) L (.lst (acc ++ [.ref pt]))) ∧ GM st lg F1 H1 Fi (upd (upd H4 pt (.frz ob (.tup [.str m.1, optV o]))) L (.lst (acc ++ [.ref pt]))) ∧ Fi L = none ∧ (upd (upd H4 pt (.frz ob (.tup [.str m.1, optV o]))) L (.lst (acc ++ [.ref pt]))) L = some (.lst xs) ∧ DzAll K Fi xs (ls.map lrD) ∧ ls.map (·.1) = (ps.take (i + 1)).map (·.1) := fun o dzo pt ob hpt hod => by
      have npt : L ≠ pt := ne_of_none hf4 hpt
      have gt := Grow.new (o := .frz ob (.tup [.str m.1, optV o])) O4.z hpt
      have O6 := O4.grow gt
      have Fp6 : upd Fi pt (.frz ob (.tup [.str m.1, optV o])) L = none := by rw [upd_ne npt]; exact Fp
      refine ⟨xs, by rw [upd_ne npt]; exact hf4, small1000 (by omega), _, ls ++ [(m.1, o)], _, (O6.own W Fp6).mono (by omega), ((g3.trans g4).trans gt.gm).own Fp6 hL, Fp6, upd_same, ?_, ?_⟩
      · rw [List.map_append]
        exact dpa_app (dpa_ex gt.ff da) (.cons (.tup (TupZ.of upd_same hod) (.cons (.str _) (.cons (dp_ex gt.ff dzo) .nil))) .nil)
      · rw [List.map_append, take_at hm, List.map_append, sub2]
        rfl
    by_cases hr : V.int r = V.int 0
    · rw [decide_eq_true hr]
      exact iteT ⟨Evl.sz_of (show 2 ≤ 100000 by decide), fun pt ob hpt hod => fin none .non pt ob hpt hod⟩
    · rw [decide_eq_false hr]
      exact iteF ⟨_, rfl, Evl.sz_of (show 2 ≤ 100000 by decide), fun pt ob hpt hod => fin (some m.2) (.int _) pt ob hpt hod⟩
  · have el : ys.length = ps.length := by rw [dpa_len haT, List.length_map]
    rw [el, List.take_length] at sub2
    refine ⟨L, xs, rfl, .inl ⟨SqL.of hf, fun l o hl' hod => ?_⟩⟩
    have gl := Grow.new (o := .frz o (.tup xs)) O3.z hl'
    refine q _ ls _ _ (sub2 ▸ sub) ((g1.trans g3).trans gl.gm) ((O3.grow gl).mono (by omega)) (.tup (TupZ.of upd_same hod) (dpa_ex gl.ff da))
end
end Cn
set_option Elab.async false
set_option linter.all false
set_option maxRecDepth 100000
set_option maxHeartbeats 4000000
/-! Joins, putting off and being within, as facts about finite maps. -/
namespace Cn
open PySem PySem.Spec PyProof.Rows L2
abbrev nlt (x y : Str) : Prop := x.cps.toList < y.cps.toList
theorem nlt_trans {x y z : Str} (a : nlt x y) (b : nlt y z) : nlt x z := List.lt_trans a b
theorem nlt_irr (x : Str) : ¬ nlt x x := List.lt_irrefl _
theorem nlt_tri (x y : Str) : nlt x y ∨ x = y ∨ nlt y x := by
  by_cases h : nlt x y
  · exact .inl h
  · have h4 : y.cps.toList ≤ x.cps.toList := List.not_lt.mp h
    rcases List.le_iff_lt_or_eq.mp h4 with h5 | h5
    · exact .inr (.inr h5)
    · exact .inr (.inl (Str.ext' (Array.toList_inj.mp h5)).symm)
section
variable {α : Type}
def Asc (l : List (Str × α)) : Prop := (l.map (·.1)).Pairwise nlt
theorem Asc.nd {l : List (Str × α)} (h : Asc l) : (l.map (·.1)).Nodup := List.Pairwise.imp (fun {x y} (h : nlt x y) (e : x = y) => nlt_irr y (by rw [e] at h; exact h)) h
theorem lk_nil (x : Str) : lk ([] : List (Str × α)) x = none := rfl
theorem lk_cons (q : Str × α) (l : List (Str × α)) (x : Str) : lk (q :: l) x = if q.1 = x then some q.2 else lk l x := by
  unfold lk
  rw [List.find?_cons]
  by_cases h : q.1 = x
  · rw [if_pos h, decide_eq_true h]
    rfl
  · rw [if_neg h, decide_eq_false h]
theorem lk_not {l : List (Str × α)} {x : Str} : x ∉ l.map (·.1) → lk l x = none := by
  induction l with
  | nil => intro _; rfl
  | cons q l ih =>
    intro h
    rw [List.map_cons, List.mem_cons, not_or] at h
    rw [lk_cons, if_neg (fun e => h.1 e.symm), ih h.2]
theorem lk_some {l : List (Str × α)} {x : Str} {v : α} (h : lk l x = some v) : (x, v) ∈ l := by
  induction l with
  | nil => cases h
  | cons q l ih =>
    rw [lk_cons] at h
    by_cases e : q.1 = x
    · rw [if_pos e] at h
      cases h
      rw [← e]
      exact List.mem_cons_self
    · rw [if_neg e] at h
      exact List.mem_cons_of_mem _ (ih h)
theorem lk_mem {l : List (Str × α)} (n : (l.map (·.1)).Nodup) {x : Str} {v : α} (h : (x, v) ∈ l) : lk l x = some v := by
  induction l with
  | nil => cases h
  | cons q l ih =>
    rw [List.map_cons, List.nodup_cons] at n
    rw [lk_cons]
    rcases List.mem_cons.mp h with e | h
    · subst e
      rw [if_pos rfl]
    · have hne : q.1 ≠ x := fun e => n.1 (e ▸ List.mem_map_of_mem (f := (·.1)) h)
      rw [if_neg hne]
      exact ih n.2 h
theorem lk_in {l : List (Str × α)} {x : Str} (h : x ∈ l.map (·.1)) : ∃ v, lk l x = some v := by
  induction l with
  | nil => cases h
  | cons q l ih =>
    rw [lk_cons]
    by_cases e : q.1 = x
    · exact ⟨q.2, if_pos e⟩
    · rw [if_neg e]
      rw [List.map_cons] at h
      exact ih ((List.mem_cons.mp h).resolve_left (fun z => e z.symm))
theorem lk_perm {l m : List (Str × α)} (p : l.Perm m) (n : (l.map (·.1)).Nodup) (x : Str) : lk l x = lk m x := by
  have n2 : (m.map (·.1)).Nodup := (p.map (·.1)).nodup_iff.mp n
  cases e : lk l x with
  | some v => exact (lk_mem n2 (p.mem_iff.mp (lk_some e))).symm
  | none =>
    cases e2 : lk m x with
    | none => rfl
    | some v =>
      rw [lk_mem n (p.mem_iff.mpr (lk_some e2))] at e
      cases e
theorem asc_ext : ∀ {a b : List (Str × α)}, Asc a → Asc b → (∀ x, lk a x = lk b x) → a = b
  | [], [], _, _, _ => rfl
  | [], q :: s, _, _, h => by
    have e := h q.1
    rw [lk_cons, if_pos rfl] at e
    cases e
  | p :: r, [], _, _, h => by
    have e := h p.1
    rw [lk_cons, if_pos rfl] at e
    cases e
  | p :: r, q :: s, ha, hb, h => by
    obtain ⟨a1, a2⟩ := List.pairwise_cons.mp (show ((p.1 :: r.map (·.1))).Pairwise nlt from ha)
    obtain ⟨b1, b2⟩ := List.pairwise_cons.mp (show ((q.1 :: s.map (·.1))).Pairwise nlt from hb)
    have hk : p.1 = q.1 := by
      by_cases e : p.1 = q.1
      · exact e
      · exfalso
        have e1 := h p.1
        rw [lk_cons, if_pos rfl, lk_cons, if_neg (fun z => e z.symm)] at e1
        have e2 := h q.1
        rw [lk_cons, if_neg e, lk_cons, if_pos rfl] at e2
        have m1 : p.1 ∈ s.map (·.1) := List.mem_map_of_mem (f := (·.1)) (lk_some e1.symm)
        have m2 : q.1 ∈ r.map (·.1) := List.mem_map_of_mem (f := (·.1)) (lk_some e2)
        exact nlt_irr _ (nlt_trans (a1 _ m2) (b1 _ m1))
    have hv : p.2 = q.2 := by
      have e := h p.1
      rw [lk_cons, if_pos rfl, lk_cons, if_pos hk.symm] at e
      exact Option.some.inj e
    have ht : r = s := asc_ext a2 b2 fun x => by
      have e := h x
      rw [lk_cons, lk_cons] at e
      by_cases hx : p.1 = x
      · have n1 : x ∉ r.map (·.1) := fun m => nlt_irr x (by have h := a1 _ m; rw [hx] at h; exact h)
        have n2 : x ∉ s.map (·.1) := fun m => nlt_irr x (by have h := b1 _ m; rw [← hk, hx] at h; exact h)
        rw [lk_not n1, lk_not n2]
      · rw [if_neg hx, if_neg (fun z => hx (hk.trans z))] at e
        exact e
    rw [ht]
    refine congrArg (· :: s) ?_
    obtain ⟨p1, p2⟩ := p
    obtain ⟨q1, q2⟩ := q
    cases hk
    cases hv
    rfl
end
/-! ### joins -/
def omax : Option Int → Option Int → Option Int
  | none, o => o
  | some a, none => some a
  | some a, some b => some (mx b a)
theorem mx_max (i j : Int) : mx i j = max i j := by
  unfold mx
  split <;> omega
theorem omax_some (a b : Int) : omax (some a) (some b) = some (max a b) := by
  show some (mx b a) = _
  rw [mx_max, Int.max_comm]
theorem omax_none (a : Option Int) : omax a none = a := by cases a <;> rfl
theorem omax_comm (a b : Option Int) : omax a b = omax b a := by
  cases a <;> cases b <;> try rfl
  rw [omax_some, omax_some, Int.max_comm]
theorem omax_assoc (a b c : Option Int) : omax (omax a b) c = omax a (omax b c) := by
  cases a with
  | none => rfl
  | some a =>
    cases b with
    | none => rfl
    | some b =>
      cases c with
      | none => rw [omax_none, omax_none]
      | some c => rw [omax_some, omax_some, omax_some, omax_some, Int.max_assoc]
theorem omax_self (a : Option Int) : omax a a = a := by
  cases a with
  | none => rfl
  | some a => rw [omax_some, Int.max_self]
theorem omax_add (a b : Option Int) (n : Int) : (omax a b).map (· + n) = omax (a.map (· + n)) (b.map (· + n)) := by
  cases a <;> cases b <;> try rfl
  rename_i a b
  rw [omax_some]
  show some (max a b + n) = omax (some (a + n)) (some (b + n))
  rw [omax_some]
  congr 1
  omega
theorem lk_put (acc : Plan) (x y : Str) (v : Int) : lk (putQ acc x v) y = if y = x then some v else lk acc y := by
  have h := valV_put (acc.map kvI) (Sum.inr x : Key) (Sum.inr y : Key) (V.int v)
  rw [putK_putQ, valV_lkI, valV_lkI] at h
  have inj : ∀ a b : Option Int, a.map V.int = b.map V.int → a = b := fun a b e => by
    cases a with
    | none => cases b with
      | none => rfl
      | some b => cases e
    | some a => cases b with
      | none => cases e
      | some b =>
        injection e with e
        injection e with e
        rw [e]
  refine inj _ _ (h.trans ?_)
  by_cases e : y = x
  · rw [if_pos (by rw [e]), if_pos e]
    rfl
  · rw [if_neg (fun z => e (Sum.inr.inj z)), if_neg e]
theorem putQ_names (acc : Plan) (x : Str) (v : Int) : (acc.map (·.1)).Nodup → ((putQ acc x v).map (·.1)).Nodup := by
  intro n
  unfold putQ
  by_cases h : (acc.any fun p => decide (p.1 = x)) = true
  · rw [if_pos h, List.map_map]
    have e : acc.map ((fun x : Str × Int => x.1) ∘ fun p => if p.1 = x then (p.1, v) else p) = acc.map (·.1) := List.map_congr_left fun p _ => by
      show (if p.1 = x then (p.1, v) else p).1 = p.1
      split <;> rfl
    rw [e]
    exact n
  · rw [if_neg h, List.map_append, List.nodup_append]
    refine ⟨n, by simp, fun a ha b hb e => h ?_⟩
    have hb' : b = x := by simpa using hb
    obtain ⟨p, hp, rfl⟩ := List.mem_map.mp ha
    exact List.any_eq_true.mpr ⟨p, hp, decide_eq_true (e.trans hb')⟩
theorem lk_step (acc : Plan) (q : Str × Int) (y : Str) : lk (step acc q) y = omax (lk acc y) (if q.1 = y then some q.2 else none) := by
  unfold step
  rw [lk_put]
  by_cases h : y = q.1
  · rw [if_pos h, if_pos h.symm, h]
    cases e : lk acc q.1 with
    | none =>
      show some (mx q.2 q.2) = some q.2
      rw [mx_max, Int.max_self]
    | some a => rfl
  · rw [if_neg h, if_neg (fun z => h z.symm), omax_none]
theorem lk_steps : ∀ (ps acc : Plan) (y : Str), (ps.map (·.1)).Nodup → lk (steps acc ps) y = omax (lk acc y) (lk ps y)
  | [], acc, y, _ => (omax_none _).symm
  | q :: ps, acc, y, n => by
    rw [List.map_cons, List.nodup_cons] at n
    show lk (steps (step acc q) ps) y = _
    rw [lk_steps ps _ y n.2, lk_step, lk_cons, omax_assoc]
    by_cases h : q.1 = y
    · have e : lk ps y = none := lk_not (h ▸ n.1)
      rw [if_pos h, if_pos h, e, omax_none]
    · rw [if_neg h, if_neg h]
      rfl
theorem steps_nd : ∀ (ps acc : Plan), (acc.map (·.1)).Nodup → ((steps acc ps).map (·.1)).Nodup
  | [], _, n => n
  | q :: ps, acc, n => steps_nd ps _ (putQ_names acc q.1 _ n)
def lks (pss : List Plan) (y : Str) : Option Int := pss.foldl (fun o ps => omax o (lk ps y)) none
theorem lk_joins : ∀ (pss : List Plan) (acc : Plan) (y : Str), (∀ ps ∈ pss, (ps.map (·.1)).Nodup) → lk (pss.foldl steps acc) y = pss.foldl (fun o ps => omax o (lk ps y)) (lk acc y)
  | [], _, _, _ => rfl
  | ps :: pss, acc, y, n => by
    show lk (pss.foldl steps (steps acc ps)) y = _
    rw [lk_joins pss _ y fun x hx => n x (List.mem_cons_of_mem _ hx), lk_steps ps acc y (n ps List.mem_cons_self)]
    rfl
theorem joins_nd : ∀ (pss : List Plan) (acc : Plan), (acc.map (·.1)).Nodup → ((pss.foldl steps acc).map (·.1)).Nodup
  | [], _, n => n
  | ps :: pss, acc, n => joins_nd pss _ (steps_nd ps acc n)
/-- the order in which the pairs are sorted -/
theorem le_pair (p q : Str × Int) : PySem.W.dataLe false prD p q = decide (nlt p.1 q.1 ∨ (p.1 = q.1 ∧ p.2 ≤ q.2)) := by
  have e : PySem.W.dataLt (prD q) (prD p) = PySem.W.DatumOrd.lt q p := PySem.W.DatumOrd.lt_eq q p
  show (!PySem.W.dataLt (prD q) (prD p)) = _
  rw [e]
  show (!(if q.1 = p.1 then decide (q.2 < p.2) else decide (q.1.cps.toList < p.1.cps.toList))) = _
  by_cases h : q.1 = p.1
  · rw [if_pos h]
    by_cases h2 : q.2 < p.2
    · rw [decide_eq_true h2, decide_eq_false]
      · rfl
      · rintro (h3 | ⟨_, h3⟩)
        · rw [h] at h3
          exact nlt_irr _ h3
        · omega
    · rw [decide_eq_false h2, decide_eq_true]
      · rfl
      · exact .inr ⟨h.symm, by omega⟩
  · rw [if_neg h]
    by_cases h2 : nlt q.1 p.1
    · rw [decide_eq_true h2, decide_eq_false]
      · rfl
      · rintro (h3 | ⟨h3, _⟩)
        · exact nlt_irr _ (nlt_trans h2 h3)
        · exact h h3.symm
    · rw [decide_eq_false h2, decide_eq_true]
      · rfl
      · rcases nlt_tri p.1 q.1 with h3 | h3 | h3
        · exact .inl h3
        · exact absurd h3.symm h
        · exact absurd h3 h2
theorem sort_asc (l : Plan) (n : (l.map (·.1)).Nodup) : Asc (l.mergeSort (PySem.W.dataLe false prD)) := by
  have pm := List.mergeSort_perm l (PySem.W.dataLe false prD)
  have srt : (l.mergeSort (PySem.W.dataLe false prD)).Pairwise fun a b => PySem.W.dataLe false prD a b = true := by
    refine List.pairwise_mergeSort (fun a b c h1 h2 => ?_) (fun a b => ?_) l
    · rw [le_pair, decide_eq_true_eq] at h1 h2 ⊢
      rcases h1 with h1 | ⟨h1, h1'⟩
      · rcases h2 with h2 | ⟨h2, _⟩
        · exact .inl (nlt_trans h1 h2)
        · exact .inl (h2 ▸ h1)
      · rcases h2 with h2 | ⟨h2, h2'⟩
        · exact .inl (h1 ▸ h2)
        · exact .inr ⟨h1.trans h2, Int.le_trans h1' h2'⟩
    · rw [le_pair, le_pair, Bool.or_eq_true, decide_eq_true_eq, decide_eq_true_eq]
      rcases nlt_tri a.1 b.1 with h | h | h
      · exact .inl (.inl h)
      · rcases Int.le_total a.2 b.2 with h2 | h2
        · exact .inl (.inr ⟨h, h2⟩)
        · exact .inr (.inr ⟨h.symm, h2⟩)
      · exact .inr (.inl h)
  have n2 : ((l.mergeSort (PySem.W.dataLe false prD)).map (·.1)).Nodup := ((pm.map (·.1)).nodup_iff).mpr n
  unfold Asc
  have both := srt.and (List.pairwise_map.mp n2)
  refine List.pairwise_map.mpr (both.imp fun {a b} h => ?_)
  obtain ⟨h1, h2⟩ := h
  rw [le_pair, decide_eq_true_eq] at h1
  rcases h1 with h1 | ⟨h1, _⟩
  · exact h1
  · exact absurd h1 h2
theorem joinM_asc (pss : List Plan) : Asc (joinM pss) := sort_asc _ (joins_nd pss [] List.nodup_nil)
theorem lk_joinM (pss : List Plan) (h : ∀ ps ∈ pss, Asc ps) (y : Str) : lk (joinM pss) y = lks pss y := by
  unfold joinM
  have pm := List.mergeSort_perm (joinAll pss) (PySem.W.dataLe false prD)
  have n : ((joinAll pss).map (·.1)).Nodup := joins_nd pss [] List.nodup_nil
  rw [lk_perm pm ((pm.map (·.1)).nodup_iff.mpr n) y]
  exact lk_joins pss [] y fun ps hp => (h ps hp).nd
theorem lk_join2 {a b : Plan} (ha : Asc a) (hb : Asc b) (y : Str) : lk (joinM [a, b]) y = omax (lk a y) (lk b y) := by
  rw [lk_joinM [a, b] (fun ps h => by
    rcases List.mem_cons.mp h with rfl | h
    · exact ha
    · rw [List.mem_singleton.mp h]
      exact hb) y]
  rfl
theorem lk_join3 {a b c : Plan} (ha : Asc a) (hb : Asc b) (hc : Asc c) (y : Str) : lk (joinM [a, b, c]) y = omax (omax (lk a y) (lk b y)) (lk c y) := by
  rw [lk_joinM [a, b, c] (fun ps h => by
    rcases List.mem_cons.mp h with rfl | h
    · exact ha
    · rcases List.mem_cons.mp h with rfl | h
      · exact hb
      · rw [List.mem_singleton.mp h]
        exact hc) y]
  rfl
theorem later_names (a : Plan) (n : Int) : (laterM a n).map (·.1) = a.map (·.1) := by
  unfold laterM
  rw [List.map_map]
  rfl
theorem later_asc {a : Plan} (h : Asc a) (n : Int) : Asc (laterM a n) := by
  unfold Asc
  rw [later_names]
  exact h
theorem lk_later (a : Plan) (n : Int) (y : Str) : lk (laterM a n) y = (lk a y).map (· + n) := by
  induction a with
  | nil => rfl
  | cons q a ih =>
    show lk ((q.1, q.2 + n) :: laterM a n) y = _
    rw [lk_cons, lk_cons, ih]
    by_cases h : q.1 = y
    · rw [if_pos h, if_pos h]
      rfl
    · rw [if_neg h, if_neg h]
theorem join_comm {a b : Plan} (ha : Asc a) (hb : Asc b) : joinM [a, b] = joinM [b, a] := asc_ext (joinM_asc _) (joinM_asc _) fun x => by
  rw [lk_join2 ha hb, lk_join2 hb ha, omax_comm]
theorem join_again {a b : Plan} (ha : Asc a) (hb : Asc b) : joinM [a, b] = joinM [a, b, a] := asc_ext (joinM_asc _) (joinM_asc _) fun x => by
  rw [lk_join2 ha hb, lk_join3 ha hb ha, omax_comm (omax _ _), ← omax_assoc, omax_self]
theorem join_assoc {a b c : Plan} (ha : Asc a) (hb : Asc b) (hc : Asc c) : joinM [joinM [a, b], c] = joinM [a, joinM [b, c]] := asc_ext (joinM_asc _) (joinM_asc _) fun x => by
  rw [lk_join2 (joinM_asc _) hc, lk_join2 ha (joinM_asc _), lk_join2 ha hb, lk_join2 hb hc, omax_assoc]
theorem join_later {a b : Plan} (ha : Asc a) (hb : Asc b) (n : Int) : laterM (joinM [a, b]) n = joinM [laterM a n, laterM b n] := asc_ext (later_asc (joinM_asc _) n) (joinM_asc _) fun x => by
  rw [lk_later, lk_join2 ha hb, lk_join2 (later_asc ha n) (later_asc hb n), lk_later, lk_later, omax_add]
theorem later_back (a : Plan) (n : Int) : laterM (laterM a n) (0 - n) = a := by
  unfold laterM
  rw [List.map_map]
  have e : ∀ q ∈ a, ((fun q : Str × Int => (q.1, q.2 + (0 - n))) ∘ fun q => (q.1, q.2 + n)) q = q := fun q _ => by
    show (q.1, q.2 + n + (0 - n)) = q
    have e : q.2 + n + (0 - n) = q.2 := by omega
    rw [e]
  calc _ = a.map id := List.map_congr_left e
    _ = a := List.map_id _

/-! ### being within -/
theorem lim_asc {a : Plan} (h : Asc a) : Asc (lim a) := by
  unfold Asc lim
  rw [List.map_map]
  exact h
theorem lk_lim (a : Plan) (y : Str) : lk (lim a) y = (lk a y).map some := by
  induction a with
  | nil => rfl
  | cons q a ih =>
    show lk ((q.1, some q.2) :: lim a) y = _
    rw [lk_cons, lk_cons, ih]
    by_cases h : q.1 = y
    · rw [if_pos h, if_pos h]
      rfl
    · rw [if_neg h, if_neg h]
theorem within_iff {one other : Lim} (h : Asc one) : withinM one other = true ↔ ∀ x e, lk one x = some e → ∃ l, lk other x = some l ∧ roomM e l = true := by
  unfold withinM
  rw [List.all_eq_true]
  constructor
  · intro f x e hx
    have h1 := f _ (lk_some hx)
    cases hl : lk other x with
    | none =>
      have h1' : (match lk other x with | none => false | some l => roomM e l) = true := h1
      rw [hl] at h1'
      cases h1'
    | some l =>
      have h1' : (match lk other x with | none => false | some l => roomM e l) = true := h1
      rw [hl] at h1'
      exact ⟨l, rfl, h1'⟩
  · intro f q hq
    obtain ⟨l, h1, h2⟩ := f q.1 q.2 (lk_mem h.nd hq)
    show (match lk other q.1 with | none => false | some l => roomM q.2 l) = true
    rw [h1]
    exact h2
theorem bool_eq {a b : Bool} (h : a = true ↔ b = true) : a = b := Bool.eq_iff_iff.mpr h
theorem within_join {a b : Plan} (ha : Asc a) (hb : Asc b) : withinM (lim a) (lim b) = decide (joinM [a, b] = b) := by
  refine bool_eq ?_
  rw [within_iff (lim_asc ha), decide_eq_true_eq]
  constructor
  · intro f
    refine asc_ext (joinM_asc _) hb fun x => ?_
    rw [lk_join2 ha hb]
    cases e : lk a x with
    | none => rfl
    | some u =>
      obtain ⟨l, h1, h2⟩ := f x (some u) (by rw [lk_lim, e]; rfl)
      rw [lk_lim] at h1
      cases e2 : lk b x with
      | none => rw [e2] at h1; cases h1
      | some v =>
        rw [e2] at h1
        cases h1
        have h3 : u ≤ v := of_decide_eq_true h2
        rw [omax_some, Int.max_eq_right h3]
  · intro h x e hx
    rw [lk_lim] at hx
    cases e1 : lk a x with
    | none => rw [e1] at hx; cases hx
    | some u =>
      rw [e1] at hx
      cases hx
      have h2 := lk_join2 ha hb x
      rw [h, e1] at h2
      cases e2 : lk b x with
      | none => rw [e2] at h2; cases h2
      | some v =>
        rw [e2, omax_some] at h2
        have h3 := Option.some.inj h2
        exact ⟨some v, by rw [lk_lim, e2]; rfl, decide_eq_true (by omega)⟩
theorem join_within {a b : Plan} {t : Lim} (ha : Asc a) (hb : Asc b) : withinM (lim (joinM [a, b])) t = (withinM (lim a) t && withinM (lim b) t) := by
  refine bool_eq ?_
  rw [Bool.and_eq_true, within_iff (lim_asc (joinM_asc _)), within_iff (lim_asc ha), within_iff (lim_asc hb)]
  have key : ∀ x, (∀ e, (omax (lk a x) (lk b x)).map some = some e → ∃ l, lk t x = some l ∧ roomM e l = true) ↔ ((∀ e, (lk a x).map some = some e → ∃ l, lk t x = some l ∧ roomM e l = true) ∧ ∀ e, (lk b x).map some = some e → ∃ l, lk t x = some l ∧ roomM e l = true) := fun x => by
    have le : ∀ {u v : Int} {l : Option Int}, u ≤ v → roomM (some v) l = true → roomM (some u) l = true := fun {u v l} h1 h2 => by
      cases l with
      | none => rfl
      | some l => exact decide_eq_true (Int.le_trans h1 (of_decide_eq_true h2))
    cases e1 : lk a x with
    | none => exact ⟨fun f => ⟨fun e h => (by cases h), f⟩, fun f => f.2⟩
    | some u =>
      cases e2 : lk b x with
      | none => exact ⟨fun f => ⟨f, fun e h => (by cases h)⟩, fun f => f.1⟩
      | some v =>
        rw [omax_some]
        constructor
        · intro f
          obtain ⟨l, h1, h2⟩ := f (some (max u v)) rfl
          exact ⟨fun e h => (by cases h; exact ⟨l, h1, le (Int.le_max_left _ _) h2⟩), fun e h => (by cases h; exact ⟨l, h1, le (Int.le_max_right _ _) h2⟩)⟩
        · intro ⟨f1, f2⟩ e h
          cases h
          rcases Int.le_total u v with hle | hle
          · rw [Int.max_eq_right hle]
            exact f2 _ rfl
          · rw [Int.max_eq_left hle]
            exact f1 _ rfl
  simp only [lk_lim, lk_join2 ha hb]
  exact ⟨fun f => ⟨fun x => ((key x).mp (f x)).1, fun x => ((key x).mp (f x)).2⟩, fun f x => (key x).mpr ⟨f.1 x, f.2 x⟩⟩
theorem within_later {a b : Plan} (ha : Asc a) (n : Int) : withinM (lim (laterM a n)) (lim (laterM b n)) = withinM (lim a) (lim b) := by
  refine bool_eq ?_
  rw [within_iff (lim_asc (later_asc ha n)), within_iff (lim_asc ha)]
  have key : ∀ x, (∀ e, ((lk a x).map (· + n)).map some = some e → ∃ l, ((lk b x).map (· + n)).map some = some l ∧ roomM e l = true) ↔ (∀ e, (lk a x).map some = some e → ∃ l, (lk b x).map some = some l ∧ roomM e l = true) := fun x => by
    cases e1 : lk a x with
    | none => exact ⟨fun _ e h => (by cases h), fun _ e h => (by cases h)⟩
    | some u =>
      cases e2 : lk b x with
      | none =>
        constructor
        · intro f
          obtain ⟨l, h, _⟩ := f (some (u + n)) rfl
          cases h
        · intro f
          obtain ⟨l, h, _⟩ := f (some u) rfl
          cases h
      | some v =>
        constructor
        · intro f e h
          cases h
          obtain ⟨l, h, h2⟩ := f (some (u + n)) rfl
          cases h
          have h3 : u + n ≤ v + n := of_decide_eq_true h2
          have h4 : u ≤ v := by omega
          exact ⟨some v, rfl, decide_eq_true h4⟩
        · intro f e h
          cases h
          obtain ⟨l, h, h2⟩ := f (some u) rfl
          cases h
          have h3 : u ≤ v := of_decide_eq_true h2
          have h4 : u + n ≤ v + n := by omega
          exact ⟨some (v + n), rfl, decide_eq_true h4⟩
  simp only [lk_lim, lk_later]
  exact ⟨fun f x => (key x).mp (f x), fun f x => (key x).mpr (f x)⟩
theorem room_trans {a b c : Option Int} (h1 : roomM a b = true) (h2 : roomM b c = true) : roomM a c = true := by
  cases c with
  | none => cases a <;> rfl
  | some c =>
    cases b with
    | none => cases h2
    | some b =>
      cases a with
      | none => cases h1
      | some a => exact decide_eq_true (Int.le_trans (of_decide_eq_true h1) (of_decide_eq_true h2))
theorem within_trans {a b c : Lim} (ha : Asc a) (hb : Asc b) (h1 : withinM a b = true) (h2 : withinM b c = true) : withinM a c = true := by
  rw [within_iff ha] at h1 ⊢
  rw [within_iff hb] at h2
  intro x e hx
  obtain ⟨l, e1, r1⟩ := h1 x e hx
  obtain ⟨m, e2, r2⟩ := h2 x l e1
  exact ⟨m, e2, room_trans r1 r2⟩
theorem within_anti {a b : Lim} (ha : Asc a) (hb : Asc b) (h1 : withinM a b = true) (h2 : withinM b a = true) : a = b := by
  rw [within_iff ha] at h1
  rw [within_iff hb] at h2
  refine asc_ext ha hb fun x => ?_
  have anti : ∀ {u v : Option Int}, roomM u v = true → roomM v u = true → u = v := fun {u v} r1 r2 => by
    cases u with
    | none =>
      cases v with
      | none => rfl
      | some v => cases r1
    | some u =>
      cases v with
      | none => cases r2
      | some v =>
        have h3 : u ≤ v := of_decide_eq_true r1
        have h4 : v ≤ u := of_decide_eq_true r2
        rw [Int.le_antisymm h3 h4]
  cases e1 : lk a x with
  | some u =>
    obtain ⟨l, e2, r1⟩ := h1 x u e1
    obtain ⟨m, e3, r2⟩ := h2 x l e2
    rw [e1] at e3
    cases e3
    rw [e2, anti r1 r2]
  | none =>
    cases e2 : lk b x with
    | none => rfl
    | some v =>
      obtain ⟨l, e3, _⟩ := h2 x v e2
      rw [e1] at e3
      cases e3
def free (a : Plan) : Lim := a.map fun q => (q.1, none)
theorem free_asc {a : Plan} (h : Asc a) : Asc (free a) := by
  unfold Asc free
  rw [List.map_map]
  exact h
theorem lk_free (a : Plan) (y : Str) : lk (free a) y = (lk a y).map fun _ => none := by
  induction a with
  | nil => rfl
  | cons q a ih =>
    show lk ((q.1, none) :: free a) y = _
    rw [lk_cons, lk_cons, ih]
    by_cases h : q.1 = y
    · rw [if_pos h, if_pos h]
      rfl
    · rw [if_neg h, if_neg h]
theorem within_free {a : Plan} (h : Asc a) : withinM (lim a) (free a) = true := by
  rw [within_iff (lim_asc h)]
  intro x e hx
  rw [lk_lim] at hx
  cases e1 : lk a x with
  | none => rw [e1] at hx; cases hx
  | some u =>
    refine ⟨none, by rw [lk_free, e1]; rfl, ?_⟩
    cases e <;> rfl
theorem free_within (a : Plan) : withinM (free a) (lim a) = decide (a = []) := by
  cases a with
  | nil => rfl
  | cons q a =>
    have e : withinM (free (q :: a)) (lim (q :: a)) = false := by
      show (_ && _) = false
      have e1 : lk (lim (q :: a)) q.1 = some (some q.2) := by
        rw [lk_lim, lk_cons, if_pos rfl]
        rfl
      show ((match lk (lim (q :: a)) q.1 with | none => false | some l => roomM none l) && _) = false
      rw [e1]
      rfl
    rw [e, decide_eq_false (fun z => by cases z)]
theorem bound_none {t : Lim} {a : Plan} (h : Asc t) (w : withinM t (lim a) = true) : t.filter (fun q => decide (q.2 = none)) = [] := by
  rw [within_iff h] at w
  refine List.filter_eq_nil_iff.mpr fun q hq he => ?_
  have e : q.2 = none := of_decide_eq_true he
  obtain ⟨l, h1, h2⟩ := w q.1 q.2 (lk_mem h.nd hq)
  rw [lk_lim] at h1
  cases e1 : lk a q.1 with
  | none => rw [e1] at h1; cases h1
  | some v =>
    rw [e1] at h1
    cases h1
    rw [e] at h2
    cases h2
end Cn
set_option Elab.async false
set_option linter.all false
set_option maxRecDepth 100000
set_option maxHeartbeats 4000000
namespace Cn
open PySem PySem.Spec PyProof.Rows L2
/-! ### == and != of any data -/
def rEqP (K : PySem.W.Frag) : R2 := fun x y H Q => ∃ d e, Dz K H x d ∧ Dz K H y e ∧ d.plain = true ∧ e.plain = true ∧ d.depth ≤ 60 ∧ Q (.bl (PyData.eqv d e)) H
def rNeP (K : PySem.W.Frag) : R2 := fun x y H Q => ∃ d e, Dz K H x d ∧ Dz K H y e ∧ d.plain = true ∧ e.plain = true ∧ d.depth ≤ 60 ∧ Q (.bl (!PyData.eqv d e)) H
theorem op_eqP {X : Cx} {K : PySem.W.Frag} (hK : X.K = K) (hu : X.A.units + 64 < cLine) : OpR X (compareOp .Eq) (rEqP K) := by
  subst hK
  intro pins s σ H x y v u Q I rx ry h
  obtain ⟨d, e, hd, he, pd, pe, hdep, q⟩ := h
  obtain ⟨as, r1⟩ := Dp.reads I d x v hd.dp rx
  obtain ⟨bs, r2⟩ := Dp.reads I e y u he.dp ry
  exact SeqAt.eq_plain r1 r2 pd pe (Nat.lt_of_le_of_lt (Nat.add_le_add_left (Nat.le_trans (Nat.min_le_left _ _) (Nat.le_trans hdep (by decide))) _) hu) ⟨.bl _, H, I, rfl, q⟩
theorem op_neP {X : Cx} {K : PySem.W.Frag} (hK : X.K = K) (hu : X.A.units + 64 < cLine) : OpR X (compareOp .NotEq) (rNeP K) := by
  subst hK
  intro pins s σ H x y v u Q I rx ry h
  obtain ⟨d, e, hd, he, pd, pe, hdep, q⟩ := h
  obtain ⟨as, r1⟩ := Dp.reads I d x v hd.dp rx
  obtain ⟨bs, r2⟩ := Dp.reads I e y u he.dp ry
  exact SeqAt.ne_plain r1 r2 pd pe (Nat.lt_of_le_of_lt (Nat.add_le_add_left (Nat.le_trans (Nat.min_le_left _ _) (Nat.le_trans hdep (by decide))) _) hu) ⟨.bl _, H, I, rfl, q⟩
section
variable {K : PySem.W.Frag} {F : Hp} {σ : L2.St} {t1 t2 t3 : TE}
theorem ed_eqP {d e : D} (h : EvD K F t1 σ d) (k : EvD K F t2 σ e) (p1 : d.plain = true) (p2 : e.plain = true) (hd : d.depth ≤ 60) : EvD K F (tOp (rEqP K) t1 t2) σ (.bool (PyData.eqv d e)) := ed_op h k fun u v F1 H1 z r1 r2 Q q =>
  ⟨d, e, dp_ex z r1, dp_ex z r2, p1, p2, hd, q _ (.bl _)⟩
theorem ed_neP {d e : D} (h : EvD K F t1 σ d) (k : EvD K F t2 σ e) (p1 : d.plain = true) (p2 : e.plain = true) (hd : d.depth ≤ 60) : EvD K F (tOp (rNeP K) t1 t2) σ (.bool (!PyData.eqv d e)) := ed_op h k fun u v F1 H1 z r1 r2 Q q =>
  ⟨d, e, dp_ex z r1, dp_ex z r2, p1, p2, hd, q _ (.bl _)⟩
theorem ed_neB {a b : Bool} (h : EvD K F t1 σ (.bool a)) (k : EvD K F t2 σ (.bool b)) : EvD K F (tOp rNe t1 t2) σ (.bool (a != b)) := ed_op h k fun u v F1 H1 z r1 r2 Q q => by
  cases r1
  cases r2
  refine ⟨rfl, q _ ?_⟩
  have e : (!decide (V.bl a = V.bl b)) = (a != b) := by cases a <;> cases b <;> rfl
  rw [e]
  exact .bl _
theorem ed_lst {ta : TA} {ds : List D} (h : EvAs K F ta σ ds) (hl : ds.length ≤ 100000) : EvD K F (tLst ta) σ (.list ds) := fun F1 H1 a z Q q => h F1 H1 a z _ fun vs F2 H2 g r => by
  refine ⟨Evl.sz_of (by rw [dpa_len r]; exact hl), fun p hp => ?_⟩
  have n := Grow.new (o := .lst vs) g.fh hp
  exact q _ _ _ (g.trans n) (.lst (SqL.of upd_same) (dpa_ex n.ff r))
end
/-! ### plans and limits as typed data -/
instance : PySem.W.SomeDatum Int := inferInstance
theorem limD_toD (l : Lim) : limD l = PySem.W.Datum.toD (PySem.W.Tup.mk l) := by
  show PyData.tuple (l.map lrD) = .tuple (l.map PySem.W.Datum.toD)
  refine congrArg PyData.tuple (List.map_congr_left fun q _ => ?_)
  obtain ⟨x, o⟩ := q
  cases o <;> rfl
theorem lim_plain (l : Lim) : (limD l).plain = true := by rw [limD_toD]; exact PySem.W.Datum.plain _
theorem lim_depth (l : Lim) : (limD l).depth ≤ 60 := by rw [limD_toD]; exact Nat.le_trans (PySem.W.Datum.depth_le _) (by decide)
theorem plan_plain (l : Plan) : (planD l).plain = true := by rw [← planD_lim]; exact lim_plain _
theorem plan_depth (l : Plan) : (planD l).depth ≤ 60 := by rw [← planD_lim]; exact lim_depth _
theorem lim_eqv (l m : Lim) : PyData.eqv (limD l) (limD m) = decide (l = m) := by
  rw [limD_toD, limD_toD, PySem.W.Datum.eqv]
  exact decide_eq_decide.mpr ⟨fun h => by injection h, fun h => by rw [h]⟩
theorem lim_inj {a b : Plan} (h : lim a = lim b) : a = b := by
  induction a generalizing b with
  | nil => cases b with
    | nil => rfl
    | cons q b => cases h
  | cons p a ih => cases b with
    | nil => cases h
    | cons q b =>
      have h' : (p.1, some p.2) :: lim a = (q.1, some q.2) :: lim b := h
      injection h' with h1 h2
      injection h1 with h3 h4
      injection h4 with h4
      rw [ih h2]
      obtain ⟨p1, p2⟩ := p
      obtain ⟨q1, q2⟩ := q
      cases h3
      cases h4
      rfl
theorem plan_eqv (a b : Plan) : PyData.eqv (planD a) (planD b) = decide (a = b) := by
  rw [← planD_lim, ← planD_lim, lim_eqv]
  exact decide_eq_decide.mpr ⟨lim_inj, fun h => by rw [h]⟩
theorem asc_of {l : List Str} (h : l.Pairwise nlt) : ascS l = true := by
  induction l with
  | nil => rfl
  | cons x l ih =>
    cases l with
    | nil => rfl
    | cons y r =>
      obtain ⟨h1, h2⟩ := List.pairwise_cons.mp h
      unfold ascS
      rw [ih h2, Bool.and_true]
      exact decide_eq_true (h1 y List.mem_cons_self)
theorem nameOk_len {x : Str} (h : nameOk x = true) : x.length ≤ 6 := by
  unfold nameOk at h
  exact of_decide_eq_true (Bool.and_eq_true_iff.mp h).1
/-- names of these words, ascending -/
structure Ok {α : Type} (ws : List Str) (l : List (Str × α)) : Prop where
  asc : Asc l
  inw : ∀ x ∈ l.map (·.1), x ∈ ws
structure Ws (ws : List Str) : Prop where
  ok : ∀ x ∈ ws, nameOk x = true
  len : ws.length ≤ 6
theorem Ok.len {α : Type} {ws : List Str} {l : List (Str × α)} (h : Ok ws l) (w : Ws ws) : l.length ≤ 6 := by
  have e := nodup_le _ _ h.asc.nd h.inw
  rw [List.length_map] at e
  exact Nat.le_trans e w.len
theorem fineAll_lr : ∀ {l : Lim}, (∀ x ∈ l.map (·.1), nameOk x = true) → fineAll (l.map lrD) = true
  | [], _ => rfl
  | q :: l, h => by
    rw [List.map_cons]
    unfold fineAll
    rw [fineAll_lr fun x hx => h x (List.mem_cons_of_mem _ hx), Bool.and_true]
    have e := nameOk_len (h q.1 List.mem_cons_self)
    have e1 : fine (.str q.1) = true := decide_eq_true (by omega)
    have e2 : fine (optD q.2) = true := by cases q.2 <;> rfl
    show (decide (2 < 100000) && (fine (.str q.1) && (fine (optD q.2) && true))) = true
    rw [e1, e2]
    rfl
theorem Ok.goodL {ws : List Str} {l : Lim} (h : Ok ws l) (w : Ws ws) : GoodL l := by
  have hn : ∀ x ∈ l.map (·.1), nameOk x = true := fun x hx => w.ok x (h.inw x hx)
  have hl := h.len w
  constructor
  · show (decide ((l.map lrD).length < 100000) && fineAll (l.map lrD)) = true
    rw [fineAll_lr hn, List.length_map, decide_eq_true (by omega)]
    rfl
  · have e1 : (l.map lrD).all isPairD = true := List.all_eq_true.mpr fun d hd => by
      obtain ⟨q, _, rfl⟩ := List.mem_map.mp hd
      rfl
    have e2 : ((l.map lrD).map fstD).all isNameD = true := List.all_eq_true.mpr fun d hd => by
      rw [List.map_map] at hd
      obtain ⟨q, hq, rfl⟩ := List.mem_map.mp hd
      exact hn q.1 (List.mem_map_of_mem (f := (·.1)) hq)
    have e3 : ((l.map lrD).map sndD).all isEndD = true := List.all_eq_true.mpr fun d hd => by
      rw [List.map_map] at hd
      obtain ⟨q, hq, rfl⟩ := List.mem_map.mp hd
      show isEndD (optD q.2) = true
      cases q.2 <;> rfl
    show (((l.map lrD).all isPairD && (((l.map lrD).map fstD).all isNameD && ascS (((l.map lrD).map fstD).map strD))) && ((l.map lrD).map sndD).all isEndD) = true
    rw [e1, e2, e3, fst_lr, asc_of h.asc]
    rfl
theorem Ok.good {ws : List Str} {l : Plan} (h : Ok ws l) (w : Ws ws) : Good l := by
  have hL : Ok ws (lim l) := ⟨lim_asc h.asc, fun x hx => h.inw x (by
    unfold lim at hx
    rw [List.map_map] at hx
    exact hx)⟩
  have g := hL.goodL w
  constructor
  · rw [← planD_lim]
    exact g.1
  · have h2 := (Bool.and_eq_true_iff.mp g.2).1
    rw [planD_lim] at h2
    have e3 : ((l.map prD).map sndD).all isNumD = true := List.all_eq_true.mpr fun d hd => by
      rw [List.map_map] at hd
      obtain ⟨q, hq, rfl⟩ := List.mem_map.mp hd
      rfl
    show (hasNamesD (planD l) && ((l.map prD).map sndD).all isNumD) = true
    rw [h2, e3]
    rfl
theorem Ok.lim {ws : List Str} {l : Plan} (h : Ok ws l) : Ok ws (lim l) := ⟨lim_asc h.asc, fun x hx => h.inw x (by
    unfold Cn.lim at hx
    rw [List.map_map] at hx
    exact hx)⟩
theorem Ok.later {ws : List Str} {l : Plan} (h : Ok ws l) (n : Int) : Ok ws (laterM l n) := ⟨later_asc h.asc n, fun x hx => h.inw x (by rw [later_names] at hx; exact hx)⟩
theorem Ok.free {ws : List Str} {l : Plan} (h : Ok ws l) : Ok ws (free l) := ⟨free_asc h.asc, fun x hx => h.inw x (by
    unfold Cn.free at hx
    rw [List.map_map] at hx
    exact hx)⟩
theorem Ok.nil {α : Type} {ws : List Str} : Ok ws ([] : List (Str × α)) := ⟨.nil, fun _ h => absurd h List.not_mem_nil⟩
theorem lks_none : ∀ (pss : List Plan) (o : Option Int) (x : Str), (∀ ps ∈ pss, lk ps x = none) → pss.foldl (fun o ps => omax o (lk ps x)) o = o
  | [], _, _, _ => rfl
  | ps :: pss, o, x, h => by
    show pss.foldl _ (omax o (lk ps x)) = o
    rw [h ps List.mem_cons_self, omax_none]
    exact lks_none pss o x fun q hq => h q (List.mem_cons_of_mem _ hq)
theorem Ok.join {ws : List Str} {pss : List Plan} (h : ∀ ps ∈ pss, Ok ws ps) : Ok ws (joinM pss) := by
  refine ⟨joinM_asc _, fun x hx => ?_⟩
  obtain ⟨v, hv⟩ := lk_in hx
  rw [lk_joinM pss fun ps hp => (h ps hp).asc] at hv
  by_cases hn : x ∈ ws
  · exact hn
  · exfalso
    have e := lks_none pss none x fun ps hp => lk_not fun hm => hn ((h ps hp).inw x hm)
    unfold lks at hv
    rw [e] at hv
    cases hv
theorem Ok.of_sub {α : Type} {ws : List Str} {l : List (Str × α)} (w : ascS ws = true) (s : (l.map (·.1)).Sublist ws) : Ok ws l := ⟨(ascS_lt w).sublist s, fun x hx => s.subset hx⟩
section
variable {K : PySem.W.Frag} {F : Hp} {σ : L2.St} {t1 t2 t3 : TE} {ws : List Str} {a b c : Plan} {E : XK}
theorem total_of {pss : List Plan} (w : Ws ws) (h : ∀ ps ∈ pss, Ok ws ps) (hl : pss.length ≤ 10) : total pss ≤ 1000 := by
  have e : ∀ pss : List Plan, (∀ ps ∈ pss, Ok ws ps) → total pss ≤ 6 * pss.length := fun pss => by
    induction pss with
    | nil => intro _; exact Nat.le_refl _
    | cons p pss ih =>
      intro h
      have h1 := ih fun q hq => h q (List.mem_cons_of_mem _ hq)
      have h2 := (h p List.mem_cons_self).len w
      unfold total at h1 ⊢
      rw [List.map_cons, List.sum_cons, List.length_cons]
      omega
  have := e pss h
  omega
theorem ed_joinN {ta : TA} {pss : List Plan} (h : EvAs K F ta σ (pss.map planD)) (w : Ws ws) (ok : ∀ ps ∈ pss, Ok ws ps) (hl : pss.length ≤ 10) : EvD K F (tCall (spD K 1 R_joined) [] E (tCons (tLst ta) tNil)) σ (planD (joinM pss)) :=
  ed_call (eas_one (ed_lst h (by rw [List.length_map]; omega))) rfl ⟨pss, rfl, fun ps hp => (ok ps hp).good w, by omega, total_of w ok hl, rfl⟩
theorem ed_join2 (h1 : EvD K F t1 σ (planD a)) (h2 : EvD K F t2 σ (planD b)) (w : Ws ws) (oa : Ok ws a) (ob : Ok ws b) : EvD K F (tCall (spD K 1 R_joined) [] E (tCons (tLst (tCons t1 (tCons t2 tNil))) tNil)) σ (planD (joinM [a, b])) :=
  ed_joinN (pss := [a, b]) (eas_two h1 h2) w (fun ps h => by
    rcases List.mem_cons.mp h with rfl | h
    · exact oa
    · rw [List.mem_singleton.mp h]
      exact ob) (by show 2 ≤ 10; decide)
theorem ok2 (oa : Ok ws a) (ob : Ok ws b) : Ok ws (joinM [a, b]) := .join fun ps h => by
  rcases List.mem_cons.mp h with rfl | h
  · exact oa
  · rw [List.mem_singleton.mp h]
    exact ob
theorem ed_join3 (h1 : EvD K F t1 σ (planD a)) (h2 : EvD K F t2 σ (planD b)) (h3 : EvD K F t3 σ (planD c)) (w : Ws ws) (oa : Ok ws a) (ob : Ok ws b) (oc : Ok ws c) : EvD K F (tCall (spD K 1 R_joined) [] E (tCons (tLst (tCons t1 (tCons t2 (tCons t3 tNil)))) tNil)) σ (planD (joinM [a, b, c])) :=
  ed_joinN (pss := [a, b, c]) (eas_cons h1 (eas_two h2 h3)) w (fun ps h => by
    rcases List.mem_cons.mp h with rfl | h
    · exact oa
    · rcases List.mem_cons.mp h with rfl | h
      · exact ob
      · rw [List.mem_singleton.mp h]
        exact oc) (by show 3 ≤ 10; decide)
theorem ed_later {n : Int} (h1 : EvD K F t1 σ (planD a)) (h2 : EvD K F t2 σ (.int n)) (w : Ws ws) (oa : Ok ws a) : EvD K F (tCall (spD K 2 R_later) [] E (tCons t1 (tCons t2 tNil))) σ (planD (laterM a n)) :=
  ed_call (eas_two h1 h2) rfl ⟨a, n, rfl, oa.good w, rfl⟩
theorem ed_within {l m : Lim} (h1 : EvD K F t1 σ (limD l)) (h2 : EvD K F t2 σ (limD m)) (w : Ws ws) (ol : Ok ws l) (om : Ok ws m) : EvD K F (tCall (spD K 2 R_within) [] E (tCons t1 (tCons t2 tNil))) σ (.bool (withinM l m)) :=
  ed_call (eas_two h1 h2) rfl ⟨l, m, rfl, ol.goodL w, om.goodL w, rfl⟩
theorem EvD.lim (h : EvD K F t1 σ (planD a)) : EvD K F t1 σ (limD (lim a)) := h.eq (planD_lim a).symm
theorem ed_nePl (h1 : EvD K F t1 σ (planD a)) (h2 : EvD K F t2 σ (planD b)) : EvD K F (tOp (rNeP K) t1 t2) σ (.bool (!decide (a = b))) := (ed_neP h1 h2 (plan_plain _) (plan_plain _) (plan_depth _)).eq (by rw [plan_eqv])
theorem ed_eqPl (h1 : EvD K F t1 σ (planD a)) (h2 : EvD K F t2 σ (planD b)) : EvD K F (tOp (rEqP K) t1 t2) σ (.bool (decide (a = b))) := (ed_eqP h1 h2 (plan_plain _) (plan_plain _) (plan_depth _)).eq (by rw [plan_eqv])
theorem ed_neLi {l m : Lim} (h1 : EvD K F t1 σ (limD l)) (h2 : EvD K F t2 σ (limD m)) : EvD K F (tOp (rNeP K) t1 t2) σ (.bool (!decide (l = m))) := (ed_neP h1 h2 (lim_plain _) (lim_plain _) (lim_depth _)).eq (by rw [lim_eqv])
/-- an if whose test is false: on with what stands behind it -/
theorem seq_if0 {tt : TT} {ts tr : TS} {En : Ends} {H : Hp} (h : EvB F tt σ false) (z : Ex F H) (k : ∀ H2, Ex F H2 → Ex H H2 → tr En σ H2) : tSeq (tIfS tt ts tNext) tr En σ H :=
  h F H (Evl.Ex.refl _) z _ fun F2 H2 g => iteF (k H2 (g.ff.trans g.fh) g.hh)
theorem last_if0 {tt : TT} {ts : TS} {En : Ends} {H : Hp} (h : EvB F tt σ false) (z : Ex F H) (k : ∀ H2, Ex F H2 → Ex H H2 → En.nx σ H2) : tIfS tt ts tNext En σ H :=
  h F H (Evl.Ex.refl _) z _ fun F2 H2 g => iteF (k H2 (g.ff.trans g.fh) g.hh)
end
end Cn
set_option Elab.async false
set_option linter.all false
set_option maxRecDepth 100000
set_option maxHeartbeats 8000000
namespace Cn
open PySem PySem.Spec PyProof.Rows L2
section
variable {P : Program} {w : World} {K : PySem.W.Frag} {mg : Str → Option Value} {base : Heap}
def spLaw (K : PySem.W.Frag) : Sp := fun vs H Q _ => ∃ (a : Addr) (ns : List Int), vs = [.ref a] ∧ SqL K H a (ns.map V.int) ∧ ns.length ≤ 63 ∧ ∀ H', Q (.bl true) H'
abbrev F0 : Hp := fun _ => none
theorem off0 {st lg cl : Addr} {b : Nat} {H : Hp} (h : StOk st lg cl b H) : Off st lg cl b F0 H := ⟨fun _ _ e => (by cases e), rfl, rfl, h⟩
theorem seq_par3 {a b c : TE} {tr : TS} {E : Ends} {i j l : Nat} {σ : L2.St} {H : Hp} (h : a σ H fun u H1 => b σ H1 fun v H2 => c σ H2 fun x H3 => ∃ u' v' x', [u, v, x] = [u', v', x'] ∧ tr E (((σ.set i (some u')).set j (some v')).set l (some x')) H3) : tSeq (tPar3 i j l (tCons a (tCons b (tCons c tNil)))) tr E σ H := h
theorem no_none {t : Lim} {a : Plan} (h : Asc t) (w : withinM t (lim a) = true) :
    ((t.map lrD).filter fun d => match d with | .tuple [_, .none] => true | _ => false) = [] := by
  rw [List.filter_map]
  have e : (fun d : D => match d with | .tuple [_, .none] => true | _ => false) ∘ lrD = fun q => decide (q.2 = none) := by
    funext ⟨x, e⟩
    cases e <;> rfl
  rw [e, bound_none h w]
  rfl
abbrev s_law : Stmt := top 28
abbrev N_law : List Str := ["_law_script", "_law_state", "_law_turn", "_law_words_here", "_law_one", "_law_two", "_law_three", "_law_top", "_law_next_top", "_law_num", "_law_both", "_law_free", "_law_k", "_law_word", "_law_spot"]
theorem sc_law : FnScope N_law ["_law_script"] (defScope s_law) := ⟨rfl, rfl, rfl, by decide +kernel, rfl, by decide +kernel, by decide +kernel⟩
/- slots of law: 0 _law_script, 1 _law_state, 2 _law_turn, 3 _law_words_here, 4 _law_one, 5 _law_two, 6 _law_three, 7 _law_top, 8 _law_next_top, 9 _law_num, 10 _law_both, 11 _law_free, 12 _law_k, 13 _law_word, 14 _law_spot -/
theorem ok_law {f : Addr} {fd : FuncData} (FL : Fun K "law" "law" s_law f fd) (T : Txt mg) (f0 : Fg K mg "is_number" s_is_number) (f1 : Fg K mg "is_name" s_is_name) (f2 : Fg K mg "is_list" s_is_list) (f3 : Fg K mg "is_pair" s_is_pair) (f4 : Fg K mg "is_ascending" s_is_ascending) (f5 : Fg K mg "has_names" s_has_names)
    (f6 : Fg K mg "is_plan" s_is_plan) (f7 : Fg K mg "later" s_later) (f8 : Fg K mg "joined" s_joined) (f9 : Fg K mg "is_limit" s_is_limit) (f10 : Fg K mg "is_within" s_is_within) (f11 : Fg K mg "_is_room" s__is_room) (f12 : Fg K mg "_law_begun" s__law_begun) (f13 : Fg K mg "_law_draw" s__law_draw)
    (f14 : Fg K mg "_law_pick" s__law_pick) (f15 : Fg K mg "_law_words" s__law_words) (f16 : Fg K mg "_law_row" s__law_row) (f17 : Fg K mg "_law_bound" s__law_bound) : FnOk P w K mg base CX0 6 f fd ["_law_script"] (spLaw K) := by
  have k_is_number := Cn.k_is_number (P := P) (w := w) (base := base) f0 T
  have k_is_name := Cn.k_is_name (P := P) (w := w) (base := base) f1 T
  have k_is_list := Cn.k_is_list (P := P) (w := w) (base := base) f2 T
  have k_is_pair := Cn.k_is_pair (P := P) (w := w) (base := base) f3 T
  have k_is_ascending := Cn.k_is_ascending (P := P) (w := w) (base := base) f4 T
  have k_has_names := Cn.k_has_names f5 T k_is_pair k_is_name k_is_ascending
  have k_is_plan := Cn.k_is_plan f6 T k_has_names k_is_number
  have k_later := Cn.k_later f7 T k_is_plan k_is_number
  have k_joined := Cn.k_joined f8 T k_is_list k_is_plan
  have k_is_limit := Cn.k_is_limit f9 T k_has_names k_is_number
  have k__is_room := Cn.k__is_room (P := P) (w := w) (base := base) f11 T
  have k_is_within := Cn.k_is_within f10 T k_is_limit k__is_room
  have k__law_begun := Cn.k__law_begun (P := P) (w := w) (base := base) f12 T
  have k__law_draw := Cn.k__law_draw (P := P) (w := w) (base := base) f13 T
  have k__law_pick := Cn.k__law_pick f14 T k__law_draw
  have k__law_words := Cn.k__law_words f15 T k__law_draw k__law_pick
  have k__law_row := Cn.k__law_row f16 T k__law_draw k__law_pick
  have k__law_bound := Cn.k__law_bound f17 T k__law_draw k__law_row
  refine FL.ok sc_law (fun vs H Q E h => by obtain ⟨a, ns, rfl, _⟩ := h; rfl) fun cdv A outer s H vs Q E hr h => ?_
  refine ⟨_, (pss_cons (ps_set (i := 1) sc_law.nd rfl (Or.inr rfl) (pe_kp k__law_begun (hr.mono (by decide)) (by rfl) (pa_cons (pv 0) pa_nil)))
  (pss_cons (ps_for PassesOwn.never rfl (pi_range1 (by rfl) T.b_range (pa_cons (pe_op op_add pe_int (pe_callB (call_min2 rfl) (by rfl) T.b_min (by decide +kernel) (pa_cons (pe_callB (call_lenK (K := K) rfl) (by rfl) T.b_len (by decide +kernel) (pa_cons (pv 0) pa_nil)) (pa_cons pe_int pa_nil)))) pa_nil)) (pg_name (i := 2) sc_law.nd rfl (Or.inl rfl))
  (pss_cons (ps_set (i := 3) sc_law.nd rfl (Or.inr rfl) (pe_kp k__law_words (hr.mono (by decide)) (by rfl) (pa_cons (pv 1) (pa_cons (pe_op op_add pe_int (pe_kp k__law_draw (hr.mono (by decide)) (by rfl) (pa_cons (pv 1) (pa_cons pe_int pa_nil)))) pa_nil))))
  (pss_cons (ps_asg (pe_lc (own := [("_law_k", 12)]) (g := gName 12) (tt := tYes) rfl sc_law.nd (pi_range1 (by rfl) T.b_range (pa_cons pe_int pa_nil)) (blkOk_by (N := N_law) (sc := defScope s_law) (by decide +kernel)) (fun _ _ _ _ _ => (pg_name (i := 12) sc_law.nd rfl (Or.inl rfl))) (fun _ _ _ _ _ => pts_nil) (fun _ _ _ _ _ => (pe_kp k__law_row (hr.mono (by decide)) (by rfl) (pa_cons (pv 1) (pa_cons (pv 3) (pa_cons (pe_kp k__law_pick (hr.mono (by decide)) (by rfl) (pa_cons (pv 1) (pa_cons (pe_lst (pa_cons pe_int (pa_cons pe_int (pa_cons pe_int pa_nil)))) pa_nil))) pa_nil)))))) (pg_lst rfl (pgs_cons (pg_name (i := 4) sc_law.nd rfl (Or.inl rfl)) (pgs_cons (pg_name (i := 5) sc_law.nd rfl (Or.inl rfl)) (pgs_cons (pg_name (i := 6) sc_law.nd rfl (Or.inl rfl)) pgs_nil)))))
  (pss_cons (ps_par3 (i := 7) (j := 8) (l := 9) (by rfl) sc_law.nd rfl rfl rfl (by decide) (by decide) (by decide) rfl rfl rfl (pa_cons (pe_kp k__law_bound (hr.mono (by decide)) (by rfl) (pa_cons (pv 1) (pa_cons (pv 3) (pa_cons pe_int pa_nil)))) (pa_cons (pe_kp k__law_bound (hr.mono (by decide)) (by rfl) (pa_cons (pv 1) (pa_cons (pv 3) (pa_cons pe_int pa_nil)))) (pa_cons (pe_op op_sub (pe_kp k__law_draw (hr.mono (by decide)) (by rfl) (pa_cons (pv 1) (pa_cons pe_int pa_nil))) pe_int) pa_nil))) (by rfl))
  (pss_cons (ps_set (i := 10) sc_law.nd rfl (Or.inl rfl) (pe_kp k_joined (hr.mono (by decide)) (by rfl) (pa_cons (pe_lst (pa_cons (pv 4) (pa_cons (pv 5) pa_nil))) pa_nil)))
  (pss_cons (ps_if (PW.pt (pw_or (pt_cmpR (op_neP (K := K) rfl hr.units) (pv 10) (pe_kp k_joined (hr.mono (by decide)) (by rfl) (pa_cons (pe_lst (pa_cons (pv 5) (pa_cons (pv 4) pa_nil))) pa_nil)) (nomark _)) (pw_or (pt_cmpR (op_neP (K := K) rfl hr.units) (pv 10) (pe_kp k_joined (hr.mono (by decide)) (by rfl) (pa_cons (pe_lst (pa_cons (pv 4) (pa_cons (pv 5) (pa_cons (pv 4) pa_nil)))) pa_nil)) (nomark _)) (pw_or1 (pt_cmpR (op_neP (K := K) rfl hr.units) (pe_kp k_later (hr.mono (by decide)) (by rfl) (pa_cons (pe_kp k_later (hr.mono (by decide)) (by rfl) (pa_cons (pv 4) (pa_cons (pv 9) pa_nil))) (pa_cons (pe_op op_sub pe_int (pv 9)) pa_nil))) (pv 4) (nomark _))))))
  (pss_one (ps_ret pe_bl)) pss_nil)
  (pss_cons (ps_if (PW.pt (pw_or (pt_cmpR (op_neP (K := K) rfl hr.units) (pe_kp k_joined (hr.mono (by decide)) (by rfl) (pa_cons (pe_lst (pa_cons (pv 10) (pa_cons (pv 6) pa_nil))) pa_nil)) (pe_kp k_joined (hr.mono (by decide)) (by rfl) (pa_cons (pe_lst (pa_cons (pv 4) (pa_cons (pe_kp k_joined (hr.mono (by decide)) (by rfl) (pa_cons (pe_lst (pa_cons (pv 5) (pa_cons (pv 6) pa_nil))) pa_nil)) pa_nil))) pa_nil)) (nomark _)) (pw_or1 (pt_cmpR (op_neP (K := K) rfl hr.units) (pe_kp k_later (hr.mono (by decide)) (by rfl) (pa_cons (pv 10) (pa_cons (pv 9) pa_nil))) (pe_kp k_joined (hr.mono (by decide)) (by rfl) (pa_cons (pe_lst (pa_cons (pe_kp k_later (hr.mono (by decide)) (by rfl) (pa_cons (pv 4) (pa_cons (pv 9) pa_nil))) (pa_cons (pe_kp k_later (hr.mono (by decide)) (by rfl) (pa_cons (pv 5) (pa_cons (pv 9) pa_nil))) pa_nil))) pa_nil)) (nomark _)))))
  (pss_one (ps_ret pe_bl)) pss_nil)
  (pss_cons (ps_if (PW.pt (pw_or (pt_cmpR op_ne (pe_kp k_is_within (hr.mono (by decide)) (by rfl) (pa_cons (pv 4) (pa_cons (pv 5) pa_nil))) (pe_cmpR (op_eqP (K := K) rfl hr.units) (pv 10) (pv 5) (nomark _)) (nomark _)) (pw_or1 (pt_cmpR op_ne (pe_kp k_is_within (hr.mono (by decide)) (by rfl) (pa_cons (pv 10) (pa_cons (pv 7) pa_nil))) (pe_and (pe_kp k_is_within (hr.mono (by decide)) (by rfl) (pa_cons (pv 4) (pa_cons (pv 7) pa_nil))) (pe_one (pe_kp k_is_within (hr.mono (by decide)) (by rfl) (pa_cons (pv 5) (pa_cons (pv 7) pa_nil))))) (nomark _)))))
  (pss_one (ps_ret pe_bl)) pss_nil)
  (pss_cons (ps_if (pt_cmpR op_ne (pe_kp k_is_within (hr.mono (by decide)) (by rfl) (pa_cons (pe_kp k_later (hr.mono (by decide)) (by rfl) (pa_cons (pv 4) (pa_cons (pv 9) pa_nil))) (pa_cons (pe_kp k_later (hr.mono (by decide)) (by rfl) (pa_cons (pv 5) (pa_cons (pv 9) pa_nil))) pa_nil))) (pe_kp k_is_within (hr.mono (by decide)) (by rfl) (pa_cons (pv 4) (pa_cons (pv 5) pa_nil))) (nomark _))
  (pss_one (ps_ret pe_bl)) pss_nil)
  (pss_cons (ps_if (PW.pt (pw_and (pt_val (pe_kp k_is_within (hr.mono (by decide)) (by rfl) (pa_cons (pv 4) (pa_cons (pv 7) pa_nil)))) (pw_and (pt_val (pe_kp k_is_within (hr.mono (by decide)) (by rfl) (pa_cons (pv 7) (pa_cons (pv 8) pa_nil)))) (pw_and1 (pt_not (pt_val (pe_kp k_is_within (hr.mono (by decide)) (by rfl) (pa_cons (pv 4) (pa_cons (pv 8) pa_nil)))))))))
  (pss_one (ps_ret pe_bl)) pss_nil)
  (pss_cons (ps_if (PW.pt (pw_and (pt_val (pe_kp k_is_within (hr.mono (by decide)) (by rfl) (pa_cons (pv 7) (pa_cons (pv 8) pa_nil)))) (pw_and (pt_val (pe_kp k_is_within (hr.mono (by decide)) (by rfl) (pa_cons (pv 8) (pa_cons (pv 7) pa_nil)))) (pw_and1 (pt_cmpR (op_neP (K := K) rfl hr.units) (pv 7) (pv 8) (nomark _))))))
  (pss_one (ps_ret pe_bl)) pss_nil)
  (pss_cons (ps_set (i := 11) sc_law.nd rfl (Or.inl rfl) (pe_callTy (call_tupleZ (K := K) rfl) (by rfl) T.b_tuple (by decide +kernel) (pa_cons (pe_lc (own := [("_law_word", 13), ("_law_spot", 14)]) (g := gTup K 2 (gCons (gName 13) (gCons (gName 14) gNil))) (tt := tYes) rfl sc_law.nd (pi_tup (pv 4)) (blkOk_by (N := N_law) (sc := defScope s_law) (by decide +kernel)) (fun _ _ _ _ _ => (pg_tup rfl (pgs_cons (pg_name (i := 13) sc_law.nd rfl (Or.inl rfl)) (pgs_cons (pg_name (i := 14) sc_law.nd rfl (Or.inl rfl)) pgs_nil)))) (fun _ _ _ _ _ => pts_nil) (fun _ _ _ _ _ => (pe_tupZ (pa_cons (pv 13) (pa_cons pe_non pa_nil))))) pa_nil)))
  (pss_cons (ps_if (PW.pt (pw_or (pt_not (pt_val (pe_kp k_is_within (hr.mono (by decide)) (by rfl) (pa_cons (pv 4) (pa_cons (pv 11) pa_nil))))) (pw_or (pt_cmpR op_ne (pe_kp k_is_within (hr.mono (by decide)) (by rfl) (pa_cons (pv 11) (pa_cons (pv 4) pa_nil))) (pe_cmpR (op_eqP (K := K) rfl hr.units) (pv 4) (pe_tupZ pa_nil) (nomark _)) (nomark _)) (pw_or1 (pt_not (pt_val (pe_kp k_is_within (hr.mono (by decide)) (by rfl) (pa_cons (pe_tupZ pa_nil) (pa_cons (pv 7) pa_nil)))))))))
  (pss_one (ps_ret pe_bl)) pss_nil)
  (pss_one (ps_if (PW.pt (pw_and (pt_val (pe_kp k_is_within (hr.mono (by decide)) (by rfl) (pa_cons (pv 7) (pa_cons (pv 4) pa_nil)))) (pw_and1 (pt_cmpR (op_neP (K := K) rfl hr.units) (pe_lc (own := [("_law_word", 13), ("_law_spot", 14)]) (g := gTup K 2 (gCons (gName 13) (gCons (gName 14) gNil))) rfl sc_law.nd (pi_tup (pv 7)) (blkOk_by (N := N_law) (sc := defScope s_law) (by decide +kernel)) (fun _ _ _ _ _ => (pg_tup rfl (pgs_cons (pg_name (i := 13) sc_law.nd rfl (Or.inl rfl)) (pgs_cons (pg_name (i := 14) sc_law.nd rfl (Or.inl rfl)) pgs_nil)))) (fun _ _ _ _ _ => (pts_one (pt_cmpR op_isN (pv 14) pe_non (nomark _)))) (fun _ _ _ _ _ => (pv 13))) (pe_lst pa_nil) (nomark _)))))
  (pss_one (ps_ret pe_bl)) pss_nil)))))))))))))))
  (pss_one (ps_ret pe_bl)))), ?_⟩
  obtain ⟨a, ns, rfl, hS, hl, q⟩ := h
  refine ⟨_, rfl, a, ns, rfl, hS, hl, fun st lg cl H1 e1 _ _ _ ok1 => ?_⟩
  have hmin : (if (30 : Int) < ((ns.map V.int).length : Nat) then (30 : Int) else ((ns.map V.int).length : Nat)) ≤ 30 ∧ 0 ≤ (if (30 : Int) < ((ns.map V.int).length : Nat) then (30 : Int) else ((ns.map V.int).length : Nat)) := by
    split <;> omega
  refine ⟨_, rfl, _, _, rfl, .inl ⟨_, Evl.ex_l e1 hS, rfl⟩, _, _, rfl, _, _, rfl, rfl, _, rfl, by omega, by omega, for_range (lo := 0) (fun i σ H => i ≤ 40 ∧ StOk st lg cl (1000 * (50 - i)) H ∧ ∃ u2 u3 u4 u5 u6 u7 u8 u9 u10 u11, σ = [some (.ref a), some (.ref st), u2, u3, u4, u5, u6, u7, u8, u9, u10, u11, none, none, none])
    ⟨by omega, ok1.mono (by omega), _, _, _, _, _, _, _, _, _, _, rfl⟩ ?_ fun σ H _ => q H⟩
  rintro i σ H hi ⟨_, okH, u2, u3, u4, u5, u6, u7, u8, u9, u10, u11, rfl⟩
  have hi40 : i < 40 := by omega
  generalize hB : 1000 * (50 - (i + 1)) = B
  have O := off0 (okH.mono (show B + 999 + 1 ≤ 1000 * (50 - i) by omega))
  -- words
  refine asg ⟨_, rfl, _, rfl, st, lg, cl, B + 999, 4, rfl, by decide, by decide, O.ok, fun r H2 r0 r1 ok2 fr2 => ?_⟩
  have O2 := O.draw fr2 ok2
  obtain ⟨m, rfl⟩ : ∃ m : Nat, r = (m : Int) := ⟨r.toNat, (Int.toNat_of_nonneg r0).symm⟩
  refine ⟨_, _, rfl, rfl, st, lg, cl, B + 900, m + 1, F0, (by rw [show ((m + 1 : Nat) : Int) = 1 + (m : Int) by omega]; rfl), by omega, O2.mono (by omega), fun p ws H3 hwl hasc hok g3 _ O3 => ?_⟩
  have W : Ws ws := ⟨hok, by omega⟩
  have hpw : SqL K (upd F0 p (.lst (ws.map V.str))) p (ws.map V.str) := SqL.of upd_same
  generalize upd F0 p (.lst (ws.map V.str)) = F3 at g3 O3 hpw
  -- one, two, three
  refine ⟨3, rfl, by decide, by decide, fun L hL => ?_⟩
  have WL := O3.ow hL
  have FL3 : F3 L = none := Evl.fresh_back O3.z hL
  have gL := Grow.tmp (o := .lst []) O3.z hL
  refine lc_range (lo := 0) (n := 3) (fun k H' => ∃ (Fi : Hp) (rs : List Plan) (xs : List V), Off st lg cl (B + 900 - 30 * k) Fi H' ∧ GM st lg F3 H3 Fi H' ∧ Fi L = none ∧ H' L = some (.lst xs) ∧ DzAll K Fi xs (rs.map planD) ∧ (∀ r ∈ rs, Ok ws r) ∧ rs.length = k)
    ⟨F3, [], [], O3.grow gL, gL.gm, FL3, upd_same, .nil, fun _ h => absurd h List.not_mem_nil, rfl⟩ (fun k H' hk ⟨Fi, rs, xs, O4, g4, Fp, hf, da, okr, hrl⟩ => ?_) (fun H' ⟨Fi, rs, xs, O4, g4, Fp, hf, da, okr, hrl⟩ => ?_)
  · have xl := dpa_len da
    rw [List.length_map] at xl
    refine ⟨rfl, yesT ⟨_, rfl, _, rfl, cons_l (call_ints (b := B + 899 - 30 * k) (ns := [1, 2, 9]) (O4.mono (by omega)) rfl (fun Q q => q) (by decide) (by decide) fun c H5 hc O5 g5 => ?_)⟩⟩
    have hf5 := g5.fr L _ WL.a WL.b hf
    obtain ⟨wide, rfl, hw⟩ : ∃ wide : Nat, c = (wide : Int) ∧ wide ≤ 1000 := by
      simp only [List.mem_cons, List.not_mem_nil, or_false] at hc
      rcases hc with rfl | rfl | rfl
      · exact ⟨1, rfl, by decide⟩
      · exact ⟨2, rfl, by decide⟩
      · exact ⟨9, rfl, by decide⟩
    refine ⟨st, lg, cl, p, B + 900 - 30 * (k + 1), wide, ws, Fi, rfl, hw, W.len, Evl.ex_l g4.ff hpw, O5.mono (by omega), fun v ps F6 H6 sub g6 O6 d6 => ?_⟩
    have hf6 := g6.fr L _ WL.a WL.b hf5
    have Fp6 : F6 L = none := g6.nw L _ hf5 Fp
    refine ⟨xs, hf6, small1000 (by omega), F6, rs ++ [ps], xs ++ [v], O6.own WL Fp6, (((g4.trans g5).trans g6)).own Fp6 hL, Fp6, upd_same, ?_, fun r hr => ?_, by rw [List.length_append, hrl]; rfl⟩
    · rw [List.map_append]
      exact dpa_app (dpa_ex g6.ff da) (.cons d6 .nil)
    · rcases List.mem_append.mp hr with hr | hr
      · exact okr r hr
      · rw [List.mem_singleton.mp hr]
        exact .of_sub hasc sub
  · obtain ⟨pa, pb, pc, rfl⟩ : ∃ pa pb pc, rs = [pa, pb, pc] := by
      match rs, hrl with
      | [x, y, z], _ => exact ⟨x, y, z, rfl⟩
    have oa : Ok ws pa := okr pa (by simp)
    have ob : Ok ws pb := okr pb (by simp)
    have oc : Ok ws pc := okr pc (by simp)
    obtain ⟨v4, v5, v6, rfl, d4, d5, d6⟩ : ∃ v4 v5 v6, xs = [v4, v5, v6] ∧ Dz K Fi v4 (planD pa) ∧ Dz K Fi v5 (planD pb) ∧ Dz K Fi v6 (planD pc) := by
      cases da with
      | cons h1 t =>
        cases t with
        | cons h2 t =>
          cases t with
          | cons h3 t =>
            cases t
            exact ⟨_, _, _, rfl, h1, h2, h3⟩
    refine ⟨L, _, rfl, SqL.of hf, rfl, _, _, rfl, _, _, rfl, _, _, rfl, rfl, ?_⟩
    have hpw4 := Evl.ex_l g4.ff hpw
    -- top, next_top, num
    dsimp only
    refine seq_par3 ?_
    refine ⟨_, rfl, _, rfl, st, lg, cl, p, B + 700, 4, ws, Fi, rfl, by decide, W.len, hpw4, O4.mono (by omega), fun v7 t1 F7 H7 sub7 g7 O7 d7 => ?_⟩
    refine ⟨_, rfl, _, rfl, st, lg, cl, p, B + 600, 4, ws, F7, rfl, by decide, W.len, Evl.ex_l g7.ff hpw4, O7.mono (by omega), fun v8 t2 F8 H8 sub8 g8 O8 d8 => ?_⟩
    refine ⟨_, rfl, st, lg, cl, B + 599, 41, rfl, by decide, by decide, O8.ok, fun r H9 _ _ ok9 fr9 => ⟨_, _, rfl, rfl, _, _, _, rfl, ?_⟩⟩
    have O9 := O8.draw fr9 ok9
    have o1 : Ok ws t1 := .of_sub hasc sub7
    have o2 : Ok ws t2 := .of_sub hasc sub8
    have D4 := dp_ex (g7.ff.trans g8.ff) d4
    have D5 := dp_ex (g7.ff.trans g8.ff) d5
    have D6 := dp_ex (g7.ff.trans g8.ff) d6
    have D7 := dp_ex g8.ff d7
    have z10 : Ex F8 H9 := O9.z
    obtain ⟨n, hn⟩ : ∃ n : Int, n = r - 20 := ⟨_, rfl⟩
    -- both
    refine seq_D (ed_join2 (ed_var (sl rfl D4)) (ed_var (sl rfl D5)) W oa ob) z10 fun v10 F H10 g10 d10 => ?_
    have S4 : ∀ σ : L2.St, σ[4]? = some (some v4) → EvD K F (tVar 4) σ (planD pa) := fun σ e => ed_var (sl e (dp_ex g10.ff D4))
    have S5 : ∀ σ : L2.St, σ[5]? = some (some v5) → EvD K F (tVar 5) σ (planD pb) := fun σ e => ed_var (sl e (dp_ex g10.ff D5))
    have S6 : ∀ σ : L2.St, σ[6]? = some (some v6) → EvD K F (tVar 6) σ (planD pc) := fun σ e => ed_var (sl e (dp_ex g10.ff D6))
    have S7 : ∀ σ : L2.St, σ[7]? = some (some v7) → EvD K F (tVar 7) σ (limD t1) := fun σ e => ed_var (sl e (dp_ex g10.ff D7))
    have S8 : ∀ σ : L2.St, σ[8]? = some (some v8) → EvD K F (tVar 8) σ (limD t2) := fun σ e => ed_var (sl e (dp_ex g10.ff d8))
    have S9 : ∀ σ : L2.St, σ[9]? = some (some (.int (r - 20))) → EvD K F (tVar 9) σ (.int n) := fun σ e => by rw [hn]; exact ed_var (sl e (.int _))
    have S10 : ∀ σ : L2.St, σ[10]? = some (some v10) → EvD K F (tVar 10) σ (planD (joinM [pa, pb])) := fun σ e => ed_var (sl e d10)
    have z11 := g10.fh
    have ok11 := ok9.ex g10.hh
    have oab := Cn.ok2 oa ob
    refine seq_if0 (F := F) ((eb_or (eb_test (ed_nePl (S10 _ rfl) (ed_join2 (S5 _ rfl) (S4 _ rfl) W ob oa))) fun _ => eb_or (eb_test (ed_nePl (S10 _ rfl) (ed_join3 (S4 _ rfl) (S5 _ rfl) (S4 _ rfl) W oa ob oa)))
      fun _ => eb_test (ed_nePl (ed_later (ed_later (S4 _ rfl) (S9 _ rfl) W oa) (ed_I0 ed_int (S9 _ rfl) fun G => .int _) W (oa.later n)) (S4 _ rfl))).eq
      (by rw [decide_eq_true (join_comm oa.asc ob.asc), decide_eq_true (join_again oa.asc ob.asc), decide_eq_true (later_back pa n)]; rfl)) z11 fun H11 z12 x12 => ?_
    refine seq_if0 (F := F) ((eb_or (eb_test (ed_nePl (ed_join2 (S10 _ rfl) (S6 _ rfl) W oab oc) (ed_join2 (S4 _ rfl) (ed_join2 (S5 _ rfl) (S6 _ rfl) W ob oc) W oa (Cn.ok2 ob oc))))
      fun _ => eb_test (ed_nePl (ed_later (S10 _ rfl) (S9 _ rfl) W oab) (ed_join2 (ed_later (S4 _ rfl) (S9 _ rfl) W oa) (ed_later (S5 _ rfl) (S9 _ rfl) W ob) W (oa.later n) (ob.later n)))).eq
      (by rw [decide_eq_true (join_assoc oa.asc ob.asc oc.asc), decide_eq_true (join_later oa.asc ob.asc n)]; rfl)) z12 fun H12 z13 x13 => ?_
    refine seq_if0 (F := F) ((eb_or (eb_test (ed_neB (ed_within (EvD.lim (S4 _ rfl)) (EvD.lim (S5 _ rfl)) W oa.lim ob.lim) (ed_eqPl (S10 _ rfl) (S5 _ rfl))))
      fun _ => eb_test (ed_neB (ed_within (EvD.lim (S10 _ rfl)) (S7 _ rfl) W oab.lim o1) (ed_and (ed_within (EvD.lim (S4 _ rfl)) (S7 _ rfl) W oa.lim o1) fun _ => ed_within (EvD.lim (S5 _ rfl)) (S7 _ rfl) W ob.lim o1))).eq
      (by rw [within_join oa.asc ob.asc, join_within oa.asc ob.asc, bne_self_eq_false, bne_self_eq_false]; rfl)) z13 fun H13 z14 x14 => ?_
    refine seq_if0 (F := F) ((eb_test (ed_neB (ed_within (EvD.lim (ed_later (S4 _ rfl) (S9 _ rfl) W oa)) (EvD.lim (ed_later (S5 _ rfl) (S9 _ rfl) W ob)) W (oa.later n).lim (ob.later n).lim) (ed_within (EvD.lim (S4 _ rfl)) (EvD.lim (S5 _ rfl)) W oa.lim ob.lim))).eq
      (by rw [within_later oa.asc, bne_self_eq_false])) z14 fun H14 z15 x15 => ?_
    refine seq_if0 (F := F) ((eb_and (c := false) (eb_val (ed_within (EvD.lim (S4 _ rfl)) (S7 _ rfl) W oa.lim o1)) fun h1 => (eb_and (c := false) (eb_val (ed_within (S7 _ rfl) (S8 _ rfl) W o1 o2)) fun h2 => (eb_not (eb_val (ed_within (EvD.lim (S4 _ rfl)) (S8 _ rfl) W oa.lim o2))).eq
      (by rw [within_trans oa.lim.asc o1.asc h1 h2]; rfl)).eq (Bool.and_false _)).eq (Bool.and_false _)) z15 fun H15 z16 x16 => ?_
    refine seq_if0 (F := F) ((eb_and (c := false) (eb_val (ed_within (S7 _ rfl) (S8 _ rfl) W o1 o2)) fun h1 => (eb_and (c := false) (eb_val (ed_within (S8 _ rfl) (S7 _ rfl) W o2 o1)) fun h2 => (eb_test (ed_neLi (S7 _ rfl) (S8 _ rfl))).eq
      (by rw [decide_eq_true (within_anti o1.asc o2.asc h1 h2)]; rfl)).eq (Bool.and_false _)).eq (Bool.and_false _)) z16 fun H16 z17 x17 => ?_
    -- free
    refine seq_D (d := limD (free pa)) ((ed_tupleL (ds := (free pa).map lrD) ((ed_lcT (fun _ => true) (fun d => match d with | .tuple [x, _] => .tuple [x, .none] | _ => .none) (S4 _ rfl) (by rw [List.length_map]; have e := oa.len W; omega) fun d hd => ?_).eq ?_))) z17 fun v11 F G10 g11 d11 => ?_
    · obtain ⟨q, _, rfl⟩ := List.mem_map.mp hd
      exact turn_pair (fun v w => rfl) (fun _ _ _ _ _ _ => eb_yes) fun _ v' w' G x r1' r2' => ed_tup (eas_two (ed_var (sl rfl r1')) ed_non) (by show 2 ≤ 100000; decide)
    · rw [filter_yes, List.map_map]
      unfold free
      rw [List.map_map]
      rfl
    have S11 : ∀ σ : L2.St, σ[11]? = some (some v11) → EvD K F (tVar 11) σ (limD (free pa)) := fun σ e => ed_var (sl e d11)
    have T4 : ∀ σ : L2.St, σ[4]? = some (some v4) → EvD K F (tVar 4) σ (planD pa) := fun σ e => (S4 σ e).mono g11.ff
    have T7 : ∀ σ : L2.St, σ[7]? = some (some v7) → EvD K F (tVar 7) σ (limD t1) := fun σ e => (S7 σ e).mono g11.ff
    have nil1 : ∀ σ : L2.St, EvD K F (tTupZ tNil) σ (planD []) := fun σ => ed_tup eas_nil (Nat.zero_le _)
    have nil2 : ∀ σ : L2.St, EvD K F (tTupZ tNil) σ (limD []) := fun σ => ed_tup eas_nil (Nat.zero_le _)
    refine seq_if0 (F := F) ((eb_or (eb_not (eb_val (ed_within (EvD.lim (T4 _ rfl)) (S11 _ rfl) W oa.lim oa.free))) fun _ => eb_or (eb_test (ed_neB (ed_within (S11 _ rfl) (EvD.lim (T4 _ rfl)) W oa.free oa.lim) (ed_eqPl (T4 _ rfl) (nil1 _))))
      fun _ => eb_not (eb_val (ed_within (nil2 _) (T7 _ rfl) W .nil o1))).eq
      (by rw [within_free oa.asc, free_within, bne_self_eq_false]; rfl)) g11.fh fun H17 z18 x18 => ?_
    refine last_if0 (F := F) ((eb_and (c := false) (eb_val (ed_within (T7 _ rfl) (EvD.lim (T4 _ rfl)) W o1 oa.lim)) fun h => (eb_test (ed_neP (ed_lcT (fun d => match d with | .tuple [_, .none] => true | _ => false) (fun d => match d with | .tuple [x, _] => x | _ => .none) (T7 _ rfl) (by rw [List.length_map]; have e := o1.len W; omega) fun d hd => ?_) (ed_lst eas_nil (Nat.zero_le _)) ?_ rfl ?_)).eq ?_).eq (Bool.and_false _)) z18 fun H18 z19 x19 => ?_
    · obtain ⟨⟨x, e⟩, _, rfl⟩ := List.mem_map.mp hd
      refine turn_pair (fun v w => rfl) (fun v w G x r1 r2 => eb_test (ed_isN (ed_var (sl rfl r2)) ?_)) fun _ v' w' G x r1' r2' => ed_var (sl rfl r1')
      cases e <;> rfl
    · rw [no_none o1.asc h]
      rfl
    · rw [no_none o1.asc h]
      decide
    · rw [no_none o1.asc h]
      rfl
    · refine ⟨by omega, (ok11.ex (x12.trans (x13.trans (x14.trans (x15.trans (x16.trans (x17.trans (g11.hh.trans (x18.trans x19))))))))).mono (by omega), _, _, _, _, _, _, _, _, _, _, rfl⟩
end
end Cn
set_option Elab.async false
set_option linter.all false
set_option maxRecDepth 100000
namespace Cn
open PySem PySem.Spec PyProof.Rows L2
theorem all_mk {l : PySem.W.OpenLaw} {w : World} {K : PySem.W.Frag} {h : Heap} {mg : Str → Option Value} {fa : Addr} {f0 f1 f2 f3 f4 f5 f6 f7 f8 f9 f10 f11 f12 f13 f14 f15 f16 f17 fL : Addr} (X : K.In h) (G : h.Ns mainGlobals mg) (hfa : mg "law" = some (.ref fa))
    {od0 an0 od1 an1 od2 an2 od3 an3 od4 an4 od5 an5 od6 an6 od7 an7 od8 an8 od9 an9 od10 an10 od11 an11 od12 an12 od13 an13 od14 an14 od15 an15 od16 an16 od17 an17 odL anL : Option Addr} {sl0 sl1 sl2 sl3 sl4 sl5 sl6 sl7 sl8 sl9 sl10 sl11 sl12 sl13 sl14 sl15 sl16 sl17 slL : Array (Option Value)} {oc0 kV0 dc0 pm0 cd0 ct0 oc1 kV1 dc1 pm1 cd1 ct1 oc2 kV2 dc2 pm2 cd2 ct2 oc3 kV3 dc3 pm3 cd3 ct3 oc4 kV4 dc4 pm4 cd4 ct4 oc5 kV5 dc5 pm5 cd5 ct5 oc6 kV6 dc6 pm6 cd6 ct6 oc7 kV7 dc7 pm7 cd7 ct7 oc8 kV8 dc8 pm8 cd8 ct8 oc9 kV9 dc9 pm9 cd9 ct9 oc10 kV10 dc10 pm10 cd10 ct10 oc11 kV11 dc11 pm11 cd11 ct11 oc12 kV12 dc12 pm12 cd12 ct12 oc13 kV13 dc13 pm13 cd13 ct13 oc14 kV14 dc14 pm14 cd14 ct14 oc15 kV15 dc15 pm15 cd15 ct15 oc16 kV16 dc16 pm16 cd16 ct16 oc17 kV17 dc17 pm17 cd17 ct17 ocL kVL dcL pmL cdL ctL : Value} {tM : Tok}
    (a0 : PySem.W.nsIn K mainGlobals "is_number" = some (some (.ref f0))) (l0 : K.lookup f0 = some ⟨oc0, od0, .func (PySem.W.fnOf "is_number" "is_number" (defArgs s_is_number) (defBody s_is_number) (defScope s_is_number) .none kV0 dc0 pm0 an0 cd0 ct0), sl0⟩) (c0 : PySem.W.codeIn K cd0 "is_number" = true) (k0 : PySem.W.keepIn K (.ref f0) = true)
    (a1 : PySem.W.nsIn K mainGlobals "is_name" = some (some (.ref f1))) (l1 : K.lookup f1 = some ⟨oc1, od1, .func (PySem.W.fnOf "is_name" "is_name" (defArgs s_is_name) (defBody s_is_name) (defScope s_is_name) .none kV1 dc1 pm1 an1 cd1 ct1), sl1⟩) (c1 : PySem.W.codeIn K cd1 "is_name" = true) (k1 : PySem.W.keepIn K (.ref f1) = true)
    (a2 : PySem.W.nsIn K mainGlobals "is_list" = some (some (.ref f2))) (l2 : K.lookup f2 = some ⟨oc2, od2, .func (PySem.W.fnOf "is_list" "is_list" (defArgs s_is_list) (defBody s_is_list) (defScope s_is_list) .none kV2 dc2 pm2 an2 cd2 ct2), sl2⟩) (c2 : PySem.W.codeIn K cd2 "is_list" = true) (k2 : PySem.W.keepIn K (.ref f2) = true)
    (a3 : PySem.W.nsIn K mainGlobals "is_pair" = some (some (.ref f3))) (l3 : K.lookup f3 = some ⟨oc3, od3, .func (PySem.W.fnOf "is_pair" "is_pair" (defArgs s_is_pair) (defBody s_is_pair) (defScope s_is_pair) .none kV3 dc3 pm3 an3 cd3 ct3), sl3⟩) (c3 : PySem.W.codeIn K cd3 "is_pair" = true) (k3 : PySem.W.keepIn K (.ref f3) = true)
    (a4 : PySem.W.nsIn K mainGlobals "is_ascending" = some (some (.ref f4))) (l4 : K.lookup f4 = some ⟨oc4, od4, .func (PySem.W.fnOf "is_ascending" "is_ascending" (defArgs s_is_ascending) (defBody s_is_ascending) (defScope s_is_ascending) .none kV4 dc4 pm4 an4 cd4 ct4), sl4⟩) (c4 : PySem.W.codeIn K cd4 "is_ascending" = true) (k4 : PySem.W.keepIn K (.ref f4) = true)
    (a5 : PySem.W.nsIn K mainGlobals "has_names" = some (some (.ref f5))) (l5 : K.lookup f5 = some ⟨oc5, od5, .func (PySem.W.fnOf "has_names" "has_names" (defArgs s_has_names) (defBody s_has_names) (defScope s_has_names) .none kV5 dc5 pm5 an5 cd5 ct5), sl5⟩) (c5 : PySem.W.codeIn K cd5 "has_names" = true) (k5 : PySem.W.keepIn K (.ref f5) = true)
    (a6 : PySem.W.nsIn K mainGlobals "is_plan" = some (some (.ref f6))) (l6 : K.lookup f6 = some ⟨oc6, od6, .func (PySem.W.fnOf "is_plan" "is_plan" (defArgs s_is_plan) (defBody s_is_plan) (defScope s_is_plan) .none kV6 dc6 pm6 an6 cd6 ct6), sl6⟩) (c6 : PySem.W.codeIn K cd6 "is_plan" = true) (k6 : PySem.W.keepIn K (.ref f6) = true)
    (a7 : PySem.W.nsIn K mainGlobals "later" = some (some (.ref f7))) (l7 : K.lookup f7 = some ⟨oc7, od7, .func (PySem.W.fnOf "later" "later" (defArgs s_later) (defBody s_later) (defScope s_later) .none kV7 dc7 pm7 an7 cd7 ct7), sl7⟩) (c7 : PySem.W.codeIn K cd7 "later" = true) (k7 : PySem.W.keepIn K (.ref f7) = true)
    (a8 : PySem.W.nsIn K mainGlobals "joined" = some (some (.ref f8))) (l8 : K.lookup f8 = some ⟨oc8, od8, .func (PySem.W.fnOf "joined" "joined" (defArgs s_joined) (defBody s_joined) (defScope s_joined) .none kV8 dc8 pm8 an8 cd8 ct8), sl8⟩) (c8 : PySem.W.codeIn K cd8 "joined" = true) (k8 : PySem.W.keepIn K (.ref f8) = true)
    (a9 : PySem.W.nsIn K mainGlobals "is_limit" = some (some (.ref f9))) (l9 : K.lookup f9 = some ⟨oc9, od9, .func (PySem.W.fnOf "is_limit" "is_limit" (defArgs s_is_limit) (defBody s_is_limit) (defScope s_is_limit) .none kV9 dc9 pm9 an9 cd9 ct9), sl9⟩) (c9 : PySem.W.codeIn K cd9 "is_limit" = true) (k9 : PySem.W.keepIn K (.ref f9) = true)
    (a10 : PySem.W.nsIn K mainGlobals "is_within" = some (some (.ref f10))) (l10 : K.lookup f10 = some ⟨oc10, od10, .func (PySem.W.fnOf "is_within" "is_within" (defArgs s_is_within) (defBody s_is_within) (defScope s_is_within) .none kV10 dc10 pm10 an10 cd10 ct10), sl10⟩) (c10 : PySem.W.codeIn K cd10 "is_within" = true) (k10 : PySem.W.keepIn K (.ref f10) = true)
    (a11 : PySem.W.nsIn K mainGlobals "_is_room" = some (some (.ref f11))) (l11 : K.lookup f11 = some ⟨oc11, od11, .func (PySem.W.fnOf "_is_room" "_is_room" (defArgs s__is_room) (defBody s__is_room) (defScope s__is_room) .none kV11 dc11 pm11 an11 cd11 ct11), sl11⟩) (c11 : PySem.W.codeIn K cd11 "_is_room" = true) (k11 : PySem.W.keepIn K (.ref f11) = true)
    (a12 : PySem.W.nsIn K mainGlobals "_law_begun" = some (some (.ref f12))) (l12 : K.lookup f12 = some ⟨oc12, od12, .func (PySem.W.fnOf "_law_begun" "_law_begun" (defArgs s__law_begun) (defBody s__law_begun) (defScope s__law_begun) .none kV12 dc12 pm12 an12 cd12 ct12), sl12⟩) (c12 : PySem.W.codeIn K cd12 "_law_begun" = true) (k12 : PySem.W.keepIn K (.ref f12) = true)
    (a13 : PySem.W.nsIn K mainGlobals "_law_draw" = some (some (.ref f13))) (l13 : K.lookup f13 = some ⟨oc13, od13, .func (PySem.W.fnOf "_law_draw" "_law_draw" (defArgs s__law_draw) (defBody s__law_draw) (defScope s__law_draw) .none kV13 dc13 pm13 an13 cd13 ct13), sl13⟩) (c13 : PySem.W.codeIn K cd13 "_law_draw" = true) (k13 : PySem.W.keepIn K (.ref f13) = true)
    (a14 : PySem.W.nsIn K mainGlobals "_law_pick" = some (some (.ref f14))) (l14 : K.lookup f14 = some ⟨oc14, od14, .func (PySem.W.fnOf "_law_pick" "_law_pick" (defArgs s__law_pick) (defBody s__law_pick) (defScope s__law_pick) .none kV14 dc14 pm14 an14 cd14 ct14), sl14⟩) (c14 : PySem.W.codeIn K cd14 "_law_pick" = true) (k14 : PySem.W.keepIn K (.ref f14) = true)
    (a15 : PySem.W.nsIn K mainGlobals "_law_words" = some (some (.ref f15))) (l15 : K.lookup f15 = some ⟨oc15, od15, .func (PySem.W.fnOf "_law_words" "_law_words" (defArgs s__law_words) (defBody s__law_words) (defScope s__law_words) .none kV15 dc15 pm15 an15 cd15 ct15), sl15⟩) (c15 : PySem.W.codeIn K cd15 "_law_words" = true) (k15 : PySem.W.keepIn K (.ref f15) = true)
    (a16 : PySem.W.nsIn K mainGlobals "_law_row" = some (some (.ref f16))) (l16 : K.lookup f16 = some ⟨oc16, od16, .func (PySem.W.fnOf "_law_row" "_law_row" (defArgs s__law_row) (defBody s__law_row) (defScope s__law_row) .none kV16 dc16 pm16 an16 cd16 ct16), sl16⟩) (c16 : PySem.W.codeIn K cd16 "_law_row" = true) (k16 : PySem.W.keepIn K (.ref f16) = true)
    (a17 : PySem.W.nsIn K mainGlobals "_law_bound" = some (some (.ref f17))) (l17 : K.lookup f17 = some ⟨oc17, od17, .func (PySem.W.fnOf "_law_bound" "_law_bound" (defArgs s__law_bound) (defBody s__law_bound) (defScope s__law_bound) .none kV17 dc17 pm17 an17 cd17 ct17), sl17⟩) (c17 : PySem.W.codeIn K cd17 "_law_bound" = true) (k17 : PySem.W.keepIn K (.ref f17) = true)
    (aL : PySem.W.nsIn K mainGlobals "law" = some (some (.ref fL))) (lL : K.lookup fL = some ⟨ocL, odL, .func (PySem.W.fnOf "law" "law" (defArgs s_law) (defBody s_law) (defScope s_law) .none kVL dcL pmL anL cdL ctL), slL⟩) (cL : PySem.W.codeIn K cdL "law" = true) (kL : PySem.W.keepIn K (.ref fL) = true)
    (aM : PySem.W.nsIn K mainGlobals "MOST_LETTERS" = some (some (.int 6 tM)))
    (z0 : PySem.W.nsIn K mainGlobals "isinstance" = some none) (z1 : PySem.W.nsIn K mainGlobals "int" = some none) (z2 : PySem.W.nsIn K mainGlobals "bool" = some none) (z3 : PySem.W.nsIn K mainGlobals "str" = some none) (z4 : PySem.W.nsIn K mainGlobals "list" = some none) (z5 : PySem.W.nsIn K mainGlobals "tuple" = some none) (z6 : PySem.W.nsIn K mainGlobals "dict" = some none) (z7 : PySem.W.nsIn K mainGlobals "len" = some none) (z8 : PySem.W.nsIn K mainGlobals "all" = some none) (z9 : PySem.W.nsIn K mainGlobals "range" = some none) (z10 : PySem.W.nsIn K mainGlobals "max" = some none) (z11 : PySem.W.nsIn K mainGlobals "min" = some none) (z12 : PySem.W.nsIn K mainGlobals "abs" = some none) (z13 : PySem.W.nsIn K mainGlobals "sorted" = some none) (z14 : PySem.W.nsIn K mainGlobals "enumerate" = some none) :
    ∃ fd : FuncData, (∀ (s : Shared) (v : Value), BindsTo s fd ⟨[v], []⟩ [("_law_script", v)]) ∧ ∀ base : Heap, K.In base → base.Ns mainGlobals mg → FnOk l.prog w K mg base CX0 6 fa fd ["_law_script"] (spLaw K) := by
  have e := hfa.symm.trans (PySem.W.mg_of X G aL)
  cases e
  have T : Txt mg := ⟨PySem.W.mg_none_of X G z0, PySem.W.mg_none_of X G z1, PySem.W.mg_none_of X G z2, PySem.W.mg_none_of X G z3, PySem.W.mg_none_of X G z4, PySem.W.mg_none_of X G z5, PySem.W.mg_none_of X G z6, PySem.W.mg_none_of X G z7, PySem.W.mg_none_of X G z8, PySem.W.mg_none_of X G z9, PySem.W.mg_none_of X G z10, PySem.W.mg_none_of X G z11, PySem.W.mg_none_of X G z12, PySem.W.mg_none_of X G z13, PySem.W.mg_none_of X G z14, ⟨tM, PySem.W.mg_of X G aM⟩⟩
  have F0 : Fg K mg "is_number" s_is_number := ⟨f0, _, PySem.W.mg_of X G a0, fun_mk (st := s_is_number) l0 c0 k0⟩
  have F1 : Fg K mg "is_name" s_is_name := ⟨f1, _, PySem.W.mg_of X G a1, fun_mk (st := s_is_name) l1 c1 k1⟩
  have F2 : Fg K mg "is_list" s_is_list := ⟨f2, _, PySem.W.mg_of X G a2, fun_mk (st := s_is_list) l2 c2 k2⟩
  have F3 : Fg K mg "is_pair" s_is_pair := ⟨f3, _, PySem.W.mg_of X G a3, fun_mk (st := s_is_pair) l3 c3 k3⟩
  have F4 : Fg K mg "is_ascending" s_is_ascending := ⟨f4, _, PySem.W.mg_of X G a4, fun_mk (st := s_is_ascending) l4 c4 k4⟩
  have F5 : Fg K mg "has_names" s_has_names := ⟨f5, _, PySem.W.mg_of X G a5, fun_mk (st := s_has_names) l5 c5 k5⟩
  have F6 : Fg K mg "is_plan" s_is_plan := ⟨f6, _, PySem.W.mg_of X G a6, fun_mk (st := s_is_plan) l6 c6 k6⟩
  have F7 : Fg K mg "later" s_later := ⟨f7, _, PySem.W.mg_of X G a7, fun_mk (st := s_later) l7 c7 k7⟩
  have F8 : Fg K mg "joined" s_joined := ⟨f8, _, PySem.W.mg_of X G a8, fun_mk (st := s_joined) l8 c8 k8⟩
  have F9 : Fg K mg "is_limit" s_is_limit := ⟨f9, _, PySem.W.mg_of X G a9, fun_mk (st := s_is_limit) l9 c9 k9⟩
  have F10 : Fg K mg "is_within" s_is_within := ⟨f10, _, PySem.W.mg_of X G a10, fun_mk (st := s_is_within) l10 c10 k10⟩
  have F11 : Fg K mg "_is_room" s__is_room := ⟨f11, _, PySem.W.mg_of X G a11, fun_mk (st := s__is_room) l11 c11 k11⟩
  have F12 : Fg K mg "_law_begun" s__law_begun := ⟨f12, _, PySem.W.mg_of X G a12, fun_mk (st := s__law_begun) l12 c12 k12⟩
  have F13 : Fg K mg "_law_draw" s__law_draw := ⟨f13, _, PySem.W.mg_of X G a13, fun_mk (st := s__law_draw) l13 c13 k13⟩
  have F14 : Fg K mg "_law_pick" s__law_pick := ⟨f14, _, PySem.W.mg_of X G a14, fun_mk (st := s__law_pick) l14 c14 k14⟩
  have F15 : Fg K mg "_law_words" s__law_words := ⟨f15, _, PySem.W.mg_of X G a15, fun_mk (st := s__law_words) l15 c15 k15⟩
  have F16 : Fg K mg "_law_row" s__law_row := ⟨f16, _, PySem.W.mg_of X G a16, fun_mk (st := s__law_row) l16 c16 k16⟩
  have F17 : Fg K mg "_law_bound" s__law_bound := ⟨f17, _, PySem.W.mg_of X G a17, fun_mk (st := s__law_bound) l17 c17 k17⟩
  have FL := fun_mk (st := s_law) lL cL kL
  refine ⟨PySem.W.fnOf "law" "law" (defArgs s_law) (defBody s_law) (defScope s_law) .none kVL dcL pmL anL cdL ctL, fun s v => .of_eq rfl, fun base _ _ => ?_⟩
  exact ok_law FL T F0 F1 F2 F3 F4 F5 F6 F7 F8 F9 F10 F11 F12 F13 F14 F15 F16 F17
end Cn
open PySem PySem.W PyProof.Rows
set_option maxHeartbeats 0
theorem PySem.Challenge.cw_cornerplans_k04_whole_joins_and_limits_holds : PySem.Challenge.rw_cornerplans_k04_whole_joins_and_limits.Holds := by
  w_on; o_law; k_head; (case hw => w_witness2)
  k_fill
  refine L2.walk_of (l := PySem.Challenge.rw_cornerplans_k04_whole_joins_and_limits) (n := 63) (k := 6) (x := "_law_script") (CX := fun _ => L2.CX0) (sp := fun w => Cn.spLaw _)
    rfl (by decide) rfl ⟨rfl, by decide, by decide⟩ (fun w h Y => PySem.W.kIn_of Y) ?F (fun _ _ a ns hl _ hS => ⟨a, ns, rfl, hS, hl, fun _ => rfl⟩) (fun _ _ _ _ _ z => z)
  case F =>
    intro w mg fa h KX G hmg
    refine' Cn.all_mk KX G hmg ?a0 ?l0 ?c0 ?k0 ?a1 ?l1 ?c1 ?k1 ?a2 ?l2 ?c2 ?k2 ?a3 ?l3 ?c3 ?k3 ?a4 ?l4 ?c4 ?k4 ?a5 ?l5 ?c5 ?k5 ?a6 ?l6 ?c6 ?k6 ?a7 ?l7 ?c7 ?k7 ?a8 ?l8 ?c8 ?k8 ?a9 ?l9 ?c9 ?k9 ?a10 ?l10 ?c10 ?k10 ?a11 ?l11 ?c11 ?k11 ?a12 ?l12 ?c12 ?k12 ?a13 ?l13 ?c13 ?k13 ?a14 ?l14 ?c14 ?k14 ?a15 ?l15 ?c15 ?k15 ?a16 ?l16 ?c16 ?k16 ?a17 ?l17 ?c17 ?k17 ?aL ?lL ?cL ?kL ?aM ?z0 ?z1 ?z2 ?z3 ?z4 ?z5 ?z6 ?z7 ?z8 ?z9 ?z10 ?z11 ?z12 ?z13 ?z14
    (case a0 => k_is); (case l0 => k_is); (case c0 => k_is); (case k0 => k_is); (case a1 => k_is); (case l1 => k_is); (case c1 => k_is); (case k1 => k_is)
    (case a2 => k_is); (case l2 => k_is); (case c2 => k_is); (case k2 => k_is); (case a3 => k_is); (case l3 => k_is); (case c3 => k_is); (case k3 => k_is)
    (case a4 => k_is); (case l4 => k_is); (case c4 => k_is); (case k4 => k_is); (case a5 => k_is); (case l5 => k_is); (case c5 => k_is); (case k5 => k_is)
    (case a6 => k_is); (case l6 => k_is); (case c6 => k_is); (case k6 => k_is); (case a7 => k_is); (case l7 => k_is); (case c7 => k_is); (case k7 => k_is)
    (case a8 => k_is); (case l8 => k_is); (case c8 => k_is); (case k8 => k_is); (case a9 => k_is); (case l9 => k_is); (case c9 => k_is); (case k9 => k_is)
    (case a10 => k_is); (case l10 => k_is); (case c10 => k_is); (case k10 => k_is); (case a11 => k_is); (case l11 => k_is); (case c11 => k_is); (case k11 => k_is)
    (case a12 => k_is); (case l12 => k_is); (case c12 => k_is); (case k12 => k_is); (case a13 => k_is); (case l13 => k_is); (case c13 => k_is); (case k13 => k_is)
    (case a14 => k_is); (case l14 => k_is); (case c14 => k_is); (case k14 => k_is); (case a15 => k_is); (case l15 => k_is); (case c15 => k_is); (case k15 => k_is)
    (case a16 => k_is); (case l16 => k_is); (case c16 => k_is); (case k16 => k_is); (case a17 => k_is); (case l17 => k_is); (case c17 => k_is); (case k17 => k_is)
    (case aL => k_is); (case lL => k_is); (case cL => k_is); (case kL => k_is); (case aM => k_is); (case z0 => k_is); (case z1 => k_is); (case z2 => k_is)
    (case z3 => k_is); (case z4 => k_is); (case z5 => k_is); (case z6 => k_is); (case z7 => k_is); (case z8 => k_is); (case z9 => k_is); (case z10 => k_is)
    (case z11 => k_is); (case z12 => k_is); (case z13 => k_is); (case z14 => k_is)
