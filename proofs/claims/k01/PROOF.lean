import PyProof.Rows.All
import Wide.All
import OpenK.AllK
import Wide.FinOn
import HandS.ForMost
import HandS.Evl
import HandS.IsInst
import HandS.StrMore
import HandS.ListItems
import KE.SortData
import KE.Datum
import HandS.DictTup
import HandS.Keys
import KE.KDictPairs
import KE.KItemsList
import KE.DatumOrd
import KE.DataEq
import KE.DatumMore
import HandS.Exc
import HandS.ExcIs
import HandS.ExcField
import HandS.Lambda
import KE.KExcIs
import HandS.EndTab
import KE.KNestM
import HandS.ExcInit
import KE.KExcSuper
import KE.KSuper
import HandS.ExcValue
import HandS.TupAny
import KE.DataFind
import HandS.Walk
import HandS.SetFor
import KE.OsSortAny
import HandS.TupSets
import KE.KeyNested
import KE.GoesMore
import KE.GoesEnum
import HandS.Style
import HandS.Wide
import HandS.Deep
import HandS.Zip
import HandS.NoneIn
import HandS.DictComp
import PyProof.Rows.StrIntSpec
import PyProof.ReprLen
import HandS.OwnEq
import HandS.Property
import HandS.Defaults
import HandS.MakeKw
import OpenK.KMeth
import OpenK.KOps
import HandS.SortKw
import KE.DataMinMax
import KE.KOpsOwn
import PyProof.EqKinds
import KE.KOwnIter
import HandS.IterVal
import HandS.Star
import HandS.Iter
import KE.KDictZip
import KE.KDictItemsList
import KE.KTurns
import HandS.Comp
import HandS.Conv
import PyProof.NeKinds
import PyProof.Rows.Range3
import HandS.DeepEq
import HandS.WordsDict
import KE.KEqDict
import KE.KIntText
import PyProof.Rows.StrDigitsNeg
import PySem.Challenge.RW_cornerplans_k01_errors_by_hand
import KE.RegKSuper
import KE.HD2
section
set_option Elab.async false
set_option linter.all false
set_option maxRecDepth 100000
open PySem PySem.W PyProof.Rows
set_option maxHeartbeats 0
local macro_rules | `(tactic| o_head $H) => `(tactic| (have zz := Hook.obs $H; clear zz; assumption))
theorem Hd.h0 (a : (PySem.Challenge.rw_cornerplans_k01_errors_by_hand).row.Holds) : (PySem.Challenge.rw_cornerplans_k01_errors_by_hand).row.Holds := by k_head
namespace Hd
open HeadRun PySem.Calls PySem PySem.W PyProof.Rows
def keepB : List Bool → List Stmt → List Stmt
  | b :: bs, s :: ss => if b then s :: keepB bs ss else keepB bs ss
  | _, _ => []
abbrev P : Program := PySem.Challenge.pw_cornerplans_k01_errors_by_hand
abbrev rec := RowW.records ((PySem.Challenge.rw_cornerplans_k01_errors_by_hand).row).toRowW
def vw : Program := { P with main := { P.main with body := keepB [false, true, true, true, true, true, true, true, true, true, true, true, true, true, true, true, true, true, true, true, true, true, true, true, true, true, true, true, true, true, true, true, true, true, true, true, true, true, true, false, true, true, true, true, true, true, true, true, true] P.main.body } }
def ls : List PySem.Str := []
def asl : List Addr := [2, 3, 15, 22, 23, 24, 25, 28, 35, 36, 37, 40, 43, 48, 49, 51, 52, 54, 55, 56, 57, 58, 61, 68, 69, 70, 73, 80, 81, 82, 85, 92, 93, 94, 97, 100, 105, 106, 108, 109, 111, 112, 113, 114, 115, 118, 121, 126, 127, 129, 130, 132, 133, 134, 135, 136, 139, 142, 147, 148, 150, 151, 153, 154, 155, 156, 157, 160, 167, 168, 169, 172, 175, 180, 181, 183, 184, 186, 187, 188, 189, 190, 193, 200, 201, 202, 205, 212, 213, 214, 217, 224, 225, 226, 229, 232, 237, 238, 240, 241, 243, 244, 245, 246, 247, 250, 253, 258, 259, 261, 262, 264, 265, 266, 267, 268, 271, 274, 279, 280, 282, 283, 285, 286, 287, 288, 289, 292, 295, 300, 301, 303, 304, 306, 307, 308, 309, 310, 313, 316, 321, 322, 324, 325, 327, 328, 329, 330, 331, 334, 341, 342, 343, 346, 349, 354, 355, 357, 358, 360, 361, 362, 363, 364, 367, 370, 375, 376, 378, 379, 381, 382, 383, 384, 385, 388, 395, 396, 397, 400, 403, 408, 409, 411, 412, 414, 415, 416, 417, 418, 421, 428, 429, 430, 433, 436, 441, 442, 444, 445, 447, 448, 449, 450, 451, 454, 457, 462, 463, 465, 466, 468, 469, 470, 471, 472, 475, 482, 483, 484, 487, 490, 495, 496, 498, 499, 501, 502, 503, 504, 505, 508, 515, 516, 517, 520, 527, 528, 529, 532, 535, 540, 541, 543, 544, 546, 547, 548, 549, 550, 553, 556, 561, 562, 564, 565, 567, 568, 569, 570, 571, 574, 577, 582, 583, 585, 586, 588, 589, 590, 591, 592, 595, 602, 603, 604, 607, 614, 615, 616, 619, 626, 627, 628, 631, 634, 639, 640, 642, 643, 645, 646, 647, 648, 649, 652, 655, 656, 657, 659, 660, 662, 663, 664, 666, 667, 669, 670, 671, 673, 674, 676, 677, 678, 680, 681, 683, 684, 685, 687, 688, 690, 691, 692, 694, 695, 697, 698, 699, 701, 702, 704, 705, 706, 709, 710]
def ts : List Addr := []
def Xt (s : Shared) : Bool := xlAt vw [] s && recOk rec s
noncomputable def sn (s : SharedT) := seenQ vw ls (importedModules P.main.body) Xt s.abs
noncomputable abbrev run (w : World) (os : OsState) : Option SharedT := endF (stepQ (denQ tabQ) P w) 9394 P w os
/-- what holds of the state behind the top -/
def At {α : Type} (f : World → SharedT → α) (v : World → α) (w : World) : Prop := ∀ os : OsState, (run w os).map (f w) = some (v w)
theorem At.and {α β : Type} {f : World → SharedT → α} {v : World → α} {g : World → SharedT → β} {u : World → β} {w : World} (a : At f v w) (b : At g u w) : At (fun w s => (f w s, g w s)) (fun w => (v w, u w)) w := fun os => by
  have x := a os
  have y := b os
  revert x y
  generalize run w os = o
  intro x y
  cases o with
  | none => cases x
  | some s =>
    have x1 : f w s = v w := Option.some.inj x
    have y1 : g w s = u w := Option.some.inj y
    show some (f w s, g w s) = _
    rw [x1, y1]
theorem At.pr {α β : Type} {f : World → SharedT → α} {v : World → α} {g : World → SharedT → β} {u : World → β} {w : World} (h : At (fun w s => (f w s, g w s)) (fun w => (v w, u w)) w) : At f v w ∧ At g u w := by
  refine ⟨fun os => ?_, fun os => ?_⟩
  all_goals
    have x := h os
    revert x
    generalize run w os = o
    intro x
    cases o with
    | none => cases x
    | some s =>
      have y := Option.some.inj x
      first | exact congrArg some (Prod.mk.inj y).1 | exact congrArg some (Prod.mk.inj y).2
theorem left_km {K : Params → Frag} {as ts : List Addr} {ek : ∀ P, as = (K P).map (·.1)} {N : Nat}
    (e : opening P = plainProg P.main.scope.names) (hN : Nat.ble 600 N = true) (f : ∀ s, fenceModules? P s = some s) (le : Nat.ble 9394 N = true)
    (l0 : ∀ w, At (fun w s => looksF P (boot_heap w.params) s.abs) (fun _ => true) w) (s0 : ∀ w, At (fun _ s => sn s) (fun _ => openGood vw ls) w)
    (k0 : ∀ w, At (fun _ s => (as.map (getT s), ts.map (getT s))) (fun w => ((K w.params).map fun x => some x.2, ts.map fun _ => some (tabObj #[]))) w) :
    LeftO P vw ls Xt (Hook.obs (kmHook K as ek ts)) (Hook.val (kmHook K as ek ts)) N true :=
  left_one (M := 9394) e hN f le fun w os => by
    have z := ((l0 w).and ((s0 w).and (k0 w))) os
    have eo : (fun s : SharedT => (looksF P (boot_heap w.params) s.abs, sn s, (as.map (getT s), ts.map (getT s)))) = fun s => (looksF P (boot_heap w.params) s.abs, seenQ vw ls (importedModules P.main.body) Xt s.abs, Hook.obs (kmHook K as ek ts) s.abs) := by
      funext s
      have q1 : (as.map (getT s), ts.map (getT s)) = Hook.obs (kmHook K as ek ts) s.abs := by
        show (as.map (getT s), ts.map (getT s)) = (as.map s.abs.heap.get?, ts.map s.abs.heap.get?)
        rw [List.map_congr_left fun a _ => getT_eq s a, List.map_congr_left fun a _ => getT_eq s a]
      rw [q1]
      rfl
    have z1 : (run w os).map (fun s : SharedT => (looksF P (boot_heap w.params) s.abs, sn s, (as.map (getT s), ts.map (getT s)))) = _ := z
    rw [eo] at z1
    simp only [endQ_eq, seenQ_eq]
    exact z1
theorem ek : ∀ P, asl = (Hd.h0.heap_1 P).map (·.1) := fun _ => by kernel_rfl
theorem m_false (w : World) : At (fun w s => (looksF P (boot_heap w.params) s.abs, (sn s).2.1, (sn s).2.2.2.2.1, (asl.map (getT s), ts.map (getT s)))) (fun w => (true, bltViewBooted, pinGoodD (drecsOf vw), ((Hd.h0.heap_1 w.params).map fun x => some x.2, ts.map fun _ => some (tabObj #[])))) (w.withFollow "special-get-raises" false) := fun os => by kernel_rfl
theorem l_false (w : World) : At (fun w s => looksF P (boot_heap w.params) s.abs) (fun _ => true) (w.withFollow "special-get-raises" false) := (m_false w).pr.1
theorem c1_false (w : World) : At (fun _ s => (sn s).2.1) (fun _ => bltViewBooted) (w.withFollow "special-get-raises" false) := (m_false w).pr.2.pr.1
theorem c4_false (w : World) : At (fun _ s => (sn s).2.2.2.2.1) (fun _ => pinGoodD (drecsOf vw)) (w.withFollow "special-get-raises" false) := (m_false w).pr.2.pr.2.pr.1
theorem k_false (w : World) : At (fun _ s => (asl.map (getT s), ts.map (getT s))) (fun w => ((Hd.h0.heap_1 w.params).map fun x => some x.2, ts.map fun _ => some (tabObj #[]))) (w.withFollow "special-get-raises" false) := (m_false w).pr.2.pr.2.pr.2
theorem c0_false (w : World) : At (fun _ s => (sn s).1) (fun _ => expectedOf vw) (w.withFollow "special-get-raises" false) := fun os => by kernel_rfl
theorem c2_false (w : World) : At (fun _ s => (sn s).2.2.1) (fun _ => true) (w.withFollow "special-get-raises" false) := fun os => by kernel_rfl
theorem c3_false (w : World) : At (fun _ s => (sn s).2.2.2.1) (fun _ => true) (w.withFollow "special-get-raises" false) := fun os => by kernel_rfl
theorem c5_false (w : World) : At (fun _ s => (sn s).2.2.2.2.2.1) (fun _ => plainGoodE vw (looseW vw ls)) (w.withFollow "special-get-raises" false) := fun os => by kernel_rfl
theorem c6_false (w : World) : At (fun _ s => (sn s).2.2.2.2.2.2.1) (fun _ => plainGoodD vw ls) (w.withFollow "special-get-raises" false) := fun os => by kernel_rfl
theorem c7_false (w : World) : At (fun _ s => (sn s).2.2.2.2.2.2.2.1) (fun _ => wideGood vw) (w.withFollow "special-get-raises" false) := fun os => by kernel_rfl
theorem c8_false (w : World) : At (fun _ s => (sn s).2.2.2.2.2.2.2.2) (fun _ => clsGoodW vw ls) (w.withFollow "special-get-raises" false) := fun os => by kernel_rfl
theorem s_false (w : World) : At (fun _ s => sn s) (fun _ => openGood vw ls) (w.withFollow "special-get-raises" false) := (c0_false w).and ((c1_false w).and ((c2_false w).and ((c3_false w).and ((c4_false w).and ((c5_false w).and ((c6_false w).and ((c7_false w).and (c8_false w))))))))
theorem m_true (w : World) : At (fun w s => (looksF P (boot_heap w.params) s.abs, (sn s).2.1, (sn s).2.2.2.2.1, (asl.map (getT s), ts.map (getT s)))) (fun w => (true, bltViewBooted, pinGoodD (drecsOf vw), ((Hd.h0.heap_1 w.params).map fun x => some x.2, ts.map fun _ => some (tabObj #[])))) (w.withFollow "special-get-raises" true) := fun os => by kernel_rfl
theorem l_true (w : World) : At (fun w s => looksF P (boot_heap w.params) s.abs) (fun _ => true) (w.withFollow "special-get-raises" true) := (m_true w).pr.1
theorem c1_true (w : World) : At (fun _ s => (sn s).2.1) (fun _ => bltViewBooted) (w.withFollow "special-get-raises" true) := (m_true w).pr.2.pr.1
theorem c4_true (w : World) : At (fun _ s => (sn s).2.2.2.2.1) (fun _ => pinGoodD (drecsOf vw)) (w.withFollow "special-get-raises" true) := (m_true w).pr.2.pr.2.pr.1
theorem k_true (w : World) : At (fun _ s => (asl.map (getT s), ts.map (getT s))) (fun w => ((Hd.h0.heap_1 w.params).map fun x => some x.2, ts.map fun _ => some (tabObj #[]))) (w.withFollow "special-get-raises" true) := (m_true w).pr.2.pr.2.pr.2
theorem c0_true (w : World) : At (fun _ s => (sn s).1) (fun _ => expectedOf vw) (w.withFollow "special-get-raises" true) := fun os => by kernel_rfl
theorem c2_true (w : World) : At (fun _ s => (sn s).2.2.1) (fun _ => true) (w.withFollow "special-get-raises" true) := fun os => by kernel_rfl
theorem c3_true (w : World) : At (fun _ s => (sn s).2.2.2.1) (fun _ => true) (w.withFollow "special-get-raises" true) := fun os => by kernel_rfl
theorem c5_true (w : World) : At (fun _ s => (sn s).2.2.2.2.2.1) (fun _ => plainGoodE vw (looseW vw ls)) (w.withFollow "special-get-raises" true) := fun os => by kernel_rfl
theorem c6_true (w : World) : At (fun _ s => (sn s).2.2.2.2.2.2.1) (fun _ => plainGoodD vw ls) (w.withFollow "special-get-raises" true) := fun os => by kernel_rfl
theorem c7_true (w : World) : At (fun _ s => (sn s).2.2.2.2.2.2.2.1) (fun _ => wideGood vw) (w.withFollow "special-get-raises" true) := fun os => by kernel_rfl
theorem c8_true (w : World) : At (fun _ s => (sn s).2.2.2.2.2.2.2.2) (fun _ => clsGoodW vw ls) (w.withFollow "special-get-raises" true) := fun os => by kernel_rfl
theorem s_true (w : World) : At (fun _ s => sn s) (fun _ => openGood vw ls) (w.withFollow "special-get-raises" true) := (c0_true w).and ((c1_true w).and ((c2_true w).and ((c3_true w).and ((c4_true w).and ((c5_true w).and ((c6_true w).and ((c7_true w).and (c8_true w))))))))
theorem l_ (w : World) : At (fun w s => looksF P (boot_heap w.params) s.abs) (fun _ => true) w := byRow2 "special-get-raises" (P := At (fun w s => looksF P (boot_heap w.params) s.abs) (fun _ => true)) l_false l_true w
theorem s_ (w : World) : At (fun _ s => sn s) (fun _ => openGood vw ls) w := byRow2 "special-get-raises" (P := At (fun _ s => sn s) (fun _ => openGood vw ls)) s_false s_true w
theorem k_ (w : World) : At (fun _ s => (asl.map (getT s), ts.map (getT s))) (fun w => ((Hd.h0.heap_1 w.params).map fun x => some x.2, ts.map fun _ => some (tabObj #[]))) w := byRow2 "special-get-raises" (P := At (fun _ s => (asl.map (getT s), ts.map (getT s))) (fun w => ((Hd.h0.heap_1 w.params).map fun x => some x.2, ts.map fun _ => some (tabObj #[])))) k_false k_true w
theorem left : LeftO P vw ls Xt (Hook.obs (kmHook Hd.h0.heap_1 asl ek [])) (Hook.val (kmHook Hd.h0.heap_1 asl ek [])) 18788 true := left_km (by kernel_rfl) (by rfl) (fun s => by kernel_rfl) (by rfl) l_ s_ k_
end Hd
end
set_option Elab.async false
set_option linter.all false
set_option maxRecDepth 100000
set_option maxHeartbeats 4000000
namespace Cn
open PySem PySem.Spec PyProof.Rows L2
abbrev D := PyData
abbrev Ex := Evl.Ex
variable {K : PySem.W.Frag}
/-- a tuple that is written nowhere, with no dict of its own -/
def TupZ (K : PySem.W.Frag) (H : Hp) (a : Addr) (xs : List V) : Prop := (∃ o, H a = some (.frz o (.tup xs)) ∧ o.dict = none) ∨
  ∃ (o : Obj) (its : Array Value) (n : Nat), K.lookup a = some o ∧ o.cls = .type "tuple" ∧ o.dict = none ∧ o.data = .seq its n ∧ its.size ≤ sizeLine ∧ Vals xs its.toList
theorem TupZ.sq {H : Hp} {a : Addr} {xs : List V} (h : TupZ K H a xs) : SqT K H a xs := by
  rcases h with ⟨o, h, _⟩ | ⟨o, its, n, h1, h2, _, h3⟩
  · exact .inl (.inr ⟨o, h⟩)
  · exact .inr ⟨o, its, n, h1, h2, h3⟩
theorem TupZ.ex {H G : Hp} {a : Addr} {xs : List V} (e : Ex H G) (h : TupZ K H a xs) : TupZ K G a xs := by
  rcases h with ⟨o, h, d⟩ | h
  · exact .inl ⟨o, e a _ h, d⟩
  · exact .inr h
theorem TupZ.of {H : Hp} {a : Addr} {xs : List V} {o : Obj} (h : H a = some (.frz o (.tup xs))) (d : o.dict = none) : TupZ K H a xs := .inl ⟨o, h, d⟩
mutual
inductive Dz (K : PySem.W.Frag) (H : Hp) : V → D → Prop
  | non : Dz K H .non .none
  | bl (b : Bool) : Dz K H (.bl b) (.bool b)
  | int (i : Int) : Dz K H (.int i) (.int i)
  | str (x : Str) : Dz K H (.str x) (.str x)
  | lst {a : Addr} {xs : List V} {ds : List D} : SqL K H a xs → DzAll K H xs ds → Dz K H (.ref a) (.list ds)
  | tup {a : Addr} {xs : List V} {ds : List D} : TupZ K H a xs → DzAll K H xs ds → Dz K H (.ref a) (.tuple ds)
  /-- a dict, of which nothing is told but that it is one -/
  | dct {a : Addr} {kvs : List (Key × V)} : H a = some (.dK kvs) → Dz K H (.ref a) (.dict [])
inductive DzAll (K : PySem.W.Frag) (H : Hp) : List V → List D → Prop
  | nil : DzAll K H [] []
  | cons {v : V} {vs : List V} {d : D} {ds : List D} : Dz K H v d → DzAll K H vs ds → DzAll K H (v :: vs) (d :: ds)
end
mutual
theorem Dz.dp {H : Hp} : ∀ {v : V} {d : D}, Dz K H v d → d.hasDict = false → Dp K H v d
  | _, _, .non, _ => .non
  | _, _, .bl b, _ => .bl b
  | _, _, .int i, _ => .int i
  | _, _, .str x, _ => .str x
  | _, _, .lst h t, n => .lst h (DzAll.dp t (by simpa [PyData.hasDict] using n))
  | _, _, .tup h t, n => .tup h.sq (DzAll.dp t (by simpa [PyData.hasDict] using n))
  | _, _, .dct _, n => by simp [PyData.hasDict] at n
theorem DzAll.dp {H : Hp} : ∀ {vs : List V} {ds : List D}, DzAll K H vs ds → PyData.hasDictAll ds = false → DpAll K H vs ds
  | _, _, .nil, _ => .nil
  | _, _, .cons h t, n => by
    rw [PyData.hasDictAll, Bool.or_eq_false_iff] at n
    exact .cons (Dz.dp h n.1) (DzAll.dp t n.2)
end
mutual
theorem dp_ex {F G : Hp} (e : Ex F G) : ∀ {v : V} {d : D}, Dz K F v d → Dz K G v d
  | _, _, .non => .non
  | _, _, .bl b => .bl b
  | _, _, .int i => .int i
  | _, _, .str x => .str x
  | _, _, .lst h t => .lst (Evl.ex_l e h) (dpa_ex e t)
  | _, _, .tup h t => .tup (h.ex e) (dpa_ex e t)
  | _, _, .dct h => .dct (e _ _ h)
theorem dpa_ex {F G : Hp} (e : Ex F G) : ∀ {vs : List V} {ds : List D}, DzAll K F vs ds → DzAll K G vs ds
  | _, _, .nil => .nil
  | _, _, .cons h t => .cons (dp_ex e h) (dpa_ex e t)
end
/-- F2 above F, H2 above H; what H knew and F did not, F2 does not know either -/
structure Grow (F H F2 H2 : Hp) : Prop where
  ff : Ex F F2
  fh : Ex F2 H2
  hh : Ex H H2
  nw : ∀ b o, H b = some o → F b = none → F2 b = none
  nt : (∀ b ps, F b ≠ some (.tbl ps)) → ∀ b ps, F2 b ≠ some (.tbl ps)
theorem Grow.refl {F H : Hp} (h : Ex F H) : Grow F H F H := ⟨Evl.Ex.refl _, h, Evl.Ex.refl _, fun _ _ _ q => q, fun h => h⟩
theorem Grow.trans {F H F1 H1 F2 H2 : Hp} (a : Grow F H F1 H1) (b : Grow F1 H1 F2 H2) : Grow F H F2 H2 :=
  ⟨a.ff.trans b.ff, b.fh, a.hh.trans b.hh, fun c o h q => b.nw c o (a.hh c o h) (a.nw c o h q), fun h => b.nt (a.nt h)⟩
theorem Grow.new {F H : Hp} {p : Addr} {o : HO} (e : Ex F H) (h : H p = none) (ht : ∀ ps, o ≠ .tbl ps := by intro ps e; cases e) : Grow F H (upd F p o) (upd H p o) := by
  have hf : F p = none := Evl.fresh_back e h
  refine ⟨Evl.Ex.new hf, fun a u q => ?_, Evl.Ex.new h, fun b u q z => ?_, fun hn b ps z => ?_⟩
  · by_cases c : a = p
    · subst c
      rw [upd_same] at q ⊢
      exact q
    · rw [upd_ne c] at q ⊢
      exact e a u q
  · rw [upd_ne (ne_of_none q h)]
    exact z
  · by_cases c : b = p
    · subst c
      rw [upd_same] at z
      exact ht ps (Option.some.inj z)
    · rw [upd_ne c] at z
      exact hn b ps z
/-- an object is made and stays one's own -/
theorem Grow.tmp {F H : Hp} {p : Addr} {o : HO} (e : Ex F H) (h : H p = none) : Grow F H F (upd H p o) :=
  ⟨Evl.Ex.refl _, e.trans (Evl.Ex.new h), Evl.Ex.new h, fun _ _ _ q => q, fun h => h⟩
def EvD (K : PySem.W.Frag) (F : Hp) (te : TE) (σ : L2.St) (d : D) : Prop := ∀ F1 H1, Ex F F1 → Ex F1 H1 → ∀ Q : VK, (∀ v F2 H2, Grow F1 H1 F2 H2 → Dz K F2 v d → Q v H2) → te σ H1 Q
def EvB (F : Hp) (tt : TT) (σ : L2.St) (b : Bool) : Prop := ∀ F1 H1, Ex F F1 → Ex F1 H1 → ∀ Q : Bool → Hp → Prop, (∀ F2 H2, Grow F1 H1 F2 H2 → Q b H2) → tt σ H1 Q
def EvAs (K : PySem.W.Frag) (F : Hp) (ta : TA) (σ : L2.St) (ds : List D) : Prop := ∀ F1 H1, Ex F F1 → Ex F1 H1 → ∀ Q : List V → Hp → Prop, (∀ vs F2 H2, Grow F1 H1 F2 H2 → DzAll K F2 vs ds → Q vs H2) → ta σ H1 Q
/-- a slot that holds data -/
def Sl (K : PySem.W.Frag) (F : Hp) (σ : L2.St) (i : Nat) (d : D) : Prop := ∃ v, σ[i]? = some (some v) ∧ Dz K F v d
section
variable {F G : Hp} {σ : L2.St} {te ta tb : TE} {tt tu : TT} {tas : TA} {d e : D} {ds : List D} {b c : Bool} {i : Nat}
theorem EvD.mono (x : Ex F G) (h : EvD K F te σ d) : EvD K G te σ d := fun F1 H1 a => h F1 H1 (x.trans a)
theorem EvB.mono (x : Ex F G) (h : EvB F tt σ b) : EvB G tt σ b := fun F1 H1 a => h F1 H1 (x.trans a)
theorem EvAs.mono (x : Ex F G) (h : EvAs K F tas σ ds) : EvAs K G tas σ ds := fun F1 H1 a => h F1 H1 (x.trans a)
theorem Sl.mono (x : Ex F G) (h : Sl K F σ i d) : Sl K G σ i d := let ⟨v, a, b⟩ := h; ⟨v, a, dp_ex x b⟩
theorem sl {v : V} (h : σ[i]? = some (some v)) (q : Dz K F v d) : Sl K F σ i d := ⟨v, h, q⟩
theorem ed_var (h : Sl K F σ i d) : EvD K F (tVar i) σ d := fun F1 H1 a z Q q => by
  obtain ⟨v, h1, h2⟩ := h
  exact ⟨v, h1, q v F1 H1 (Grow.refl z) (dp_ex a h2)⟩
theorem ed_c {v : V} (h : Dz K F v d) : EvD K F (tC v) σ d := fun F1 H1 a z Q q => q v F1 H1 (Grow.refl z) (dp_ex a h)
theorem ed_int {n : Int} : EvD K F (tC (.int n)) σ (.int n) := ed_c (.int n)
theorem eas_nil : EvAs K F tNil σ [] := fun F1 H1 _ z _ q => q [] F1 H1 (Grow.refl z) .nil
theorem eas_cons (h : EvD K F te σ d) (t : EvAs K F tas σ ds) : EvAs K F (tCons te tas) σ (d :: ds) := fun F1 H1 a z Q q =>
  h F1 H1 a z _ fun v F2 H2 g r => t F2 H2 (a.trans g.ff) g.fh _ fun vs F3 H3 g2 r2 => q (v :: vs) F3 H3 (g.trans g2) (.cons (dp_ex g2.ff r) r2)
theorem eas_one (h : EvD K F te σ d) : EvAs K F (tCons te tNil) σ [d] := eas_cons h eas_nil
theorem eb_test (h : EvD K F te σ (.bool b)) : EvB F (tTest te) σ b := fun F1 H1 a z Q q => h F1 H1 a z _ fun v F2 H2 g r => by
  cases r
  exact ⟨b, rfl, q F2 H2 g⟩
/-- an operator on data that makes nothing new -/
theorem ed_op {r : R2} (h : EvD K F ta σ d) (k : EvD K F tb σ e) {f : D} (hr : ∀ x y F1 H1, Ex F1 H1 → Dz K F1 x d → Dz K F1 y e → ∀ Q : VK, (∀ v, Dz K F1 v f → Q v H1) → r x y H1 Q) : EvD K F (tOp r ta tb) σ f := fun F1 H1 a z Q q =>
  h F1 H1 a z _ fun v F2 H2 g r1 => k F2 H2 (a.trans g.ff) g.fh _ fun w F3 H3 g2 r2 => hr v w F3 H3 g2.fh (dp_ex g2.ff r1) r2 Q fun x r3 => q x F3 H3 (g.trans g2) r3
theorem ed_cb {r : List V → Hp → VK → Prop} (h : EvAs K F tas σ ds) {f : D} (hr : ∀ vs F1 H1, Ex F1 H1 → DzAll K F1 vs ds → ∀ Q : VK, (∀ v F2 H2, Grow F1 H1 F2 H2 → Dz K F2 v f → Q v H2) → r vs H1 Q) : EvD K F (tCB r tas) σ f := fun F1 H1 a z Q q =>
  h F1 H1 a z _ fun vs F2 H2 g r1 => hr vs F2 H2 g.fh r1 Q fun v F3 H3 g2 r2 => q v F3 H3 (g.trans g2) r2
def tTupZ (t : TA) : TE := fun σ H Q => t σ H fun xs H1 => xs.length ≤ sizeLine ∧ ∀ (p : Addr) (o : Obj), H1 p = none → o.dict = none → Q (.ref p) (upd H1 p (.frz o (.tup xs)))
end
theorem dpa_len {F : Hp} : ∀ {vs : List V} {ds : List D}, DzAll K F vs ds → vs.length = ds.length
  | _, _, .nil => rfl
  | _, _, .cons _ t => by rw [List.length_cons, List.length_cons, dpa_len t]
theorem dpa_get {F : Hp} : ∀ {vs : List V} {ds : List D} {i : Nat} {v : V}, DzAll K F vs ds → vs[i]? = some v → ∃ d, ds[i]? = some d ∧ Dz K F v d
  | _, _, _, _, .nil, e => by simp at e
  | _, _, 0, _, .cons h _, e => by simp at e; subst e; exact ⟨_, rfl, h⟩
  | _, _, i + 1, v, .cons _ t, e => by
    obtain ⟨d, h1, h2⟩ := dpa_get (i := i) (v := v) t (by simpa using e)
    exact ⟨d, by simpa using h1, h2⟩
theorem dpa_app {F : Hp} : ∀ {vs ws : List V} {ds es : List D}, DzAll K F vs ds → DzAll K F ws es → DzAll K F (vs ++ ws) (ds ++ es)
  | _, _, _, _, .nil, h => h
  | _, _, _, _, .cons h t, k => .cons h (dpa_app t k)
theorem dpa_ints {F : Hp} : ∀ {vs : List V} {bs : List Int}, DzAll K F vs (bs.map .int) → vs = bs.map V.int
  | _, [], .nil => rfl
  | _, _ :: bs, .cons h t => by
    cases h
    rw [dpa_ints t]
    rfl
/-- a def of the module that keeps a promise -/
def Kp (P : Program) (w : World) (K : PySem.W.Frag) (mg : Str → Option Value) (base : Heap) (k : Nat) (x : Str) (ps : List Str) (sp : Sp) : Prop :=
  ∃ (f : Addr) (fd : FuncData), mg x = some (.ref f) ∧ PySem.W.keepIn K (.ref f) = true ∧ Binds K fd ps [] ∧ FnOk P w K mg base CX0 k f fd ps sp
theorem Kp.mono {P : Program} {w : World} {mg : Str → Option Value} {base : Heap} {j k : Nat} {x : Str} {ps : List Str} {sp : Sp} (h : Kp P w K mg base j x ps sp) (l : j ≤ k) : Kp P w K mg base k x ps sp :=
  let ⟨f, fd, a, b, c, d⟩ := h; ⟨f, fd, a, b, c, d.mono l⟩
theorem pe_kp {X : Cx} {k : Nat} {x : Str} {ps : List Str} {sp : Sp} {p pos : Pos} {e : Expr} {es : List Expr} {t : TA} (h : Kp X.prog X.w X.K X.mg X.base k x ps sp) (hr : Room k X.A) (hg : Gl X x) (ha : PA X (e :: es) t) (hdb : (x == ("__debug__" : Str)) = false := by decide)
    (he : starEach (e :: es) X.env = (false, eval e X.env) :: starEach es X.env := by rfl) (hpl : (backTo pos (starEach es X.env)).any (·.1) = false := by rfl) : PE X (.Call (.Name x p) (e :: es) [] pos) (tCall sp [] E0 t) := by
  obtain ⟨f, fd, h1, h2, h3, h4⟩ := h
  exact pe_call h4 hr hg h1 h2 h3 .nil pass0 ha hdb he hpl
/-- (a, b, ..), as an object that is never written -/
theorem pe_tupZ {X : Cx} {es : List Expr} {t : TA} {pos : Pos} {x1} (h : PA X es t) : PE X (.Tuple es x1 pos) (tTupZ t) := by
  refine ⟨fun pins s σ H Q I hq => ?_⟩
  refine wpAny_Tuple_spliced (thn (h.run pos pins s σ H _ I hq) fun us s1 ⟨xs, H1, I1, r, z, q⟩ => ⟨by rw [← r.length]; exact z, ?_⟩)
  have hf : H1 s1.heap.objs.size = none := I1.hok.fresh (Nat.le_refl _)
  have hg : (s1.heap.push { cls := Value.type "tuple", data := Data.seq us.toArray }).get? s1.heap.objs.size = some { cls := Value.type "tuple", data := Data.seq us.toArray } := Heap.get?_push_size _ rfl
  exact ⟨.ref s1.heap.objs.size, upd H1 s1.heap.objs.size (.frz { cls := Value.type "tuple", data := Data.seq us.toArray } (.tup xs)), I1.laid (t' := s1.toks) (fun b u e => Heap.get?_push_of_some _ e) (Nat.le_refl _) ⟨hg, z, us, r, ⟨_, hg, rfl, _, rfl⟩⟩, rfl, q _ _ hf rfl⟩
end Cn
set_option Elab.async false
set_option linter.all false
set_option maxRecDepth 100000
set_option maxHeartbeats 4000000
namespace Cn
open PySem PySem.Spec PyProof.Rows L2
variable {K : PySem.W.Frag}
/-- what one turn must do: from an item v that reads as d to the places σ2 where test and element are read -/
def Turn (K : PySem.W.Frag) (F : Hp) (g : TG) (tt : TT) (te : TE) (σ : L2.St) (vs : List Nat) (p : D → Bool) (f : D → D) (d : D) : Prop :=
  ∀ v F1 H1, Ex F F1 → Ex F1 H1 → Dz K F1 v d → ∀ R : L2.St → Hp → Prop, (∀ σ2, wipe σ2 vs = wipe σ vs → EvB F1 tt σ2 (p d) → (p d = true → EvD K F1 te σ2 (f d)) → R σ2 H1) → g v (wipe σ vs) H1 R
/-- the invariant: behind the first items the new list at L -/
structure LcAt (K : PySem.W.Frag) (F H0 : Hp) (L : Addr) (ds : List D) (H : Hp) (Fi : Hp) (acc : List V) : Prop where
  g : Grow F H0 Fi H
  fl : Fi L = none
  at_ : H L = some (.lst acc)
  n0 : H0 L = none
  da : DzAll K Fi acc ds
theorem lc_turn {F H0 : Hp} {L : Addr} {g : TG} {tt : TT} {te : TE} {σ : L2.St} {vs : List Nat} {p : D → Bool} {f : D → D} {d : D} {ds : List D} {H : Hp} {Fi : Hp} {acc : List V} {v : V} (T : Turn K F g tt te σ vs p f d) (I : LcAt K F H0 L ds H Fi acc) (hd : Dz K F v d) (hn : ds.length < 100000)
    {Pn : Hp → Prop} (k : ∀ H' Fj acc', LcAt K F H0 L (if p d = true then ds ++ [f d] else ds) H' Fj acc' → Pn H') :
    g v (wipe σ vs) H fun σ2 H2 => wipe σ2 vs = wipe σ vs ∧ tt σ2 H2 fun b H3 => if b = true then te σ2 H3 fun y H4 => ∃ acc, H4 L = some (.lst acc) ∧ acc.length < sizeLine ∧ Pn (upd H4 L (.lst (acc ++ [y]))) else Pn H3 := by
  refine T v Fi H I.g.ff I.g.fh (dp_ex I.g.ff hd) _ fun σ2 w tb tv => ⟨w, tb Fi H (Evl.Ex.refl _) I.g.fh _ fun F3 H3 g3 => ?_⟩
  have f3 : F3 L = none := g3.nw L _ I.at_ I.fl
  by_cases hp : p d = true
  · rw [hp]
    refine iteT (tv hp F3 H3 g3.ff g3.fh _ fun y F4 H4 g4 r => ?_)
    have at4 : H4 L = some (.lst acc) := g4.hh L _ (g3.hh L _ I.at_)
    have f4 : F4 L = none := g4.nw L _ (g3.hh L _ I.at_) f3
    refine ⟨acc, at4, Evl.sz_lt (by rw [dpa_len I.da]; exact hn), k _ F4 (acc ++ [y]) ?_⟩
    have G := I.g.trans (g3.trans g4)
    rw [if_pos hp]
    exact ⟨⟨G.ff, Evl.Ex.mut G.fh f4, Evl.Ex.mut G.hh I.n0, G.nw, G.nt⟩, f4, upd_same, I.n0, dpa_app (dpa_ex (g3.trans g4).ff I.da) (.cons r .nil)⟩
  · rw [Bool.eq_false_iff.mpr hp]
    refine iteF (k _ F3 acc ?_)
    rw [if_neg (by rw [Bool.eq_false_iff.mpr hp]; exact Bool.false_ne_true)]
    exact ⟨I.g.trans g3, f3, g3.hh L _ I.at_, I.n0, dpa_ex g3.ff I.da⟩
/-- a new list of data -/
def EvN (K : PySem.W.Frag) (F : Hp) (te : TE) (σ : L2.St) (ds : List D) : Prop := ∀ F1 H1, Ex F F1 → Ex F1 H1 → ∀ Q : VK, (∀ p xs F2 H2, Grow F1 H1 F2 H2 → H1 p = none → F2 p = some (.lst xs) → DzAll K F2 xs ds → Q (.ref p) H2) → te σ H1 Q
theorem EvN.d {F : Hp} {te : TE} {σ : L2.St} {ds : List D} (h : EvN K F te σ ds) : EvD K F te σ (.list ds) := fun F1 H1 a z Q q => h F1 H1 a z Q fun p xs F2 H2 g _ h2 r => q _ F2 H2 g (.lst (SqL.of h2) r)
theorem LcAt.done {F H0 : Hp} {L : Addr} {ds : List D} {H : Hp} {Fi : Hp} {acc : List V} (I : LcAt K F H0 L ds H Fi acc) : Grow F H0 (upd Fi L (.lst acc)) H ∧ DzAll K (upd Fi L (.lst acc)) acc ds := by
  have x : Ex Fi (upd Fi L (.lst acc)) := Evl.Ex.new I.fl
  refine ⟨⟨I.g.ff.trans x, fun a o e => ?_, I.g.hh, fun b o e q => ?_, fun hn b ps z => ?_⟩, dpa_ex x I.da⟩
  · by_cases c : a = L
    · subst c
      rw [upd_same] at e
      rw [← e]
      exact I.at_
    · rw [upd_ne c] at e
      exact I.g.fh a o e
  · rw [upd_ne (ne_of_none e I.n0)]
    exact I.g.nw b o e q
  · by_cases c : b = L
    · subst c
      rw [upd_same] at z
      cases z
    · rw [upd_ne c] at z
      exact I.g.nt hn b ps z
theorem take_at {α : Type} {l : List α} {i : Nat} {x : α} (h : l[i]? = some x) : l.take (i + 1) = l.take i ++ [x] := by
  rw [List.take_succ, h]
  rfl
theorem fm_snoc (p : D → Bool) (f : D → D) (l : List D) (d : D) : ((l ++ [d]).filter p).map f = if p d = true then (l.filter p).map f ++ [f d] else (l.filter p).map f := by
  rw [List.filter_append, List.map_append]
  by_cases h : p d = true
  · rw [if_pos h, List.filter_cons_of_pos h]
    rfl
  · rw [if_neg h, List.filter_cons_of_neg h, List.filter_nil, List.map_nil, List.append_nil]
theorem fm_len (p : D → Bool) (f : D → D) (l : List D) (i : Nat) : (((l.take i).filter p).map f).length ≤ l.length := by
  rw [List.length_map]
  exact Nat.le_trans (List.length_filter_le _ _) (by rw [List.length_take]; omega)
theorem Turn.mono {F G : Hp} {g : TG} {tt : TT} {te : TE} {σ : L2.St} {vs : List Nat} {p : D → Bool} {f : D → D} {d : D} (e : Ex F G) (T : Turn K F g tt te σ vs p f d) : Turn K G g tt te σ vs p f d := fun v F1 H1 a => T v F1 H1 (e.trans a)
section
variable {F : Hp} {tl : TE} {g : TG} {tt : TT} {te : TE} {σ : L2.St} {vs : List Nat} {ds : List D}
theorem en_lcL (p : D → Bool) (f : D → D) (h : EvD K F tl σ (.list ds)) (hl : ds.length < 100000) (hs : ∀ d ∈ ds, Turn K F g tt te σ vs p f d) : EvN K F (tLc (iList K tl) g tt te vs) σ ((ds.filter p).map f) := fun F1 H1 a z Q q =>
  h F1 H1 a z _ fun v F2 H2 g2 r => by
    cases r with
    | @lst b xs _ hsq ha =>
      refine ⟨b, rfl, ⟨xs, Evl.ex_l g2.fh hsq⟩, fun L hL => ?_⟩
      refine lc_list (xs := xs) (fun i H => ∃ Fi acc, LcAt K F2 H2 L (((ds.take i).filter p).map f) H Fi acc) ⟨F2, [], ⟨Grow.tmp g2.fh hL, Evl.fresh_back g2.fh hL, upd_same, hL, .nil⟩⟩
        (fun i H _ ⟨Fi, acc, I⟩ => Evl.ex_l (I.g.ff.trans I.g.fh) hsq) (fun i x H hx ⟨Fi, acc, I⟩ => ?_) (fun H ⟨Fi, acc, I⟩ => ?_)
      · obtain ⟨d, hd, rd⟩ := dpa_get ha hx
        refine lc_turn ((hs d (List.mem_of_getElem? hd)).mono (a.trans g2.ff)) I rd (Nat.lt_of_le_of_lt (fm_len p f ds i) hl) fun H' Fj acc' J => ⟨Fj, acc', ?_⟩
        rw [take_at hd, fm_snoc]
        exact J
      · have e : ds.take xs.length = ds := by rw [dpa_len ha, List.take_length]
        rw [e] at I
        obtain ⟨g3, r3⟩ := I.done
        exact q _ _ _ _ (g2.trans g3) (Evl.fresh_back g2.hh hL) upd_same r3
end
/-- no test -/
theorem eb_yes {F : Hp} {σ : L2.St} : EvB F tYes σ true := fun F1 H1 a z Q q => q F1 H1 (Grow.refl z)
theorem filter_yes {l : List D} : l.filter (fun _ => true) = l := List.filter_eq_self.mpr fun _ _ => rfl
/-- a turn whose target is one name -/
theorem turn_name {F : Hp} {tt : TT} {te : TE} {σ : L2.St} {vs : List Nat} {p : D → Bool} {f : D → D} {d : D} {i : Nat} (hw : ∀ v, wipe ((wipe σ vs).set i (some v)) vs = wipe σ vs)
    (ht : ∀ v G, Ex F G → Dz K G v d → EvB G tt ((wipe σ vs).set i (some v)) (p d)) (he : p d = true → ∀ v G, Ex F G → Dz K G v d → EvD K G te ((wipe σ vs).set i (some v)) (f d)) : Turn K F (gName i) tt te σ vs p f d :=
  fun v F1 H1 a z r R k => k _ (hw v) (ht v F1 a r) (fun h => he h v F1 a r)
section
variable {F : Hp} {σ : L2.St} {te ta tb : TE} {d e : D} {ds : List D}
def lenD : D → Option Nat
  | .str x => if x.length ≤ 100000 then some x.length else none
  | .list xs => some xs.length
  | .tuple xs => some xs.length
  | _ => none
/-- an operator on two ints -/
theorem ed_I0 {g : Int → Int → V} {gd : D} {i j : Int} (h : EvD K F ta σ (.int i)) (k : EvD K F tb σ (.int j)) (hg : ∀ G, Dz K G (g i j) gd) : EvD K F (tOp (rI0 g) ta tb) σ gd := ed_op h k fun x y F1 H1 z r1 r2 Q q => by
  cases r1
  cases r2
  exact ⟨i, j, rfl, rfl, q _ (hg _)⟩
end
end Cn
set_option Elab.async false
set_option linter.all false
set_option maxRecDepth 100000
set_option maxHeartbeats 4000000
namespace Cn
open PySem PySem.Spec PyProof.Rows L2
end Cn
set_option Elab.async false
set_option linter.all false
set_option maxRecDepth 100000
set_option maxHeartbeats 4000000
namespace Cn
open PySem PySem.Spec PyProof.Rows L2
section
variable {X : Cx}
theorem TupZ.plain {pins : List (Addr × Obj)} {σ : L2.St} {H : Hp} {s : Shared} {a : Addr} {xs : List V} (I : Inv X pins σ H s) (h : TupZ X.K H a xs) : ∃ its : List Value, Vals xs its ∧ PlainSeq "tuple" s.heap a its.toArray ∧ xs.length ≤ sizeLine := by
  rcases h with ⟨o, h, hd⟩ | ⟨o, its, n, hk, hc, hd, hs, hz, r⟩
  · obtain ⟨hg, z, its, r, o', hg', hc, n, hs⟩ := (show ObjOk X.prog X.w H s.heap a (.frz o (.tup xs)) from I.hok a _ h)
    have e : o = o' := Option.some.inj (hg.symm.trans hg')
    subst e
    exact ⟨its, r, ⟨o, n, hg, hc, hd, hs⟩, z⟩
  · have e := r.length
    refine ⟨its.toList, r, ⟨o, n, I.kIn a o hk, hc, hd, by simpa using hs⟩, ?_⟩
    simp only [Array.length_toList] at e
    omega
def prD (q : Str × Int) : D := .tuple [.str q.1, .int q.2]
/-- the object of a pair (text, whole number) -/
def PrAt (h : Heap) (a : Addr) (q : Str × Int) (o : Obj) : Prop := ∃ t u, o = { cls := Value.type "tuple", data := Data.seq #[Value.str q.1 t, Value.int q.2 u] } ∧ h.get? a = some o
theorem PrAt.reads {h : Heap} {a : Addr} {q : Str × Int} {o : Obj} (x : PrAt h a q o) : Reads h (.ref a) (prD q) [] := by
  obtain ⟨t, u, rfl, e⟩ := x
  exact Reads.tuple e rfl rfl (.cons (.str _ _) (.cons (.int _ _) .nil))
end
end Cn
set_option Elab.async false
set_option linter.all false
set_option maxRecDepth 100000
set_option maxHeartbeats 4000000
namespace Cn
open PySem PySem.Spec PyProof.Rows L2
/-- the object of a pair (text, value) -/
def PvAt (h : Heap) (a : Addr) (x : Str) (v : Value) (o : Obj) : Prop := ∃ t, o = { cls := Value.type "tuple", data := Data.seq #[Value.str x t, v] } ∧ h.get? a = some o
abbrev Row := (Str × V) × Value
/-- values stand for rows, in the heap h -/
def Rows (h : Heap) (vs : List Value) (bs : List Row) : Prop := PySem.W.EachIs (fun (u : Value) (q : Row) => ∃ b o, u = .ref b ∧ PvAt h b q.1.1 q.2 o) vs bs
end Cn
set_option Elab.async false
set_option linter.all false
set_option maxRecDepth 100000
set_option maxHeartbeats 4000000
namespace Cn
open PySem PySem.Spec PyProof.Rows L2
abbrev Plan := List (Str × Int)
abbrev Lim := List (Str × Option Int)
def lim (ps : Plan) : Lim := ps.map fun q => (q.1, some q.2)
def lk {α : Type} (l : List (Str × α)) (x : Str) : Option α := (l.find? fun q => decide (q.1 = x)).map (·.2)
def putQ (acc : Plan) (x : Str) (v : Int) : Plan := if (acc.any fun p => decide (p.1 = x)) = true then acc.map (fun p => if p.1 = x then (p.1, v) else p) else acc ++ [(x, v)]
def mx (i j : Int) : Int := if j > i then j else i
def step (acc : Plan) (q : Str × Int) : Plan := putQ acc q.1 (mx q.2 ((lk acc q.1).getD q.2))
end Cn
set_option Elab.async false
set_option linter.all false
set_option maxRecDepth 100000
set_option maxHeartbeats 4000000
namespace Cn
open PySem PySem.Spec PyProof.Rows L2
mutual
theorem noDict_plain : ∀ d : D, d.plain = true → d.hasDict = false
  | .none, _ => by simp [PyData.hasDict]
  | .bool _, _ => by simp [PyData.hasDict]
  | .int _, _ => by simp [PyData.hasDict]
  | .str _, _ => by simp [PyData.hasDict]
  | .list xs, h => by
    simp only [PyData.hasDict]
    exact noDict_plains xs (by simpa [PyData.plain] using h)
  | .tuple xs, h => by
    simp only [PyData.hasDict]
    exact noDict_plains xs (by simpa [PyData.plain] using h)
  | .dict _, h => by simp [PyData.plain] at h
theorem noDict_plains : ∀ xs : List D, PyData.plainAll xs = true → PyData.hasDictAll xs = false
  | [], _ => by simp [PyData.hasDictAll]
  | x :: xs, h => by
    simp only [PyData.plainAll, Bool.and_eq_true] at h
    simp only [PyData.hasDictAll, noDict_plain x h.1, noDict_plains xs h.2, Bool.or_self]
end
def rNeP (K : PySem.W.Frag) : R2 := fun x y H Q => ∃ d e, Dz K H x d ∧ Dz K H y e ∧ d.plain = true ∧ e.plain = true ∧ d.depth ≤ 60 ∧ Q (.bl (!PyData.eqv d e)) H
theorem op_neP {X : Cx} {K : PySem.W.Frag} (hK : X.K = K) (hu : X.A.units + 64 < cLine) : OpR X (compareOp .NotEq) (rNeP K) := by
  subst hK
  intro pins s σ H x y v u Q I rx ry h
  obtain ⟨d, e, hd, he, pd, pe, hdep, q⟩ := h
  obtain ⟨as, r1⟩ := Dp.reads I d x v (hd.dp (noDict_plain _ pd)) rx
  obtain ⟨bs, r2⟩ := Dp.reads I e y u (he.dp (noDict_plain _ pe)) ry
  exact SeqAt.ne_plain r1 r2 pd pe (Nat.lt_of_le_of_lt (Nat.add_le_add_left (Nat.le_trans (Nat.min_le_left _ _) (Nat.le_trans hdep (by decide))) _) hu) ⟨.bl _, H, I, rfl, q⟩
end Cn
set_option Elab.async false
set_option linter.all false
set_option maxRecDepth 100000
set_option maxHeartbeats 4000000
namespace Cn
open PySem PySem.Spec PyProof.Rows L2
/-- at a: an error of the class cls whose own dict is d -/
def ErP (cls : Value) (d : Option Addr) (a : Addr) (h : Heap) : Prop := ∃ (ob : Obj) (vs : Array Value), h.get? a = some ob ∧ ob.cls = cls ∧ ob.dict = d ∧ ob.data = .fields vs
def ErO (cls : Value) (d : Option Addr) (a : Addr) : HO := .ext (ErP cls d a)
/-- the error at a, as the heap tells it: with its own dict where it has one -/
def ErD (H : Hp) (d : Option Addr) : Prop := d = none ∨ ∃ dd fs, d = some dd ∧ H dd = some (.xd fs)
theorem inst_of {P : Program} {w : World} {H : Hp} {h : Heap} {a D : Addr} {d : Option Addr} (I : HOk P w H h) (e : H a = some (ErO (.ref D) d a)) (k : ErD H d) : ∃ (ob : Obj) (od : Option Obj), PySem.W.InstAt h a ob D od ∧ ∀ dd fs, d = some dd → H dd = some (.xd fs) →
    ∃ o mA, od = some o ∧ h.Ns1 dd mA ∧ h.get? dd = some o ∧ ∀ f, RelO (fs.lookup f) (mA f) := by
  obtain ⟨⟨ob, vs, e1, e2, e3, e4⟩, _, _⟩ := I a _ e
  obtain ⟨oc, odd, oda, osl⟩ := ob
  dsimp only at e2 e3 e4
  subst e2 e3 e4
  rcases k with k | ⟨dd, fs, k, q⟩
  · subst k
    exact ⟨_, none, ⟨e1, rfl, rfl, trivial⟩, fun dd fs z => nomatch z⟩
  · subst k
    obtain ⟨mA, hns, hr⟩ := I dd _ q
    obtain ⟨o, ho, _⟩ := lookIn_ns hns
    refine ⟨_, some o, ⟨e1, rfl, rfl, ho⟩, fun dd' fs' z w => ?_⟩
    cases z
    rw [q] at w
    cases w
    exact ⟨o, mA, rfl, hns, ho, hr⟩
end Cn
set_option Elab.async false
set_option linter.all false
set_option maxRecDepth 100000
set_option maxHeartbeats 4000000
namespace Cn
open PySem PySem.Spec PyProof.Rows L2 LamX
end Cn
set_option Elab.async false
set_option linter.all false
set_option maxRecDepth 100000
set_option maxHeartbeats 4000000
namespace Cn
open PySem PySem.Spec PyProof.Rows L2 LamX
section
variable {P : Program} {w : World} {K : PySem.W.Frag} {mg mb : Str → Option Value} {fa a : Addr} {cs : List (Addr × Addr)} {s₁ : Shared} {vs : List Value} {ns : List Int}
abbrev TabO : Obj := { cls := .none, data := .fields #[] }
abbrev LstO (vs : List Value) : Obj := { cls := .type "list", data := .seq vs.toArray }
/-- what is tracked when the law begins: its script (where it is not the module's own), the tables -/
def startH (K : PySem.W.Frag) (a : Addr) (vs : List Value) (ns : List Int) (ts : List Addr) : Hp := fun b =>
  if b ∈ ts then some (.tbl #[]) else if b = a ∧ K.lookup a = none then some (.frz (LstO vs) (.lst (ns.map V.int))) else none
theorem startH_t {ts : List Addr} {b : Addr} (h : b ∈ ts) : startH K a vs ns ts b = some (.tbl #[]) := if_pos h
theorem startH_a {ts : List Addr} (h : a ∉ ts) (k : K.lookup a = none) : startH K a vs ns ts a = some (.frz (LstO vs) (.lst (ns.map V.int))) := (if_neg h).trans (if_pos ⟨rfl, k⟩)
theorem startH_n {ts : List Addr} {b : Addr} (h : b ∉ ts) (k : ¬ (b = a ∧ K.lookup a = none)) : startH K a vs ns ts b = none := (if_neg h).trans (if_neg k)
theorem startH_or (ts : List Addr) (b : Addr) : (b ∈ ts ∧ startH K a vs ns ts b = some (.tbl #[])) ∨ (b ∉ ts ∧ b = a ∧ K.lookup a = none ∧ startH K a vs ns ts b = some (.frz (LstO vs) (.lst (ns.map V.int)))) ∨ (b ∉ ts ∧ startH K a vs ns ts b = none) := by
  by_cases h : b ∈ ts
  · exact .inl ⟨h, startH_t h⟩
  · by_cases k : b = a ∧ K.lookup a = none
    · obtain ⟨rfl, k⟩ := k
      exact .inr (.inl ⟨h, rfl, k, startH_a h k⟩)
    · exact .inr (.inr ⟨h, startH_n h k⟩)
end
end Cn
set_option Elab.async false
set_option linter.all false
set_option maxRecDepth 100000
set_option maxHeartbeats 4000000
namespace Cn
open PySem PySem.Spec PyProof.Rows L2 LamX
/-- the guards of the law's own frame -/
theorem law_guards (env : Env) : (callerA.deeper env).guards = some [] := rfl
end Cn
set_option Elab.async false
set_option linter.all false
set_option maxRecDepth 100000
set_option maxHeartbeats 4000000
namespace Cn
open PySem PySem.Spec PyProof.Rows L2 LamX
section
variable {P : Program} {w : World} {K : PySem.W.Frag} {mg mb : Str → Option Value} {fa a : Addr} {cs : List (Addr × Addr)} {s₁ : Shared} {vs : List Value} {ns : List Int}
/-- what is tracked when the law begins: as startH, and the table of modules -/
def startS (K : PySem.W.Frag) (a : Addr) (vs : List Value) (ns : List Int) (ts : List Addr) (oy : Obj) : Hp := fun b =>
  if b = sysModules then some (.frz oy (.own sysModules)) else startH K a vs ns ts b
theorem startS_y {ts : List Addr} {oy : Obj} : startS K a vs ns ts oy sysModules = some (.frz oy (.own sysModules)) := if_pos rfl
theorem startS_n {ts : List Addr} {oy : Obj} {b : Addr} (h : b ≠ sysModules) : startS K a vs ns ts oy b = startH K a vs ns ts b := if_neg h
theorem startS_or (ts : List Addr) (oy : Obj) (b : Addr) : (b = sysModules ∧ startS K a vs ns ts oy b = some (.frz oy (.own sysModules))) ∨ (b ≠ sysModules ∧ ((b ∈ ts ∧ startS K a vs ns ts oy b = some (.tbl #[])) ∨ (b ∉ ts ∧ b = a ∧ K.lookup a = none ∧ startS K a vs ns ts oy b = some (.frz (LstO vs) (.lst (ns.map V.int)))) ∨ (b ∉ ts ∧ startS K a vs ns ts oy b = none))) := by
  by_cases h : b = sysModules
  · exact .inl ⟨h, by rw [h]; exact startS_y⟩
  · refine .inr ⟨h, ?_⟩
    rw [startS_n h]
    exact startH_or ts b
theorem law_runS (KX : K.In s₁.heap) (ky : K.lookup sysModules = none) (sy : ∃ (oy : Obj) (es : Array DictEntry) (ep : Nat), s₁.heap.get? sysModules = some oy ∧ oy.data = .dict es ep) (gl : s₁.heap.Ns mainGlobals mg) (bl : s₁.heap.Ns builtinsNs mb) (bb : ∀ x : Str, x ≠ "__name__" → mb x = bootBuiltins x) (lim : s₁.heap.NoLimit) (gens : s₁.gens = #[])
    (tabs : ∀ p ∈ cs, s₁.heap.get? p.2 = some TabO) (noT : ∀ p ∈ cs, K.lookup p.2 = none) (codes : ∀ p ∈ cs, PySem.W.CodeHd s₁.heap p.1 p.2)
    (main : ∃ (bm : Addr) (ob : Obj), mg "__builtins__" = some (.ref bm) ∧ bm ≠ builtinsNs ∧ s₁.heap.get? bm = some ob ∧ ob.cls = .type "module" ∧ ob.dict = some builtinsNs ∧ ob.data = .plain)
    (scr : s₁.heap.get? a = some (LstO vs)) (hi : IntsAre vs ns) (sz : ns.length ≤ sizeLine)
    (F : ∀ (base : Heap) (H : Hp), K.In base → base.Ns mainGlobals mg → (∀ p ∈ cs, TabB base mg p.1 p.2) → (∀ p ∈ cs, H p.2 = some (.tbl #[])) → SqL K H a (ns.map V.int) → (∃ oy, H sysModules = some (.frz oy (.own sysModules))) → Env0 P w K mg base callerA [] s₁ H →
      codeAny (model P w) callerA (.call (.ref fa) ⟨[.ref a], []⟩) (CR C8.CX0 [] P w H s₁ (fun v _ => v = .bl true) (fun _ _ _ => False)) s₁) :
    codeAny (model P w) callerA (.call (.ref fa) ⟨[.ref a], []⟩) (fun r s' => r = .ok (.ret (.bool true)) ∧ OldK s₁.heap s'.heap ∧ s'.os = s₁.os ∧ AllBare s'.gens) s₁ := by
  obtain ⟨ts, hts⟩ : ∃ ts : List Addr, ts = cs.map (·.2) := ⟨_, rfl⟩
  have inT : ∀ p ∈ cs, p.2 ∈ ts := fun p hp => by
    rw [hts]
    exact List.mem_map_of_mem hp
  have ofT : ∀ b ∈ ts, ∃ p ∈ cs, p.2 = b := fun b hb => by
    rw [hts] at hb
    exact List.mem_map.mp hb
  have tab : ∀ b ∈ ts, s₁.heap.get? b = some TabO := fun b hb => by
    obtain ⟨p, hp, rfl⟩ := ofT b hb
    exact tabs p hp
  have lenV := hi.length
  have rv := vals_ints hi
  have aT : a ∉ ts := fun z => by
    have q := (tab a z).symm.trans scr
    cases q
  obtain ⟨oy, ey, ep, gy, dy⟩ := sy
  obtain ⟨H, hH⟩ : ∃ H : Hp, H = startS K a vs ns ts oy := ⟨_, rfl⟩
  have or_ := startS_or (K := K) (a := a) (vs := vs) (ns := ns) ts oy
  rw [← hH] at or_
  have aY : a ≠ sysModules := fun z => by
    rw [z] at scr
    have q := gy.symm.trans scr
    cases q
    cases dy
  have tY : ∀ b ∈ ts, b ≠ sysModules := fun b hb z => by
    have e := tab b hb
    rw [z] at e
    have q := gy.symm.trans e
    cases q
    cases dy
  have or3 : ∀ b, b ≠ sysModules → _ := fun b hb => (or_ b).resolve_left fun h => hb h.1
  -- what is of another kind is not tracked
  have free : ∀ {b : Addr} {o : Obj}, s₁.heap.get? b = some o → b ≠ sysModules → (∀ us n, o.data ≠ .seq us n) → o.data ≠ .fields #[] → H b = none := fun {b o} e hb n1 n2 => by
    rcases (or3 b hb).2 with ⟨m, q⟩ | ⟨_, m, _, q⟩ | ⟨_, q⟩
    · rw [tab b m] at e
      cases e
      exact (n2 rfl).elim
    · rw [m, scr] at e
      cases e
      exact (n1 _ _ rfl).elim
    · exact q
  have isNs : ∀ {b : Addr} {m : Str → Option Value}, b ≠ sysModules → s₁.heap.Ns b m → (hidT s₁.heap H).Ns b m := fun {b m} hb ⟨o, es, ep, e, d, r⟩ => by
    refine ⟨o, es, ep, hidT_get e (free e hb ?_ ?_), d, r⟩
    · intro us n z
      rw [d] at z
      cases z
    · intro z
      rw [d] at z
      cases z
  have kIn : K.In (hidT s₁.heap H) := fun b o e => by
    refine hidT_get (KX b o e) ?_
    have hb : b ≠ sysModules := fun z => by
      rw [z, ky] at e
      cases e
    rcases (or3 b hb).2 with ⟨m, _⟩ | ⟨_, m, k, _⟩ | ⟨_, q⟩
    · obtain ⟨p, hp, rfl⟩ := ofT b m
      rw [noT p hp] at e
      cases e
    · rw [m, k] at e
      cases e
    · exact q
  have TB : ∀ p ∈ cs, TabB (hidT s₁.heap H) mg p.1 p.2 := fun p hp => by
    obtain ⟨o, es, ep, g1, g2, _⟩ := gl
    refine ⟨?_, ?_, fun z => ?_⟩
    · obtain ⟨o, us, file, tf, flags, tg, inF, text, tt, e1, r1, r2, r3, r4⟩ := codes p hp
      refine ⟨o, us, file, tf, flags, tg, inF, text, tt, hidT_get e1 (free e1 (fun z => by
        rw [z] at e1
        have q := gy.symm.trans e1
        cases q
        rw [r2] at dy
        cases dy) ?_ ?_), r1, r2, r3, r4⟩
      · intro us' n z
        rw [r2] at z
        cases z
      · intro z
        rw [r2] at z
        cases z
        simp at r3
    · obtain ⟨bm, ob, b1, b2, b3, b4, b5, b6⟩ := main
      refine ⟨bm, ob, b1, b2, fun q => ?_, fun q => ?_, hidT_get b3 (free b3 (fun z => by
        rw [z] at b3
        have q := gy.symm.trans b3
        cases q
        rw [b6] at dy
        cases dy) ?_ ?_), b4, b5, b6⟩
      · rw [q, g1] at b3
        cases b3
        rw [g2] at b6
        cases b6
      · rw [q, tabs p hp] at b3
        cases b3
        cases b6
      · intro us' n z
        rw [b6] at z
        cases z
      · intro z
        rw [b6] at z
        cases z
    · rw [z, tabs p hp] at g1
      cases g1
      cases g2
  have hok : HOk P w H s₁.heap := fun b u q => by
    rcases or_ b with ⟨m, z⟩ | ⟨_, ⟨m, z⟩ | ⟨_, m, _, z⟩ | ⟨_, z⟩⟩
    · rw [q] at z
      cases z
      subst m
      exact ⟨gy, _, gy⟩
    · rw [q] at z
      cases z
      exact tab b m
    · rw [q] at z
      cases z
      subst m
      exact ⟨scr, by rw [List.length_map]; exact sz, vs, _, rv, scr⟩
    · rw [q] at z
      cases z
  have sq : SqL K H a (ns.map V.int) := by
    cases hk : K.lookup a with
    | none =>
      refine .inl (.inr ⟨LstO vs, ?_⟩)
      rw [hH, startS_n aY]
      exact startH_a aT hk
    | some o =>
      have e := KX a o hk
      rw [scr] at e
      cases e
      exact .inr ⟨_, vs.toArray, _, hk, rfl, rfl, rfl, by rw [List.size_toArray, lenV]; exact sz, by simpa using rv⟩
  have md : L2.Mod K mg (hidT s₁.heap H) := ⟨kIn, isNs (by decide) gl, ⟨mb, isNs (by decide) bl, bb⟩, by
    obtain ⟨mc, l1, l2⟩ := lim
    exact ⟨mc, isNs (by decide) l1, l2⟩⟩
  have e0 : Env0 P w K mg (hidT s₁.heap H) callerA [] s₁ H := ⟨rfl, md, fun b o e => of_hidT e, Nat.le_of_eq (hidT_size _ _), trivial, fun b hb => absurd (show b ∈ ([] : List Addr) from hb) List.not_mem_nil, hok, .of_eq gens⟩
  have tH : ∀ p ∈ cs, H p.2 = some (.tbl #[]) := fun p hp => by
    rw [hH, startS_n (tY _ (inT p hp))]
    exact startH_t (inT p hp)
  refine codeAny_mono (F _ H kIn (isNs (by decide) gl) TB tH sq ⟨oy, by rw [hH]; exact startS_y⟩ e0) fun r s' h => ?_
  cases r with
  | error e => exact False.elim h
  | ok fl =>
    cases fl with
    | next => exact False.elim h
    | brk => exact False.elim h
    | cont => exact False.elim h
    | ret u =>
      obtain ⟨v, H', os, bare, un, hok', rl, rfl⟩ := h
      cases rl
      have old : ∀ b o, b ∉ ts → s₁.heap.get? b = some o → s'.heap.get? b = some o := fun b o m e => by
        rcases or_ b with ⟨z1, z⟩ | ⟨_, ⟨z, _⟩ | ⟨_, z1, _, z⟩ | ⟨_, z⟩⟩
        · obtain ⟨w1, _⟩ := hok' b _ (un.frzs b _ _ z)
          rw [z1, gy] at e
          cases e
          exact w1
        · exact absurd z m
        · obtain ⟨w1, _⟩ := hok' b _ (un.frzs b _ _ z)
          rw [z1, scr] at e
          cases e
          exact w1
        · exact un.keep b o e z (fun q => absurd (show b ∈ ([] : List Addr) from q) List.not_mem_nil) List.not_mem_nil
      have more_ : ∀ b ∈ ts, ∃ more : Array Value, s'.heap.get? b = some { cls := .none, data := .fields more } := fun b m => by
        rcases (or3 b (tY b m)).2 with ⟨_, z⟩ | ⟨z, _⟩ | ⟨z, _⟩
        · obtain ⟨more, q⟩ := un.tbls b #[] z
          exact ⟨_, hok' b _ q⟩
        · exact absurd m z
        · exact absurd m z
      refine ⟨rfl, ⟨fun b o e => ?_, fun b o e => ?_⟩, os, bare⟩
      · by_cases m : b ∈ ts
        · obtain ⟨more, q⟩ := more_ b m
          obtain ⟨p, hp, rfl⟩ := ofT b m
          rw [tab _ m] at e
          cases e
          refine .inr (.inl ⟨((codes p hp).tab (tabs p hp)).isCodeTable, rfl, #[], more, rfl, ?_⟩)
          rw [Array.empty_append]
          exact q
        · exact .inl (old b o m e)
      · by_cases m : b ∈ ts
        · obtain ⟨more, q⟩ := more_ b m
          exact ⟨_, q⟩
        · exact ⟨o, old b o m e⟩
end
def LawS (P : Program) (w : World) (K : PySem.W.Frag) (mg : Str → Option Value) (cs : List (Addr × Addr)) (fa : Addr) (n : Nat) : Prop :=
  ∀ (base : Heap) (H : Hp) (s : Shared) (a : Addr) (ns : List Int), ns.length ≤ n → K.In base → base.Ns mainGlobals mg → (∀ p ∈ cs, TabB base mg p.1 p.2) → (∀ p ∈ cs, H p.2 = some (.tbl #[])) → SqL K H a (ns.map V.int) → (∃ oy, H sysModules = some (.frz oy (.own sysModules))) → Env0 P w K mg base callerA [] s H →
    codeAny (model P w) callerA (.call (.ref fa) ⟨[.ref a], []⟩) (CR C8.CX0 [] P w H s (fun v _ => v = .bl true) (fun _ _ _ => False)) s
theorem lawS_of {P : Program} {w : World} {K : PySem.W.Frag} {mg : Str → Option Value} {cs : List (Addr × Addr)} {fa : Addr} {n k : Nat} {st : Stmt} {x : Str} {N : List Str} {oc kV doc pm cdv ct : Value} {od an : Option Addr} {osl : Array (Option Value)}
    (lk : K.lookup fa = some ⟨oc, od, .func (PySem.W.fnOf "law" "law" (defArgs st) (defBody st) (defScope st) .none kV doc pm an cdv ct), osl⟩) (hcd : PySem.W.codeIn K cdv "law" = true) (S : FnScope N [x] (defScope st)) (hr : Room (k + 1) callerA)
    (hb : ∀ (s : Shared) (u : Value), BindsTo s (PySem.W.fnOf "law" "law" (defArgs st) (defBody st) (defScope st) .none kV doc pm an cdv ct) ⟨[u], []⟩ [(x, u)])
    (body : ∀ (base : Heap) (H : Hp) (s : Shared) (a : Addr) (ns : List Int), ns.length ≤ n → K.In base → base.Ns mainGlobals mg → (∀ p ∈ cs, TabB base mg p.1 p.2) → (∀ p ∈ cs, H p.2 = some (.tbl #[])) → SqL K H a (ns.map V.int) → (∃ oy, H sysModules = some (.frz oy (.own sysModules))) →
      Room k (callerA.deeper (envOfC "law" (defScope st) s.heap.objs.size fa cdv)) →
      ∃ t, PSs (cxOf C8.CX0 P w K mg base N "law" (defScope st) fa cdv callerA [] s H (fun _ _ _ => False)).nox (defBody st) t ∧ t { nx := fun _ H' => V.non = V.bl true, rt := fun v _ => v = .bl true } (L2.start N [.ref a]) H) : LawS P w K mg cs fa n :=
  fun base H s a ns hl hk hg hT tH hS hY e0 => run_ofS (CX := C8.CX0) (us := [.ref a]) (vs := [.ref a]) lk hcd S hr e0 (hb s (.ref a)) (.cons rfl .nil) rfl fun hr' => by
    obtain ⟨t, h1, h2⟩ := body base H s a ns hl hk hg hT tH hS hY hr'
    exact ⟨t, h1.nox, h2⟩
theorem walk_S {l : PySem.W.OpenLaw} {n : Nat} {q : Program} {loose : List Str} {XP : (Str → Option Value) → Heap → Prop} {YP : World → Heap → Prop} {d : DefRec} {K : Params → PySem.W.Frag} (hn : l.most = some n) (hz : n ≤ sizeLine) (hdf : d.params.defaults = [])
    (hY : ∀ (w : World) (h : Heap), YP w h → (K w.params).In h) (hky : ∀ w : World, (K w.params).lookup sysModules = none) (himp : importsNone q = true)
    (F : ∀ (w : World) (mg : Str → Option Value) (fa : Addr) (h : Heap), YP w h → (K w.params).In h → h.Ns mainGlobals mg → mg d.name = some (.ref fa) →
      ∃ cs : List (Addr × Addr), (∀ p ∈ cs, h.get? p.2 = some TabO) ∧ (∀ p ∈ cs, (K w.params).lookup p.2 = none) ∧ (∀ p ∈ cs, PySem.W.CodeHd h p.1 p.2) ∧ LawS l.prog w (K w.params) mg cs fa n) :
    PySem.W.WalkO q loose XP YP l.row.toRowW d [] (fun f vs => PySem.call f vs) := by
  refine Att.attach_callB hn hdf fun w s₀ s₁ mg mb fa o pm cd doc a vs ns G Y ho hd hcd hmg hobj hints hlen hbits hg => ?_
  have KX := hY w _ Y
  obtain ⟨cs, c1, c2, c3, L⟩ := F w mg fa _ Y KX G.T.g hmg
  obtain ⟨mm, ⟨oy, es, ep, gy, dy, _⟩, _⟩ := (G.T.seer himp).mods
  exact law_runS KX (hky w) ⟨oy, es, ep, gy, dy⟩ G.T.g G.T.b G.T.builtins G.T.nolimit hg c1 c2 c3 G.T.bmain hobj hints (Nat.le_trans hlen hz) fun base H b1 b2 b3 b4 b5 b6 e0 => L base H s₁ a ns hlen b1 b2 b3 b4 b5 b6 e0
end Cn
set_option Elab.async false
set_option linter.all false
set_option maxRecDepth 100000
set_option maxHeartbeats 4000000
namespace Cn
open PySem PySem.Spec PySem.Calls PyProof.Rows L2
/-- what is known of an own error class whose __init__ says super().__init__('..') -/
structure ExI (P : Program) (K : PySem.W.Frag) (C f : Addr) (q : Str) (scope : Scope) (cda cc : Addr) (fd : FuncData) (me : Str) : Prop where
  T : OexC K C
  ini : PySem.W.ks_superIn K C C "__init__" = some (some (.builtin "ValueError.__init__"))
  sub : PySem.W.subIn K (.ref C) (.type "ValueError") = some true
  own : PySem.W.mroIn K C (.ref C) = some true
  par : PySem.W.nsIn K cStatics "thirdparty.any" = some none
  lk : ∃ oc od osl, K.lookup f = some ⟨oc, od, .func fd, osl⟩
  par1 : (fd.params.posonlyargs ++ fd.params.args).head?.map (·.arg) = some me
  code : ∃ ccl cdd vs ccs file tf, K.lookup cda = some ⟨ccl, cdd, .fields vs, ccs⟩ ∧ vs[2]? = some (.str file tf) ∧ ((P.main.file : Str) == file) = true
  cell : ∃ cl cld csl, K.lookup cc = some ⟨cl, cld, .cell (some (.ref C)), csl⟩
  sup : PySem.W.nsIn K mainGlobals "super" = some none
  ks : scope.names.lookup ("super" : Str) = some .globalImplicit
  kc : scope.names.lookup ("__class__" : Str) = some .free
  ka : scope.names.lookup me = some .local
  kf : scope.kind = .function
  top : (P.main.scope.names.lookup ("super" : Str)).isSome = false
abbrev iniE (f : Addr) (q : Str) (scope : Scope) (L cda cc : Addr) : Env := PySem.W.ksEnv q scope L f (.ref cda) cc
abbrev exV (C t1 : Addr) : Obj := { cls := .ref C, dict := none, data := .fields #[.ref t1, .none, .none, .none, .bool false, .none] }
theorem super_init {P : Program} {w : World} {A : Around} {E : Value → Shared → Prop} {K : PySem.W.Frag} {C f x t0 cda cc L : Addr} {j : Nat} {q me txt : Str} {scope : Scope} {fd : FuncData} {body : List Stmt} {m mg mb : Str → Option Value} {p0 p1 p2 p3 p4 : Pos} {s : Shared} {Q : Value → Shared → Prop}
    (I : ExI P K C f q scope cda cc fd me) (X : K.In s.heap) (gl : s.heap.Ns mainGlobals mg) (bl : s.heap.Ns builtinsNs mb) (bb : ∀ y : Str, y ≠ "__name__" → mb y = bootBuiltins y) (ns : s.heap.Ns L m) (hm : m me = some (.ref x)) (hx : s.heap.get? x = some (exV C t0))
    {pl : Sem Bool} (he : eval (.Call (.Attribute (.Call (.Name "super" p0) [] [] p1) "__init__" p2) [.Constant (.str txt) j p3] [] p4) (iniE f q scope L cda cc) = (do
      let ov ← attributeBase (.Call (.Name "super" p0) [] [] p1) "__init__" (iniE f q scope L cda cc) (eval (.Call (.Name "super" p0) [] [] p1) (iniE f q scope L cda cc))
      standAt p2.atName
      let (g, first) ← holding [ov] (getMethod ov "__init__" pl)
      callWith p4 g first (backTo p4 (starEach [.Constant (.str txt) j p3] (iniE f q scope L cda cc))) []))
    (h : ∀ h' t2 tk, (∀ b o, b ≠ x → s.heap.get? b = some o → h'.get? b = some o) → h'.get? x = some (exV C t2) → Q .none { s with heap := h', toks := tk }) :
    _root_.PySem.wpAt (model P w) A (.func body (iniE f q scope L cda cc)) (eval (.Call (.Attribute (.Call (.Name "super" p0) [] [] p1) "__init__" p2) [.Constant (.str txt) j p3] [] p4) (iniE f q scope L cda cc)) Q E s := by
  obtain ⟨oc, od, osl, lkf⟩ := I.lk
  obtain ⟨ar, har, hself⟩ : ∃ ar, (fd.params.posonlyargs ++ fd.params.args).head? = some ar ∧ ar.arg = me := by
    have e := I.par1
    cases z : (fd.params.posonlyargs ++ fd.params.args).head? with
    | none =>
      rw [z] at e
      cases e
    | some ar =>
      rw [z] at e
      exact ⟨ar, rfl, Option.some.inj e⟩
  obtain ⟨ccl, cdd, vs, ccs, file, tf, lkc, hvs, hfile⟩ := I.code
  obtain ⟨cl, cld, csl, lcell⟩ := I.cell
  obtain ⟨nm, qc, N, bs, bm, sn, sb, ab, col, dd, k0, k1, k2, k3, k5, hC, hbm⟩ := I.T.cls
  have hcl : PySem.W.clsIn K C = some { name := nm, bases := bs, mro := .ref C :: bm, ns := N, qualname := qc, hasDict := true, slotNames := sn, subclasses := sb, abstract := ab, collection := col, hasDel := false } := by
    unfold PySem.W.clsIn
    rw [hC] <;> rfl
  have J : PySem.W.InstAt s.heap x (exV C t0) C none := ⟨hx, rfl, rfl, trivial⟩
  obtain ⟨hp, g, d, t, os⟩ := s
  refine PySem.ks_wpAt_MethodCall (he := he) ?_
  refine PySem.ks_wpAt_super_base (env := iniE f q scope L cda cc) I.ks I.kc (by decide) rfl (X _ _ lkf) rfl har rfl (X _ _ lkc) rfl hvs hfile I.top ?_
  have missS : mg "super" = none := PySem.W.mg_none_of X gl I.sup
  refine PySem.W.ks_loadName_global I.kf I.ks (loadGlobal_builtin (env := iniE f q scope L cda cc) gl missS bl ((bb _ (by decide +kernel)).trans (show bootBuiltins "super" = some (.type "super") by decide +kernel)) ⟨rfl, ?_⟩)
  refine wpAny_loadName_free I.kf I.kc rfl ⟨_, X _ _ lcell, rfl⟩ ?_
  refine wpAny_loadName_local I.kf (by rw [hself]; exact I.ka) ns (by rw [hself]; exact hm) ?_
  refine PySem.ks_wpAny_isType_cls (X _ _ hC) rfl ⟨rfl, ?_⟩
  refine PySem.ks_wpAny_call_super (X _ _ hC) rfl hx rfl (fun c e => by cases e) (PySem.W.looks_mroIn X I.own) fun h1 hso k1 => ?_
  have X1 : K.In h1 := X.keeps k1
  have J1 : PySem.W.InstAt h1 x (exV C t0) C none := ⟨k1 _ _ hx, rfl, rfl, trivial⟩
  have al : PySem.W.alongIn K "__init__" (((Value.ref C :: bm).dropWhile (· != .ref C)).drop 1) = some (some (.builtin "ValueError.__init__")) := by
    have e := I.ini
    unfold PySem.W.ks_superIn at e
    rw [hcl] at e
    exact e
  refine PySem.W.kxs_getMethod PySem.W.kxs_ValueError hso (PySem.W.looks_opaque X1 I.par) (l₀ := .ref C :: bm) (fun A Q E s k q => wpAny_bind ((PySem.W.looks_clsIn X1 hcl) A _ E s k (wpAny_pure q))) rfl X1 al
    (J1.type.andThen (PySem.W.looks_subIn X1 I.sub)) (PySem.W.ks_ne X1 J1 hcl) (by decide) ?_
  have k2 : ∀ b o, h1.get? b = some o → (h1.push (PySem.W.kxs_mw "ValueError.__init__" x)).get? b = some o := fun b o e => Heap.get?_push_of_some _ e
  have hu : (h1.push (PySem.W.kxs_mw "ValueError.__init__" x)).get? h1.objs.size = some (PySem.W.kxs_mw "ValueError.__init__" x) := Heap.get?_push_at rfl rfl
  have hC2 := k2 _ _ (k1 _ _ (X _ _ hC))
  have hx2 := k2 _ _ (k1 _ _ hx)
  refine PySem.W.kxs_callWith (i := "ValueError.__init__") (x := x) rfl (evalArgs_plain ?_)
  show wpAny _ _ (spliced ((false, eval (.Constant (.str txt) j p3) (iniE f q scope L cda cc)) :: backTo p4 (starEach [] (iniE f q scope L cda cc)))) _ _ _
  refine Calls.spliced_cons (wpAny_Constant_str (Calls.spliced_nil ⟨hu, ?_⟩))
  refine wpAny_call (codeAny_of_tree ?_)
  show wpAny _ A.in1 (callAny (.ref h1.objs.size) ⟨_, []⟩) _ _ _
  simp only [callAny]
  refine wpAny_bind (wpAny_load hu ?_)
  simp only [PySem.W.kxs_mw, show (Value.type "method-wrapper" == Value.type "method" || Value.type "method-wrapper" == Value.type "builtin_function_or_method" || Value.type "method-wrapper" == Value.type "method-wrapper") = true by decide, if_true]
  refine PySem.W.KFB.if_so (by decide) ?_
  refine wpAny_bind (PySem.W.check_bound_init PySem.F.excBase_ValueError.toExcCallFacts hC2 hx2 rfl ?_)
  refine wpAny_bind (wpAny_pure (wpAny_pure ?_))
  refine ⟨plainId_quiet PySem.F.excBase_ValueError.init.plain _, codeAny_builtin PySem.F.excBase_ValueError.initEntry ?_⟩
  refine PySem.W.exc_init_tree (cls := .ref C) (t0 := t0) (dv := none) (c2 := .none) (c3 := .none) (b4 := .bool false) hx2 (by show 1 ≤ sizeLine; decide) fun h3 k3 e3 _ => ?_
  exact h h3 _ _ (fun b o n e => k3 b o n (k2 _ _ (k1 _ _ e))) e3
end Cn
set_option Elab.async false
set_option linter.all false
set_option maxRecDepth 100000
set_option maxHeartbeats 4000000
namespace Cn
open PySem PySem.Spec PySem.Calls PyProof.Rows L2
/-- its context -/
def iniCx (P : Program) (w : World) (K : PySem.W.Frag) (mg : Str → Option Value) (base : Heap) (A : Around) (outer : List Env) (s : Shared) (H : Hp) (N : List Str) (f : Addr) (q : Str) (scope : Scope) (cda cc : Addr) : Cx where
  prog := P
  w := w
  K := K
  mg := mg
  base := base
  A := A.deeper (iniE f q scope s.heap.objs.size cda cc)
  N := N
  s_0 := s
  H_0 := H
  env := iniE f q scope s.heap.objs.size cda cc
  outer := outer
  stack := iniE f q scope s.heap.objs.size cda cc :: outer
  ex := []
  fn := fun _ => false
  calm := true
  pn := []
  xe := fun _ _ => False
section
variable {P : Program} {w : World} {K : PySem.W.Frag} {mg : Str → Option Value} {base : Heap} {A : Around} {outer : List Env} {s : Shared} {H : Hp} {C f cda cc : Addr} {q me x : Str} {scope : Scope} {fd : FuncData}
theorem ini_start {h₁ : Heap} {tk : Nat} {a : Addr} {y : V} {uy : Value} (I : ExI P K C f q scope cda cc fd me) (e0 : Env0 P w K mg base A outer s H) (hd : A.handled = none) (kx : scope.names.lookup x = some .local) (ne : me ≠ x)
    (fr : ∀ z, scope.names.lookup z = some .cell ∨ scope.names.lookup z = some .free → z = "__class__")
    (ns : h₁.Ns s.heap.objs.size fun z => ([(me, .ref a), (x, uy)] : List (Str × Value)).reverse.lookup z) (kp : ∀ b o, s.heap.get? b = some o → h₁.get? b = some o) (ry : RelV y uy) :
    Inv (iniCx P w K mg base A outer s H [me, x] f q scope cda cc) [] [some (.ref a), some y] H { s with heap := h₁, toks := tk } := by
  obtain ⟨cl, cld, csl, lcell⟩ := I.cell
  have hc0 := e0.mod.kin _ _ lcell
  have one : ∀ {z : Str} {c : Addr}, (iniE f q scope s.heap.objs.size cda cc).cells.lookup z = some c → z = "__class__" ∧ c = cc := fun {z c} e => by
    have e : ([("__class__", cc)] : List (Str × Addr)).lookup z = some c := e
    rw [List.lookup_cons] at e
    cases hz : (z == ("__class__" : Str)) with
    | true =>
      rw [hz] at e
      exact ⟨beq_iff_eq.mp hz, (Option.some.inj e).symm⟩
    | false =>
      rw [hz] at e
      cases e
  have noA : ∀ b : Addr, b ∉ (iniCx P w K mg base A outer s H [me, x] f q scope cda cc).ex := fun b z => absurd (show b ∈ ([] : List Addr) from z) List.not_mem_nil
  refine ⟨⟨e0.mod, I.kf, rfl, rfl, Nat.le_refl _, fun y z c e1 e2 => (one e1).1.trans (one e2).1.symm, fun z hz => ?_, fun z c e _ => absurd (show false = true from e) Bool.false_ne_true, fun _ => hd, Around.frames_deeper e0.frames, .inr ⟨rfl, rfl⟩, fun b z => absurd z (noA b), e0.bs, e0.bsz, fun b _ _ => noA b, fun b z => absurd z (noA b), e0.funs, e0.frf⟩,
    rfl, e0.bare, Un.kept kp, ⟨_, ns, fun i z v e1 e2 e3 => ?_⟩, fun z c e => ?_, e0.hok.fresh (Nat.le_refl _), fun z c e => ?_, fun p hp => absurd (show p ∈ ([] : List (Addr × Obj)) from hp) List.not_mem_nil, e0.hok.kept kp, rfl⟩
  · rw [fr z hz]
    exact ⟨cc, rfl⟩
  · have hme : ([(me, .ref a), (x, uy)] : List (Str × Value)).reverse.lookup me = some (.ref a) := by
      show ([(x, uy), (me, .ref a)] : List (Str × Value)).lookup me = _
      rw [List.lookup_cons, show (me == x) = false from beq_eq_false_iff_ne.mpr ne, List.lookup_cons, show (me == me) = true from beq_iff_eq.mpr rfl]
    have hxx : ([(me, .ref a), (x, uy)] : List (Str × Value)).reverse.lookup x = some uy := by
      show ([(x, uy), (me, .ref a)] : List (Str × Value)).lookup x = _
      rw [List.lookup_cons, show (x == x) = true from beq_iff_eq.mpr rfl]
    match i, e1, e2 with
    | 0, e1, e2 =>
      cases e1
      cases e2
      exact ⟨_, rfl, .inl ⟨I.ka, hme⟩⟩
    | 1, e1, e2 =>
      cases e1
      cases e2
      exact ⟨_, ry, .inl ⟨kx, hxx⟩⟩
    | _ + 2, e1, _ => cases e1
  · rw [(one e).2]
    exact ⟨_, _, kp _ _ (e0.bs _ _ hc0).1, rfl⟩
  · rw [(one e).2]
    exact (e0.bs _ _ hc0).2
/-- what it promises: the object has its dict with the field -/
def spIni (C : Addr) (fld : Str) : Sp := fun vs H Q _ => ∃ (a : Addr) (y : V), vs = [.ref a, y] ∧ H a = some (exo a C none) ∧ ∀ dx, H dx = none → dx ≠ a → Q .non (upd (upd H dx (exd dx [(fld, y)])) a (exo a C (some dx)))
theorem ini_ok {fld txt name : Str} {j k : Nat} {params : Arguments} {dV kV doc pm ct : Value} {an : Option Addr} {p0 p1 p2 p3 p4 p5 p6 p7 p8 p9 : Pos} {pl : Sem Bool} {body : List Stmt}
    (hbody : body = [.Expr (.Call (.Attribute (.Call (.Name "super" p0) [] [] p1) "__init__" p2) [.Constant (.str txt) j p3] [] p4) p5, .Assign [.Attribute (.Name me p6) fld p7] (.Name x p8) p9])
    (hfd : fd = PySem.W.ksFn name q params body scope dV kV doc pm an (.ref cda) ct cc) (I : ExI P K C f q scope cda cc fd me) (hcd : PySem.W.codeIn K (.ref cda) q = true) (kx : scope.names.lookup x = some .local) (ne : me ≠ x)
    (fr : ∀ z, scope.names.lookup z = some .cell ∨ scope.names.lookup z = some .free → z = "__class__") (nc : ∀ y ∈ scope.names, y.2 ≠ .cell) (co : scope.isCoroutine = false) (ge : scope.isGenerator = false) (noF : PySem.W.findIn K (.ref C) fld = some none)
    (d1 : (me == ("__debug__" : Str)) = false) (d2 : (me == ("__classdict__" : Str)) = false) (d3 : (x == ("__debug__" : Str)) = false) (d4 : (x == ("__classdict__" : Str)) = false)
    (he : ∀ L : Addr, eval (.Call (.Attribute (.Call (.Name "super" p0) [] [] p1) "__init__" p2) [.Constant (.str txt) j p3] [] p4) (iniE f q scope L cda cc) = (do
      let ov ← attributeBase (.Call (.Name "super" p0) [] [] p1) "__init__" (iniE f q scope L cda cc) (eval (.Call (.Name "super" p0) [] [] p1) (iniE f q scope L cda cc))
      standAt p2.atName
      let (g, first) ← holding [ov] (getMethod ov "__init__" pl)
      callWith p4 g first (backTo p4 (starEach [.Constant (.str txt) j p3] (iniE f q scope L cda cc))) []))
    (hsw : ∀ L : Addr, swapsWith (.Call (.Attribute (.Call (.Name "super" p0) [] [] p1) "__init__" p2) [.Constant (.str txt) j p3] [] p4) none p5.line (iniE f q scope L cda cc) = pure false := by intro L; rfl) :
    FnOk P w K mg base C8.CX0 (k + 1) f fd [me, x] (spIni C fld) := by
  refine ⟨fun vs H Q E h => by obtain ⟨a, y, rfl, _⟩ := h; rfl, fun A outer s H args us vs Q E hr e0 hb r h => ?_⟩
  obtain ⟨a, y, rfl, ha, qq⟩ := h
  obtain ⟨uy, rfl, ry⟩ : ∃ uy, us = [.ref a, uy] ∧ RelV y uy := by
    cases r with
    | cons r1 r2 =>
      cases r2 with
      | cons r3 r4 =>
        cases r4
        cases r1
        exact ⟨_, rfl, r3⟩
  have KX : K.In s.heap := e0.mod.kin.keeps fun b o e => (e0.bs b o e).1
  have lim : s.heap.NoLimit := e0.mod.nolimit.keeps fun b o e => (e0.bs b o e).1
  obtain ⟨oc, od, osl, lk⟩ := I.lk
  subst hfd
  refine codeAny_call_function hr.depth (KX _ _ lk) rfl co ge rfl (PySem.W.codeRec_of KX hcd) (hb _ _ _ _ ?_)
  refine wpAny_newFunctionEnv nc (fun z hz => ?_) (fun h₁ hns hsb => ⟨lim.fresh _ hsb, ?_⟩) I.kf
  · have hz : z ∈ ([(me, .ref a), (x, uy)] : List (Str × Value)) := hz
    rcases List.mem_cons.mp hz with e | hz
    · rw [e]
      exact I.ka
    · rw [List.mem_singleton.mp hz]
      exact kx
  have kp : ∀ b o, s.heap.get? b = some o → h₁.get? b = some o := fun b o e => hsb.extBut b o (Nat.ne_of_lt (Heap.lt_size e)) (Heap.get?_push_of_some _ e)
  have J := ini_start (tk := s.toks + 2) (a := a) I e0 hr.hd kx ne fr hns kp ry
  show codeAny (model P w) A (.func body (iniE f q scope s.heap.objs.size cda cc)) _ _
  subst hbody
  obtain ⟨t0, hx⟩ := exo_at J.hok ha
  obtain ⟨mb, hbl, hbb⟩ := e0.mod.blt
  refine PySem.ks_codeAny_funcAt (PySem.ks_wpAt_execs_cons (PySem.ks_wpAt_Expr_any (super_init I J.kIn (J.mod.glob.keeps J.bk) (hbl.keeps J.bk) hbb hns ?_ hx (he _) fun h' t2 tk k3 e3 => ?_) J.quiet (hsw _)))
  · show ([(x, uy), (me, .ref a)] : List (Str × Value)).lookup me = _
    rw [List.lookup_cons, show (me == x) = false from beq_eq_false_iff_ne.mpr ne, List.lookup_cons, show (me == me) = true from beq_iff_eq.mpr rfl]
  have J2 := J.write (t' := tk) (x := a) (e := a) (o := exo a C none) (by rw [ha]; exact True.intro) (.inl rfl) k3 ⟨_, e3⟩ (exo_ok e3)
  have eu : upd H a (exo a C none) = H := by
    funext b
    by_cases hb : b = a
    · rw [hb, upd_same, ha]
    · rw [upd_ne hb]
  rw [eu] at J2
  have D2 : PSs (iniCx P w K mg base A outer s H [me, x] f q scope cda cc) [.Assign [.Attribute (.Name me p6) fld p7] (.Name x p8) p9] _ := pss_one (ps_ost (pe_var (i := 0) rfl (.inl I.ka) d1 d2) (pe_var (i := 1) rfl (.inl kx) d3 d4))
  refine PySem.wpAt_of_wpAny (wpAny_mono (D2.run [] _ _ H { nx := fun _ H' => Q .non H', rt := fun _ _ => False } J2 ?_) (fun fl s' hs => ?_) fun e s' z => z.elim)
  · exact ⟨_, rfl, _, rfl, a, C, rfl, I.T, noF, .inl ⟨ha, qq⟩⟩
  · cases fl with
    | next =>
      obtain ⟨σ', H', J', z⟩ := hs
      exact ⟨.non, H', J'.os, J'.bare, J'.base, J'.hok, rfl, z⟩
    | ret u =>
      obtain ⟨_, _, _, _, _, z⟩ := hs
      exact z.elim
    | brk =>
      obtain ⟨_, _, _, z⟩ := hs
      exact z.elim
    | cont =>
      obtain ⟨_, _, _, z⟩ := hs
      exact z.elim
end
end Cn
set_option Elab.async false
set_option linter.all false
set_option maxRecDepth 100000
set_option maxHeartbeats 4000000
namespace Cn
open PySem PySem.Spec PyProof.Rows L2
/-- an own error class without an __init__ of its own -/
structure ExP (K : PySem.W.Frag) (mg : Str → Option Value) (x : Str) (C : Addr) : Prop where
  g : mg x = some (.ref C)
  k : PySem.W.keepIn K (.ref C) = true
  q : PySem.W.excIn K C [.type "ValueError", .type "Exception", .type "BaseException", .type "object"] "ValueError.__new__" = true
  s : PySem.W.subIn K (.ref C) (.type "BaseException") = some true
  t : PySem.W.typeIn K (.ref C) = some (.type "type")
/-- one with an __init__ that keeps its argument in the field f -/
structure ExJ (P : Program) (w : World) (K : PySem.W.Frag) (mg : Str → Option Value) (base : Heap) (x : Str) (C : Addr) (f : Str) : Prop where
  g : mg x = some (.ref C)
  T : OexC K C
  fn : ∃ (fI : Addr) (fd : FuncData) (ps : List Str), PySem.W.findIn K (.ref C) "__init__" = some (some (.ref fI)) ∧ PySem.W.typeIn K (.ref fI) = some (.type "function") ∧ FnOk P w K mg base C8.CX0 1 fI fd ps (spIni C f) ∧ Binds K fd ps []
end Cn
set_option Elab.async false
set_option linter.all false
set_option maxRecDepth 100000
set_option maxHeartbeats 4000000
namespace Cn
open PySem PySem.Spec PyProof.Rows L2
section
variable {X : Cx}
/-- X(e), X keeps its argument in the field f: the reading -/
def tExJ (C : Addr) (f : Str) (te : TE) : TE := fun σ H Q => te σ H fun y H1 => ∀ a dx, H1 a = none → H1 dx = none → dx ≠ a → Q (.ref a) (upd (upd (upd H1 a (exo a C none)) dx (exd dx [(f, y)])) a (exo a C (some dx)))
theorem pe_exJ {P : Program} {w : World} {K : PySem.W.Frag} {mg : Str → Option Value} {base : Heap} {x f : Str} {C : Addr} {e : Expr} {te : TE} {p pos : Pos} (hP : X.prog = P) (hw : X.w = w) (hK : X.K = K) (hm : X.mg = mg) (hb : X.base = base) (h : ExJ P w K mg base x C f) (hr : Room 2 X.A) (hg : Gl X x)
    (he : PE X e te) (hd : (x == ("__debug__" : Str)) = false := by decide) (hs : starEach [e] X.env = (false, eval e X.env) :: starEach [] X.env := by rfl) : PE X (.Call (.Name x p) [e] [] pos) (tExJ C f te) := by
  subst hP hw hK hm hb
  obtain ⟨fI, fd, ps, iC, tI, F1, B1⟩ := h.fn
  obtain ⟨nm, q, N, bs, bm, sn, sb, ab, col, dd, k0, k1, k2, k3, k5, hC, hbm⟩ := h.T.cls
  refine ⟨fun pins s σ H Q I hq => wpAny_Call_Name_kw (ld_glob I hg h.g ?_ hd)⟩
  refine PySem.W.callWith_K (h₀ := X.base) I.ok.mod.kin h.T.kC (thn ((pa_cons he pa_nil (hs := hs)).run pos pins s σ H (fun vs H1 => match vs with
    | [y] => ∀ a dx, H1 a = none → H1 dx = none → dx ≠ a → Q (.ref a) (upd (upd (upd H1 a (exo a C none)) dx (exd dx [(f, y)])) a (exo a C (some dx)))
    | _ => False) I hq) fun us t1 ⟨vs, H1, I1, r1, q1⟩ => ⟨I1.kIn, ?_⟩) hs rfl
  obtain ⟨y, rfl⟩ : ∃ y, vs = [y] := by
    match vs, q1 with
    | [y], _ => exact ⟨y, rfl⟩
  obtain ⟨uy, rfl, ry⟩ : ∃ uy, us = [uy] ∧ RelV y uy := by
    cases r1 with
    | cons z1 z2 =>
      cases z2
      exact ⟨_, rfl, z1⟩
  show wpAny _ _ (call (.ref C) [uy]) _ _ _
  obtain ⟨hp, g, dr, tk, os⟩ := t1
  have lt1 : hp.objs.size ≤ hp.objs.size + 1 := Nat.le_succ _
  have new : H1 (hp.objs.size + 1) = none := I1.hok.fresh lt1
  let hp2 := (hp.push (PySem.W.kdv_tup [uy])).push (PySem.HandSPX.excO C hp.objs.size)
  have old : ∀ b o, hp.get? b = some o → hp2.get? b = some o := fun b o e1 => Heap.get?_push_of_some _ (Heap.get?_push_of_some _ e1)
  have at_ : hp2.get? (hp.objs.size + 1) = some (PySem.HandSPX.excO C hp.objs.size) := by
    show ((hp.push (PySem.W.kdv_tup [uy])).push (PySem.HandSPX.excO C hp.objs.size)).get? (hp.objs.size + 1) = _
    heap_get
  have J : Inv X pins σ (upd H1 (hp.objs.size + 1) (exo (hp.objs.size + 1) C none)) ⟨hp2, g, dr, tk, os⟩ := I1.laid (t' := tk) (a := hp.objs.size + 1) (o := exo (hp.objs.size + 1) C none) (h' := hp2) old lt1 (exo_ok at_)
  have sp_ : spIni C f [V.ref (hp.objs.size + 1), y] (upd H1 (hp.objs.size + 1) (exo (hp.objs.size + 1) C none)) (fun v H2 => v = .non ∧ Q (.ref (hp.objs.size + 1)) H2) (fun _ _ _ => False) := ⟨_, y, rfl, upd_same, fun dx n1 n2 => ⟨rfl, q1 _ dx new (by rw [upd_ne n2] at n1; exact n1) n2⟩⟩
  have lens : [Value.ref (hp.objs.size + 1), uy].length = ps.length := by
    have e1 := F1.len _ _ _ _ sp_
    exact e1
  refine wpAny_call (PySem.HandSPX.call_own F.excBase_ValueError (fun Y => PySem.HandSPX.refsVE_contains Y bm hbm) (I1.kIn _ _ hC) (PySem.W.looks_findIn I1.kIn iC) (fun me => PySem.W.bind_fn I1.kIn me tI) (by show 1 ≤ sizeLine; decide)
    (codeAny_mono (F1.run _ X.stack _ _ ⟨[Value.ref (hp.objs.size + 1), uy], []⟩ [Value.ref (hp.objs.size + 1), uy] _ _ (fun _ _ _ => False) (hr.make C [uy] []) (J.env0.make C [uy] []) (B1 _ [Value.ref (hp.objs.size + 1), uy] J.kIn lens) (show Vals [V.ref (hp.objs.size + 1), y] [Value.ref (hp.objs.size + 1), uy] from .cons rfl (.cons ry .nil)) sp_) fun r s2 z => ?_))
  cases r with
  | error er => exact False.elim z
  | ok fl =>
    cases fl with
    | next => exact False.elim z
    | brk => exact False.elim z
    | cont => exact False.elim z
    | ret u =>
      obtain ⟨v, H2, w1, w2, w3, w4, rv, ev, q2⟩ := z
      subst ev
      exact ⟨rv, .ref _, H2, J.call' w1 w3 w4 w2 (fun b hb => absurd hb List.not_mem_nil), rfl, q2⟩
end
/-- an error of the class at D: plain and new; new with its dict; caught -/
inductive ErrAt (H : Hp) (a D : Addr) : Prop
  | plain (h : H a = some (ExO (.ref D) a))
  | own (dx : Addr) (fs : List (Str × V)) (h : H a = some (exo a D (some dx))) (k : H dx = some (exd dx fs))
  | caught (d : Option Addr) (h : H a = some (ErO (.ref D) d a)) (k : ErD H d)
theorem ErrAt.ex {H G : Hp} {a D : Addr} (e : Ex H G) : ErrAt H a D → ErrAt G a D
  | .plain h => .plain (e _ _ h)
  | .own dx fs h k => .own dx fs (e _ _ h) (e _ _ k)
  | .caught d h k => .caught d (e _ _ h) (by
    rcases k with k | ⟨dd, fs, k1, k2⟩
    · exact .inl k
    · exact .inr ⟨dd, fs, k1, e _ _ k2⟩)
theorem inst_err {P : Program} {w : World} {H : Hp} {h : Heap} {a D : Addr} (I : HOk P w H h) (e : ErrAt H a D) : ∃ (ob : Obj) (od : Option Obj), PySem.W.InstAt h a ob D od := by
  cases e with
  | plain e =>
    obtain ⟨⟨ob, vs, e1, e2, e3, _⟩, _, _⟩ := I a _ e
    obtain ⟨oc, odd, oda, osl⟩ := ob
    obtain ⟨z1, z2⟩ := e2
    dsimp only at z1 z2 e3
    subst z1 z2 e3
    exact ⟨_, none, ⟨e1, rfl, rfl, trivial⟩⟩
  | own dx fs e k =>
    obtain ⟨t1, e1⟩ := exo_at I e
    obtain ⟨mA, hns, _⟩ := exd_at I k
    obtain ⟨o, ho, _⟩ := lookIn_ns hns
    exact ⟨_, some o, ⟨e1, rfl, rfl, ho⟩⟩
  | caught d e k =>
    obtain ⟨ob, od, J, _⟩ := inst_of I e k
    exact ⟨ob, od, J⟩
/-- isinstance(e, c), e an error -/
def rIsErr (K : PySem.W.Frag) : List V → Hp → VK → Prop := fun xs H Q => ∃ (a D : Addr) (c : V) (cv : Value) (b : Bool), xs = [.ref a, c] ∧ ErrAt H a D ∧ ExcC K D ∧ (∀ u, RelV c u → u = cv) ∧ PySem.W.kitOne K (.ref D) cv = some b ∧ Q (.bl b) H
theorem call_isErr {X : Cx} {K : PySem.W.Frag} (hK : X.K = K) : CallR X (.builtin "isinstance") (rIsErr K) := by
  intro pins s σ H xs us Q I r h
  subst hK
  obtain ⟨a, D, c, cv, b, rfl, ha, C, hcv, e, q⟩ := h
  cases r with
  | cons rx rr =>
    cases rr with
    | cons rt rr =>
      cases rr
      cases rx
      have ec := hcv _ rt
      subst ec
      obtain ⟨ob, od, J⟩ := inst_err I.hok ha
      obtain ⟨cd, hc, _⟩ := PySem.W.any_some C.hd
      exact PySem.W.kia_one (PySem.W.kitx_exc (by rw [hc]; rfl) C.hg C.hk C.hs C.ha C.hn C.ht C.hm) I.kIn J e (fun z => nomatch z) fun tk => ⟨.bl b, H, I.kept (t' := tk) fun _ _ z => z, rfl, q⟩
end Cn
set_option Elab.async false
set_option linter.all false
set_option maxRecDepth 100000
set_option maxHeartbeats 4000000
namespace Cn
open PySem PySem.Spec PyProof.Rows L2 LamX
def KpG (P : Program) (w : World) (K : PySem.W.Frag) (mg : Str → Option Value) (base : Heap) (CX : CXT) (k : Nat) (x : Str) (ps : List Str) (sp : Sp) : Prop :=
  ∃ (f : Addr) (fd : FuncData), mg x = some (.ref f) ∧ PySem.W.keepIn K (.ref f) = true ∧ Binds K fd ps [] ∧ (∀ vs H Q E, sp vs H Q E → vs.length = ps.length) ∧
    (∀ (A : Around) (outer : List Env) (s : Shared) (H : Hp) (args : Args) (us : List Value) (vs : List V) (Q : VK) (E : XK), A.guards = some [] → Room k A → Env0 P w K mg base A outer s H → BindsTo s fd args (ps.zip us) → Vals vs us → sp vs H Q E →
      codeAny (model P w) A (.call (.ref f) args) (CR CX outer P w H s Q E) s) ∧ ∃ oc od osl, K.lookup f = some ⟨oc, od, .func fd, osl⟩
theorem KpG.mono {P : Program} {w : World} {K : PySem.W.Frag} {mg : Str → Option Value} {base : Heap} {CX : CXT} {j k : Nat} {x : Str} {ps : List Str} {sp : Sp} (h : KpG P w K mg base CX j x ps sp) (l : j ≤ k) : KpG P w K mg base CX k x ps sp :=
  let ⟨f, fd, a, b, c, d, e, lk⟩ := h
  ⟨f, fd, a, b, c, d, fun A outer s H args us vs Q E g hr => e A outer s H args us vs Q E g (hr.mono l), lk⟩
section
variable {X : Cx} {CX : CXT} {k : Nat} {x : Str} {ps : List Str} {sp : Sp} {p pos : Pos} {e : Expr} {es : List Expr} {t : TA}
theorem pe_kpG {E : XK} (h : KpG X.prog X.w X.K X.mg X.base CX k x ps sp) (hx : Passes CX X E) (gd : X.A.guards = some []) (hr : Room k X.A) (hg : Gl X x) (ha : PA X (e :: es) t) (hdb : (x == ("__debug__" : Str)) = false := by decide)
    (he : starEach (e :: es) X.env = (false, eval e X.env) :: starEach es X.env := by rfl) (hpl : (backTo pos (starEach es X.env)).any (·.1) = false := by rfl) : PE X (.Call (.Name x p) (e :: es) [] pos) (tCall sp [] E t) := by
  obtain ⟨f, fd, h1, h2, h3, h4, h5, _⟩ := h
  refine ⟨fun pins s σ H Q I hq => wpAny_Call_Name_kw (ld_glob I hg h1 ?_ hdb)⟩
  refine PySem.W.callWith_K (h₀ := X.base) I.ok.mod.kin h2 (thn (ha.run pos pins s σ H _ I hq) fun us s1 ⟨vs, H1, I1, r, q⟩ => ⟨I1.kIn, ?_⟩) he hpl
  have q : sp (vs ++ []) H1 Q E := q
  rw [List.append_nil] at q
  have hl : us.length = ps.length := by
    rw [← r.length]
    exact h4 _ _ _ _ q
  have bd : BindsTo s1 fd ⟨us, []⟩ (ps.zip us) := by
    have z := h3 s1 us I1.kIn (by rw [List.append_nil]; exact hl)
    rw [List.append_nil] at z
    exact z
  refine wpAny_call (codeAny_mono (h5 X.A X.stack s1 H1 ⟨us, []⟩ us vs Q E gd hr I1.env0 bd r q) fun rs s2 z => ?_)
  cases rs with
  | error er => exact hx pins σ H1 s1 er s2 I1 z
  | ok fl =>
    cases fl with
    | ret u => exact I1.after z
    | next => exact False.elim z
    | brk => exact False.elim z
    | cont => exact False.elim z
end
def permL {α : Type} (is : List Nat) (l : List α) : List α := is.filterMap fun i => l[i]?
/-- from the body, which may ask repr -/
theorem kpG_of {P : Program} {w : World} {K : PySem.W.Frag} {mg : Str → Option Value} {base : Heap} {CX : CXT} {k : Nat} {x : Str} {ps N : List Str} {st : Stmt} {sp : Sp} (Fx : ∃ f fd, mg x = some (.ref f) ∧ Fun K x x st f fd) (S : FnScope N ps (defScope st))
    (hb : ∀ {f : Addr} {fd : FuncData} (_ : Fun K x x st f fd), Binds K fd ps []) (len : ∀ vs H Q E, sp vs H Q E → vs.length = ps.length)
    (body : ∀ (f : Addr) (cdv : Value) (A : Around) (outer : List Env) (s : Shared) (H : Hp) (vs : List V) (Q : VK) (E : XK), (A.deeper (envOfC x (defScope st) s.heap.objs.size f cdv)).guards = some [] → Room k (A.deeper (envOfC x (defScope st) s.heap.objs.size f cdv)) → sp vs H Q E →
      ∃ t, PSs (cxOf CX P w K mg base N x (defScope st) f cdv A outer s H E) (defBody st) t ∧ t { nx := fun _ H' => Q .non H', rt := Q } (L2.start N vs) H) : KpG P w K mg base CX (k + 1) x ps sp := by
  obtain ⟨f, fd, hm, F⟩ := Fx
  have B := hb F
  obtain ⟨oc, od, kV, doc, pm, an, cdv, ct, osl, rfl, lk, hcd⟩ := F.ex
  exact ⟨f, _, hm, F.kp, B, len, fun A outer s H args us vs Q E g hr e0 bd r h => run_ofS (CX := CX) lk hcd S hr e0 bd r (len _ _ _ _ h) fun hr' => body f cdv A outer s H vs Q E g hr' h, _, _, _, lk⟩
end Cn
set_option Elab.async false
set_option linter.all false
set_option maxRecDepth 100000
set_option maxHeartbeats 4000000
namespace Cn
open PySem PySem.Spec PySem.Calls PyProof.Rows L2 LamX
end Cn
set_option Elab.async false
set_option linter.all false
set_option maxRecDepth 100000
set_option maxHeartbeats 4000000
namespace Cn
open PySem PySem.Spec PyProof.Rows L2
/-- a new frozen tuple, laid -/
theorem laid_tup {X : Cx} {pins : List (Addr × Obj)} {σ : L2.St} {H : Hp} {s : Shared} {xs : List V} {us : List Value} {n : Nat} (I : Inv X pins σ H s) (r : Vals xs us) (z : us.length ≤ sizeLine) :
    Inv X pins σ (upd H s.heap.objs.size (.frz { cls := .type "tuple", data := .seq us.toArray n } (.tup xs))) { s with heap := s.heap.push { cls := .type "tuple", data := .seq us.toArray n }, toks := s.toks } := by
  have hg : (s.heap.push { cls := .type "tuple", data := .seq us.toArray n }).get? s.heap.objs.size = some { cls := .type "tuple", data := .seq us.toArray n } := Heap.get?_push_size _ rfl
  exact I.laid (t' := s.toks) (fun b u e => Heap.get?_push_of_some _ e) (Nat.le_refl _) ⟨hg, by rw [r.length]; exact z, us, r, ⟨_, hg, rfl, _, rfl⟩⟩
def rCatZ (K : PySem.W.Frag) : R2 := fun x y H Q => ∃ a b xs ys, x = .ref a ∧ y = .ref b ∧ TupZ K H a xs ∧ TupZ K H b ys ∧ xs.length + ys.length ≤ sizeLine ∧ (xs = [] → Q (.ref b) H) ∧ (xs ≠ [] → ys = [] → Q (.ref a) H) ∧
  (xs ≠ [] → ys ≠ [] → ∀ p o, H p = none → o.dict = none → Q (.ref p) (upd H p (.frz o (.tup (xs ++ ys)))))
theorem op_catZ {X : Cx} {K : PySem.W.Frag} (hK : X.K = K) : OpR X (binaryOp .Add) (rCatZ K) := by
  subst hK
  intro pins s σ H x y v u Q I rx ry h
  obtain ⟨a, b, xs, ys, rfl, rfl, ha, hb, hz, q0, q1, q2⟩ := h
  cases rx
  cases ry
  obtain ⟨its, r1, p1, _⟩ := I.tuple ha.sq
  obtain ⟨its2, r2, p2, _⟩ := I.tuple hb.sq
  by_cases hx : xs = []
  · subst hx
    cases r1
    exact cat_tup0 p1 p2 ⟨.ref b, H, I, rfl, q0 rfl⟩
  · refine HT.cat_tup p1 p2 (fun z => hx (r1.nil_iff.mp z)) (fun z => ⟨.ref a, H, I, rfl, q1 hx (r2.nil_iff.mp z)⟩) (fun z => ?_) (by rw [← r1.length, ← r2.length]; exact hz)
    have len : (its ++ its2).length ≤ sizeLine := by
      rw [List.length_append, ← r1.length, ← r2.length]
      exact hz
    exact ⟨.ref s.heap.objs.size, _, laid_tup I (r1.append r2) len, rfl, q2 hx (fun w => z (r2.nil_iff.mpr w)) _ _ (I.hok.fresh (Nat.le_refl _)) rfl⟩
end Cn
set_option Elab.async false
set_option linter.all false
set_option maxRecDepth 100000
set_option maxHeartbeats 4000000
namespace Cn
open PySem PySem.Spec PyProof.Rows L2
/-- xs.count(x), of data -/
def rCountD (K : PySem.W.Frag) : V → List V → Hp → VK → Prop := fun x xs H Q => ∃ (a : Addr) (y : V) (d : D) (ds : List D), x = .ref a ∧ xs = [y] ∧ Dz K H (.ref a) (.list ds) ∧ Dz K H y d ∧ PyData.plainAll ds = true ∧ d.plain = true ∧ d.depth ≤ 60 ∧
  Q (.int ((ds.countP fun z => PyData.eqv z d : Nat) : Int)) H
theorem mt_countD {X : Cx} {K : PySem.W.Frag} (hK : X.K = K) (hu : X.A.units + 65 < cLine) : MtR X "list.count" (rCountD K) := by
  subst hK
  intro pins s σ H x xs v us Q I rx rxs h
  obtain ⟨a, y, d, ds, rfl, rfl, hl, hy, p1, p2, dp, q⟩ := h
  cases rx
  obtain ⟨u, rfl, ru⟩ := rxs.one
  obtain ⟨bs, rd⟩ := Dp.reads I d y u (hy.dp (noDict_plain _ p2)) ru
  cases hl with
  | lst hs ha =>
    obtain ⟨its, rv, ⟨o, n, ho, hc, _, hd⟩, _⟩ := I.list hs
    obtain ⟨as, ra⟩ := Dp.readsAll I ds _ its (DzAll.dp ha (noDict_plains _ p1)) rv
    exact PySem.SeqAt.count_list_data (vs := its.toArray) ⟨o, ho, hc, n, hd⟩ (by simpa using ra) rd p1 p2 (Nat.lt_of_le_of_lt (by have := Nat.min_le_right (PyData.depthAll ds) d.depth; omega) hu) ⟨.int _, H, I.tok _, ⟨_, rfl⟩, q⟩
end Cn
set_option Elab.async false
set_option linter.all false
set_option maxRecDepth 100000
set_option maxHeartbeats 4000000
namespace Cn
open PySem PySem.Spec PyProof.Rows L2
end Cn
set_option Elab.async false
set_option linter.all false
set_option maxRecDepth 100000
set_option maxHeartbeats 4000000
namespace Cn
open PySem PySem.Spec PyProof.Rows L2
/-- a def of the top as it stands -/
def Fg (K : PySem.W.Frag) (mg : Str → Option Value) (x : Str) (st : Stmt) : Prop := ∃ f fd, mg x = some (.ref f) ∧ Fun K x x st f fd
theorem ix_seqK {X : Cx} {K : PySem.W.Frag} (h : X.K = K) : IxR X (rIx K) := h ▸ ix_seq
theorem call_lenK {X : Cx} {K : PySem.W.Frag} (h : X.K = K) : CallR X (.builtin "len") (fun xs H Q => ∃ x n, xs = [x] ∧ LenV K x H n ∧ Q (.int n) H) := h ▸ call_len
theorem call_isi1K {X : Cx} {K : PySem.W.Frag} (h : X.K = K) : CallR X (.builtin "isinstance") (rIsi K) := h ▸ call_isi
def stK (lg cl : Addr) (rest turn : Int) : List (Key × V) := [(.inr "large", .ref lg), (.inr "cells", .ref cl), (.inr "rest", .int rest), (.inr "turn", .int turn)]
theorem k_lc : ¬ ((Sum.inr ("large" : Str) : Key) = Sum.inr ("cells" : Str)) := by decide +kernel
theorem k_lr : ¬ ((Sum.inr ("large" : Str) : Key) = Sum.inr ("rest" : Str)) := by decide +kernel
theorem k_lt : ¬ ((Sum.inr ("large" : Str) : Key) = Sum.inr ("turn" : Str)) := by decide +kernel
theorem k_cr : ¬ ((Sum.inr ("cells" : Str) : Key) = Sum.inr ("rest" : Str)) := by decide +kernel
theorem k_ct : ¬ ((Sum.inr ("cells" : Str) : Key) = Sum.inr ("turn" : Str)) := by decide +kernel
theorem k_rt : ¬ ((Sum.inr ("rest" : Str) : Key) = Sum.inr ("turn" : Str)) := by decide +kernel
theorem st_large (lg cl : Addr) (r t : Int) : valV (stK lg cl r t) (Sum.inr ("large" : Str) : Key) = some (.ref lg) := valV_pos rfl
theorem st_cells (lg cl : Addr) (r t : Int) : valV (stK lg cl r t) (Sum.inr ("cells" : Str) : Key) = some (.ref cl) := (valV_neg k_lc).trans (valV_pos rfl)
theorem st_rest (lg cl : Addr) (r t : Int) : valV (stK lg cl r t) (Sum.inr ("rest" : Str) : Key) = some (.int r) := (valV_neg k_lr).trans ((valV_neg k_cr).trans (valV_pos rfl))
theorem st_turn (lg cl : Addr) (r t : Int) : valV (stK lg cl r t) (Sum.inr ("turn" : Str) : Key) = some (.int t) := (valV_neg k_lt).trans ((valV_neg k_ct).trans ((valV_neg k_rt).trans (valV_pos rfl)))
theorem put_rest (lg cl : Addr) (r t v : Int) : putK (stK lg cl r t) (Sum.inr ("rest" : Str) : Key) (.int v) = stK lg cl v t := by
  have n4 : ¬ ((Sum.inr ("turn" : Str) : Key) = Sum.inr ("rest" : Str)) := fun e => k_rt e.symm
  unfold putK
  rw [valV_any, st_rest]
  unfold stK
  simp only [Option.isSome_some, if_true, List.map_cons, List.map_nil, if_neg k_lr, if_neg k_cr, if_neg n4]
theorem put_turn (lg cl : Addr) (r t v : Int) : putK (stK lg cl r t) (Sum.inr ("turn" : Str) : Key) (.int v) = stK lg cl r v := by
  unfold putK
  rw [valV_any, st_turn]
  unfold stK
  simp only [Option.isSome_some, if_true, List.map_cons, List.map_nil, if_neg k_lt, if_neg k_ct, if_neg k_rt]
structure StX (st lg cl : Addr) (large cells : List Int) (rest turn : Int) (H : Hp) : Prop where
  hs : H st = some (.dK (stK lg cl rest turn))
  hl : H lg = some (.lst (large.map V.int))
  hc : H cl = some (.lst (cells.map V.int))
  nn : ∀ x ∈ large, 0 ≤ x
  l1 : large.length ≤ 100
  l2 : cells.length ≤ 100
  r0 : 0 ≤ rest
  t0 : 0 ≤ turn
  ne : lg ≠ cl
/-- at most b more draws of its turn are asked -/
def StOk (st lg cl : Addr) (b : Nat) (H : Hp) : Prop := ∃ large cells rest turn, StX st lg cl large cells rest turn H ∧ turn + (b : Int) ≤ 1000000000
theorem StOk.mono {st lg cl : Addr} {b c : Nat} {H : Hp} (h : StOk st lg cl b H) (l : c ≤ b) : StOk st lg cl c H := by
  obtain ⟨la, ce, r, t, x, e⟩ := h
  exact ⟨la, ce, r, t, x, by omega⟩
/-- all but the state's own stands as it was -/
def Fr (st lg : Addr) (H H' : Hp) : Prop := ∀ c o, c ≠ st → c ≠ lg → H c = some o → H' c = some o
theorem Fr.refl {st lg : Addr} {H : Hp} : Fr st lg H H := fun _ _ _ _ h => h
theorem Fr.trans {st lg : Addr} {H H1 H2 : Hp} (a : Fr st lg H H1) (b : Fr st lg H1 H2) : Fr st lg H H2 := fun c o n m h => b c o n m (a c o n m h)
theorem Fr.of {st lg : Addr} {H H' : Hp} (e : Ex H H') : Fr st lg H H' := fun c o _ _ h => e c o h
theorem Fr.st {st lg : Addr} {H H1 : Hp} {o : HO} (a : Fr st lg H H1) : Fr st lg H (upd H1 st o) := fun c u n m h => by
  rw [upd_ne n]
  exact a c u n m h
theorem Fr.lg {st lg : Addr} {H H1 : Hp} {o : HO} (a : Fr st lg H H1) : Fr st lg H (upd H1 lg o) := fun c u n m h => by
  rw [upd_ne m]
  exact a c u n m h
theorem StX.ex {st lg cl : Addr} {la ce : List Int} {r t : Int} {H H' : Hp} (x : StX st lg cl la ce r t H) (e : Ex H H') : StX st lg cl la ce r t H' := ⟨e _ _ x.hs, e _ _ x.hl, e _ _ x.hc, x.nn, x.l1, x.l2, x.r0, x.t0, x.ne⟩
theorem StOk.ex {st lg cl : Addr} {b : Nat} {H H' : Hp} (h : StOk st lg cl b H) (e : Ex H H') : StOk st lg cl b H' := by
  obtain ⟨la, ce, r, t, x, q⟩ := h
  exact ⟨la, ce, r, t, x.ex e, q⟩
theorem StX.stl {st lg cl : Addr} {la ce : List Int} {r t : Int} {H : Hp} (x : StX st lg cl la ce r t H) : st ≠ lg := ne_of x.hs x.hl (fun z => nomatch z)
theorem StX.stc {st lg cl : Addr} {la ce : List Int} {r t : Int} {H : Hp} (x : StX st lg cl la ce r t H) : st ≠ cl := ne_of x.hs x.hc (fun z => nomatch z)
theorem StX.rest {st lg cl : Addr} {la ce : List Int} {r t v : Int} {H : Hp} (x : StX st lg cl la ce r t H) (hv : 0 ≤ v) : StX st lg cl la ce v t (upd H st (.dK (putK (stK lg cl r t) (Sum.inr ("rest" : Str) : Key) (.int v)))) :=
  ⟨by rw [upd_same, put_rest], by rw [upd_ne x.stl.symm]; exact x.hl, by rw [upd_ne x.stc.symm]; exact x.hc, x.nn, x.l1, x.l2, hv, x.t0, x.ne⟩
theorem StX.turn {st lg cl : Addr} {la ce : List Int} {r t v : Int} {H : Hp} (x : StX st lg cl la ce r t H) (hv : 0 ≤ v) : StX st lg cl la ce r v (upd H st (.dK (putK (stK lg cl r t) (Sum.inr ("turn" : Str) : Key) (.int v)))) :=
  ⟨by rw [upd_same, put_turn], by rw [upd_ne x.stl.symm]; exact x.hl, by rw [upd_ne x.stc.symm]; exact x.hc, x.nn, x.l1, x.l2, x.r0, hv, x.ne⟩
theorem StX.pop {st lg cl : Addr} {y : Int} {la ce : List Int} {r t : Int} {H : Hp} (x : StX st lg cl (y :: la) ce r t H) : StX st lg cl la ce r t (upd H lg (.lst (la.map V.int))) :=
  ⟨by rw [upd_ne x.stl]; exact x.hs, upd_same, by rw [upd_ne x.ne.symm]; exact x.hc, fun z hz => x.nn z (List.mem_cons_of_mem _ hz), by have := x.l1; rw [List.length_cons] at this; omega, x.l2, x.r0, x.t0, x.ne⟩
theorem shaped_ints (ns : List Int) : SeqAt.shaped (.list (ns.map .int)) = true := by
  have h1 : ∀ ns : List Int, PyData.canLayAll0 (ns.map .int) = true := fun ns => by
    induction ns with
    | nil => rfl
    | cons n ns ih =>
      rw [List.map_cons]
      unfold PyData.canLayAll0
      rw [ih]
      rfl
  have h2 : ∀ ns : List Int, PyData.depthAll (ns.map .int) ≤ 8 := fun ns => by
    induction ns with
    | nil => decide
    | cons n ns ih =>
      rw [List.map_cons]
      unfold PyData.depthAll
      exact Nat.max_le.mpr ⟨by unfold PyData.depth; omega, ih⟩
  unfold SeqAt.shaped
  have h3 : (PyData.list (ns.map .int)).canLay0 = true := by
    unfold PyData.canLay0
    exact h1 ns
  have h4 : (PyData.list (ns.map .int)).depth ≤ 64 := by
    have := h2 ns
    unfold PyData.depth
    omega
  rw [h3, decide_eq_true h4]
  rfl
theorem dp_ints {K : PySem.W.Frag} {H : Hp} {a : Addr} {ns : List Int} (h : SqL K H a (ns.map V.int)) : Dp K H (.ref a) (.list (ns.map .int)) := by
  refine .lst h ?_
  clear h
  induction ns with
  | nil => exact .nil
  | cons n ns ih => exact .cons (.int n) ih
theorem eqv_nil (ns : List Int) : PyData.eqv (.list (ns.map .int)) (.list []) = ns.isEmpty := by
  cases ns with
  | nil => simp only [List.map_nil, PyData.eqv, PyData.eqvAll]; rfl
  | cons n ns => simp only [List.map_cons, PyData.eqv, PyData.eqvAll]; rfl
/-- x != [] of a list of whole numbers -/
theorem ne_nil {K : PySem.W.Frag} {H : Hp} {a p : Addr} {ns : List Int} {Q : VK} (h : H a = some (.lst (ns.map V.int))) (hp : H p = none) (q : Q (.bl (!ns.isEmpty)) (upd H p (.lst []))) : rNeD K (.ref a) (.ref p) (upd H p (.lst [])) Q :=
  ⟨_, .list [], dp_ints (SqL.of (by rw [upd_ne (ne_of_none h hp)]; exact h)), .lst (SqL.of upd_same) .nil, shaped_ints ns, by decide +kernel, by rw [eqv_nil]; exact q⟩
section
variable {P : Program} {w : World} {K : PySem.W.Frag} {mg : Str → Option Value} {base : Heap}
/-- a def's promise by hand -/
theorem kpH {x : Str} {st : Stmt} {N ps : List Str} {k : Nat} {sp : Sp} (Fx : Fg K mg x st) (S : FnScope N ps (defScope st)) (hb : ∀ {f : Addr} {fd : FuncData} (_ : Fun K x x st f fd), Binds K fd ps []) (len : ∀ vs H Q E, sp vs H Q E → vs.length = ps.length)
    (body : ∀ (f₀ : Addr) (cdv : Value) (A : Around) (outer : List Env) (s : Shared) (H : Hp) (vs : List V) (Q : VK) (E : XK), Room k (A.deeper (envOfC x (defScope st) s.heap.objs.size f₀ cdv)) → sp vs H Q E →
      ∃ t, PSs (cxOf CX0 P w K mg base N x (defScope st) f₀ cdv A outer s H E).nox (defBody st) t ∧ t { nx := fun _ H' => Q .non H', rt := Q } (start N vs) H) : Kp P w K mg base (k + 1) x ps sp := by
  obtain ⟨a, fd, hm, F⟩ := Fx
  exact ⟨a, fd, hm, F.kp, hb F, F.ok S len fun cdv A outer s H vs Q E hr h => body a cdv A outer s H vs Q E hr h⟩
/-- the loop that brings a great number forward -/
theorem draw_loop {rest : TS} {D : Ends} {st lg cl : Addr} {t0 : Int} {ce0 : List Int} {σ : L2.St} (hσ : σ[0]? = some (some (.ref st)))
    {H0 : Hp} (after : ∀ la r H', StX st lg cl la ce0 r t0 H' → Fr st lg H0 H' → rest D σ H') :
    ∀ {la0 : List Int} {r0 : Int} {H : Hp}, StX st lg cl la0 ce0 r0 t0 H → Fr st lg H0 H →
    tSeq (tWhile (tAnd (tTest (tOp rEq (tDGet (tVar 0) (tC (.str "rest"))) (tC (.int 0)))) (tTest (tOp (rNeD K) (tDGet (tVar 0) (tC (.str "large"))) (tLst tNil))))
      (sDPut (tVar 0) (tC (.str "rest")) (tBM K "list" rPopAt (tDGet (tVar 0) (tC (.str "large"))) (tCons (tC (.int 0)) tNil)))) rest D σ H := fun {la0 r0 H} X0 fr0 => by
  refine ⟨fun m σ' H' => σ' = σ ∧ ∃ la r, la.length = m ∧ StX st lg cl la ce0 r t0 H' ∧ Fr st lg H0 H', ⟨_, rfl, la0, r0, rfl, X0, fr0⟩, ?_⟩
  rintro m σ2 H' ⟨hs2, la, r, hm, X, fr⟩
  rw [hs2]
  have dg : ∀ {H1 : Hp} {k : Str} {v : V}, Ex H' H1 → valV (stK lg cl r t0) (Sum.inr k : Key) = some v → DGet H1 st (.str k) (some v) := fun {H1 k v} z e => by
    rw [← e]
    exact DGet.k (k := Sum.inr k) (z _ _ X.hs)
  refine ⟨_, hσ, st, .int r, rfl, dg (Evl.Ex.refl _) (st_rest lg cl r t0), rfl, _, rfl, ?_⟩
  by_cases hr : V.int r = V.int 0
  · rw [decide_eq_true hr]
    refine iteT ⟨_, hσ, st, .ref lg, rfl, dg (Evl.Ex.refl _) (st_large lg cl r t0), Nat.zero_le _, fun p hp => ne_nil X.hl hp ⟨_, rfl, ?_⟩⟩
    have X' := X.ex (Evl.Ex.new (o := .lst []) hp)
    cases la with
    | nil => exact iteF (after [] r _ X' (fr.trans (Fr.of (Evl.Ex.new hp))))
    | cons y la =>
      refine iteT ⟨fun σ' H' => σ' = σ ∧ ∃ r, StX st lg cl la ce0 r t0 H' ∧ Fr st lg H0 H', fun σ' H' ⟨h1, r, h2, h3⟩ => ⟨la.length, by rw [← hm, List.length_cons]; exact Nat.lt_succ_self _, h1, la, r, rfl, h2, h3⟩, ?_⟩
      have X2 := X'.pop
      refine ⟨_, hσ, st, .ref lg, rfl, dg (Evl.Ex.new hp) (st_large lg cl r t0), .inl ⟨rfl, _, SqL.of X'.hl⟩, lg, _, 0, 0, .int y, rfl, rfl, X'.hl, by decide, by decide, seqIndex_of (by decide) (by rw [List.length_map, List.length_cons]; omega), rfl, ?_⟩
      refine ⟨_, hσ, st, _, rfl, DPut.k (k := Sum.inr ("rest" : Str)) X2.hs (small1000 (by show 4 ≤ 1000; decide)), rfl, y, X2.rest (X.nn y List.mem_cons_self), (Fr.st (Fr.lg (fr.trans (Fr.of (Evl.Ex.new hp)))))⟩
  · rw [decide_eq_false hr]
    exact iteF (iteF (after la r _ X fr))
theorem pow_lt {x : Int} {k : Nat} (h0 : 0 ≤ x) (h1 : x < 2 ^ k) : x.natAbs < 2 ^ k := by
  have e : ((x.natAbs : Nat) : Int) = x := Int.natAbs_of_nonneg h0
  have h2 : ((x.natAbs : Nat) : Int) < ((2 ^ k : Nat) : Int) := by
    rw [e]
    simpa using h1
  exact Int.ofNat_lt.mp h2
theorem ite_int {b : Bool} {ta tb : TE} {σ : L2.St} {H : Hp} {Q : VK} (h1 : b = true → ∃ c : Int, ∀ Q : VK, Q (.int c) H → ta σ H Q) (h2 : b = false → ∃ c : Int, ∀ Q : VK, Q (.int c) H → tb σ H Q) (k : ∀ c : Int, Q (.int c) H) :
    if b = true then ta σ H Q else tb σ H Q := by
  cases b with
  | true =>
    obtain ⟨c, h⟩ := h1 rfl
    exact iteT (h Q (k c))
  | false =>
    obtain ⟨c, h⟩ := h2 rfl
    exact iteF (h Q (k c))
end
/-- a table of code objects -/
def IsTbl (o : HO) : Prop := ∃ ps, o = .tbl ps
/-- the list of great numbers, and the tables of code objects with the names that theirs bear -/
abbrev Lg := Addr × List (Addr × Str)
/-- F2 above F, while the state's own and the tables may change -/
structure GM (st : Addr) (lg : Lg) (F H F2 H2 : Hp) : Prop where
  ff : Ex F F2
  fh : Ex F2 H2
  fr : ∀ c o, c ≠ st → c ≠ lg.1 → ¬ IsTbl o → H c = some o → H2 c = some o
  nw : ∀ b o, ¬ IsTbl o → H b = some o → F b = none → F2 b = none
  kp : ∀ b o, ¬ IsTbl o → H b = some o → ∃ o', ¬ IsTbl o' ∧ H2 b = some o'
  tk : ∀ p ∈ lg.2, (∃ ps, H p.1 = some (.tbl ps)) → (∃ ps, H2 p.1 = some (.tbl ps)) ∧ (F p.1 = none → F2 p.1 = none)
  nt : (∀ b ps, F b ≠ some (.tbl ps)) → ∀ b ps, F2 b ≠ some (.tbl ps)
theorem Grow.gm {st : Addr} {lg : Lg} {F H F2 H2 : Hp} (g : Grow F H F2 H2) : GM st lg F H F2 H2 := ⟨g.ff, g.fh, fun c o _ _ _ h => g.hh c o h, fun b o _ h q => g.nw b o h q, fun b o t h => ⟨o, t, g.hh b o h⟩, fun p _ ⟨ps, h⟩ => ⟨⟨ps, g.hh _ _ h⟩, fun q => g.nw _ _ h q⟩, g.nt⟩
theorem GM.refl {st : Addr} {lg : Lg} {F H : Hp} (z : Ex F H) : GM st lg F H F H := ⟨Evl.Ex.refl _, z, fun _ _ _ _ _ h => h, fun _ _ _ _ q => q, fun b o t h => ⟨o, t, h⟩, fun _ _ h => ⟨h, fun q => q⟩, fun h => h⟩
theorem GM.trans {st : Addr} {lg : Lg} {F H F1 H1 F2 H2 : Hp} (a : GM st lg F H F1 H1) (c : GM st lg F1 H1 F2 H2) : GM st lg F H F2 H2 :=
  ⟨a.ff.trans c.ff, c.fh, fun d o n m t h => c.fr d o n m t (a.fr d o n m t h), fun d u t hd q => let ⟨v, tv, e⟩ := a.kp d u t hd; c.nw d v tv e (a.nw d u t hd q), fun d u t hd => let ⟨v, tv, e⟩ := a.kp d u t hd; c.kp d v tv e,
    fun p hp h => let ⟨h1, n1⟩ := a.tk p hp h; let ⟨h2, n2⟩ := c.tk p hp h1; ⟨h2, fun q => n2 (n1 q)⟩, fun h => c.nt (a.nt h)⟩
theorem tbl_lst {xs : List V} : ¬ IsTbl (.lst xs) := fun ⟨_, h⟩ => nomatch h
theorem tbl_dK {xs : List (Key × V)} : ¬ IsTbl (.dK xs) := fun ⟨_, h⟩ => nomatch h
theorem tbl_ins {C dx : Addr} {fs : List (Str × V)} : ¬ IsTbl (.ins C dx fs) := fun ⟨_, h⟩ => nomatch h
theorem StOk.at_ {st lg cl : Addr} {b : Nat} {H : Hp} (h : StOk st lg cl b H) : (∃ o, ¬ IsTbl o ∧ H st = some o) ∧ ∃ o, ¬ IsTbl o ∧ H lg = some o := by
  obtain ⟨la, ce, r, t, x, _⟩ := h
  exact ⟨⟨_, tbl_dK, x.hs⟩, _, tbl_lst, x.hl⟩
/-- what stays of the tables when tables and code objects stay -/
theorem tabs_keep {T : List (Addr × Str)} {H H2 : Hp} (t : LamX.Tabs T H) (k1 : ∀ p ∈ T, ∀ ps, H p.1 = some (.tbl ps) → H2 p.1 = some (.tbl ps)) (k2 : ∀ c q, H c = some (LamX.CodeO c q) → H2 c = some (LamX.CodeO c q)) : LamX.Tabs T H2 := fun p hp => by
  obtain ⟨ps, h1, h2, h3⟩ := t p hp
  refine ⟨ps, k1 p hp ps h1, h2, fun pos cv hc => ?_⟩
  obtain ⟨c, e1, e2⟩ := h3 pos cv hc
  exact ⟨c, e1, k2 _ _ e2⟩
/-- the table of modules is tracked: no list, no dict of a run stands there -/
def SysF (F : Hp) : Prop := ∃ oy : Obj, F sysModules = some (.frz oy (.own sysModules))
theorem SysF.ex {F G : Hp} (h : SysF F) (e : Ex F G) : SysF G := let ⟨o, q⟩ := h; ⟨o, e _ _ q⟩
/-- the state stands outside of what is frozen, the tables too -/
structure Off (st : Addr) (lg : Lg) (cl : Addr) (b : Nat) (F H : Hp) : Prop where
  z : Ex F H
  s : F st = none
  l : F lg.1 = none
  ok : StOk st lg.1 cl b H
  tb : LamX.Tabs lg.2 H
  tf : ∀ p ∈ lg.2, F p.1 = none
  nt : ∀ b ps, F b ≠ some (.tbl ps)
  sy : SysF F
theorem Off.mono {st cl : Addr} {lg : Lg} {b c : Nat} {F H : Hp} (h : Off st lg cl b F H) (l : c ≤ b) : Off st lg cl c F H := ⟨h.z, h.s, h.l, h.ok.mono l, h.tb, h.tf, h.nt, h.sy⟩
theorem Off.gm {st cl : Addr} {lg : Lg} {b c : Nat} {F H F2 H2 : Hp} (h : Off st lg cl b F H) (g : GM st lg F H F2 H2) (ok : StOk st lg.1 cl c H2) (tb : LamX.Tabs lg.2 H2) : Off st lg cl c F2 H2 := by
  obtain ⟨⟨o, t1, h1⟩, o', t2, h2⟩ := h.ok.at_
  exact ⟨g.fh, g.nw _ _ t1 h1 h.s, g.nw _ _ t2 h2 h.l, ok, tb, fun p hp => (g.tk p hp (let ⟨ps, e, _⟩ := h.tb p hp; ⟨ps, e⟩)).2 (h.tf p hp), g.nt h.nt, h.sy.ex g.ff⟩
theorem Off.grow {st cl : Addr} {lg : Lg} {b : Nat} {F H F2 H2 : Hp} (h : Off st lg cl b F H) (g : Grow F H F2 H2) : Off st lg cl b F2 H2 := h.gm g.gm (h.ok.ex g.hh) (h.tb.ext g.hh)
theorem tbl_st {st lg cl : Addr} {b : Nat} {H : Hp} (h : StOk st lg cl b H) {c : Addr} {o : HO} (hc : H c = some o) (ho : IsTbl o ∨ ∃ q, o = LamX.CodeO c q) : c ≠ st ∧ c ≠ lg := by
  obtain ⟨la, ce, r, t, x, _⟩ := h
  constructor
  · intro e
    rw [e, x.hs] at hc
    cases hc
    rcases ho with ⟨_, h⟩ | ⟨q, h⟩
    · cases h
    · unfold LamX.CodeO at h
      cases h
  · intro e
    rw [e, x.hl] at hc
    cases hc
    rcases ho with ⟨_, h⟩ | ⟨q, h⟩
    · cases h
    · unfold LamX.CodeO at h
      cases h
theorem GM.draw {st cl : Addr} {lg : Lg} {b c : Nat} {F H H2 : Hp} (h : Off st lg cl b F H) (fr : Fr st lg.1 H H2) (ok : StOk st lg.1 cl c H2) : GM st lg F H F H2 := by
  obtain ⟨⟨o, t1, h1⟩, o', t2, h2⟩ := ok.at_
  refine ⟨Evl.Ex.refl _, fun c o q => fr c o (ne_of_none q h.s) (ne_of_none q h.l) (h.z c o q), fun c o n m _ q => fr c o n m q, fun _ _ _ _ q => q, fun d u t q => ?_, fun p hp ⟨ps, q⟩ => ?_, fun h => h⟩
  · by_cases e1 : d = st
    · exact ⟨o, t1, e1 ▸ h1⟩
    · by_cases e2 : d = lg.1
      · exact ⟨o', t2, e2 ▸ h2⟩
      · exact ⟨u, t, fr d u e1 e2 q⟩
  · obtain ⟨n1, n2⟩ := tbl_st h.ok q (.inl ⟨ps, rfl⟩)
    exact ⟨⟨ps, fr _ _ n1 n2 q⟩, fun q => q⟩
theorem Off.draw {st cl : Addr} {lg : Lg} {b c : Nat} {F H H2 : Hp} (h : Off st lg cl b F H) (fr : Fr st lg.1 H H2) (ok : StOk st lg.1 cl c H2) : Off st lg cl c F H2 := h.gm (GM.draw h fr ok) ok (tabs_keep h.tb (fun p hp ps q => by
  obtain ⟨n1, n2⟩ := tbl_st h.ok q (.inl ⟨ps, rfl⟩)
  exact fr _ _ n1 n2 q) fun c q e => by
  obtain ⟨n1, n2⟩ := tbl_st h.ok e (.inr ⟨q, rfl⟩)
  exact fr _ _ n1 n2 e)
/-- an operator on two whole numbers with a condition -/
theorem ed_I {K : PySem.W.Frag} {F : Hp} {σ : L2.St} {ta tb : TE} {C : Int → Int → Prop} {g : Int → Int → V} {gd : D} {i j : Int} (h : EvD K F ta σ (.int i)) (k : EvD K F tb σ (.int j)) (hc : C i j) (hg : ∀ G, Dz K G (g i j) gd) : EvD K F (tOp (rI C g) ta tb) σ gd := ed_op h k fun x y F1 H1 z r1 r2 Q q => by
  cases r1
  cases r2
  exact ⟨i, j, rfl, rfl, hc, q _ (hg _)⟩
theorem dz_ints {K : PySem.W.Frag} {F : Hp} : ∀ (ns : List Int), DzAll K F (ns.map V.int) (ns.map .int)
  | [] => .nil
  | n :: ns => .cons (.int n) (dz_ints ns)
theorem seq_N {K : PySem.W.Frag} {F H : Hp} {σ : L2.St} {te : TE} {tr : TS} {i : Nat} {E : Ends} {ds : List D} (h : EvN K F te σ ds) (z : Ex F H) (k : ∀ p xs F2 H2, Grow F H F2 H2 → H p = none → F2 p = some (.lst xs) → DzAll K F2 xs ds → tr E (σ.set i (some (.ref p))) H2) : tSeq (tAsg te (gName i)) tr E σ H :=
  h F H (Evl.Ex.refl _) z _ k
theorem pairs_c {c : V} {tv : TE} {r : List (TE × TE)} {σ : L2.St} {H : Hp} {Q : List (V × V) → Hp → Prop} (h : tv σ H fun v H2 => tPairs r σ H2 fun ps H3 => Q ((c, v) :: ps) H3) : tPairs ((tC c, tv) :: r) σ H Q := h
theorem pairs_cc {c v : V} {r : List (TE × TE)} {σ : L2.St} {H : Hp} {Q : List (V × V) → Hp → Prop} (h : tPairs r σ H fun ps H3 => Q ((c, v) :: ps) H3) : tPairs ((tC c, tC v) :: r) σ H Q := h
theorem pairs_nil {σ : L2.St} {H : Hp} {Q : List (V × V) → Hp → Prop} (h : Q [] H) : tPairs [] σ H Q := h
def absI (c : Int) : Int := if c < 0 then -c else c
theorem StOk.own {st lg cl L : Addr} {b : Nat} {H : Hp} {o : HO} (h : StOk st lg cl b H) (h1 : L ≠ st) (h2 : L ≠ lg) (h3 : L ≠ cl) : StOk st lg cl b (upd H L o) := by
  obtain ⟨la, ce, r, t, x, e⟩ := h
  exact ⟨la, ce, r, t, ⟨by rw [upd_ne h1.symm]; exact x.hs, by rw [upd_ne h2.symm]; exact x.hl, by rw [upd_ne h3.symm]; exact x.hc, x.nn, x.l1, x.l2, x.r0, x.t0, x.ne⟩, e⟩
/-- L is no part of the state, nor a table -/
structure Ow (st : Addr) (lg : Lg) (cl L : Addr) : Prop where
  a : L ≠ st
  b : L ≠ lg.1
  c : L ≠ cl
  d : ∀ p ∈ lg.2, L ≠ p.1
theorem Off.ow {st cl L : Addr} {lg : Lg} {b : Nat} {F H : Hp} (O : Off st lg cl b F H) (hL : H L = none) : Ow st lg cl L := by
  obtain ⟨la, ce, r, t, x, e⟩ := O.ok
  exact ⟨ne_of_none x.hs hL |>.symm, ne_of_none x.hl hL |>.symm, ne_of_none x.hc hL |>.symm, fun p hp => by
    obtain ⟨ps, h, _⟩ := O.tb p hp
    exact (ne_of_none h hL).symm⟩
theorem Off.own {st cl L : Addr} {lg : Lg} {b : Nat} {F H : Hp} {o : HO} (O : Off st lg cl b F H) (w : Ow st lg cl L) (hF : F L = none) (hc : ∀ q, H L ≠ some (LamX.CodeO L q)) : Off st lg cl b F (upd H L o) := ⟨Evl.Ex.mut O.z hF, O.s, O.l, O.ok.own w.a w.b w.c, tabs_keep O.tb (fun p hp ps q => by rw [upd_ne (w.d p hp).symm]; exact q) fun c q e => by
  have ne : c ≠ L := fun z => by
    subst z
    exact hc q e
  rw [upd_ne ne]
  exact e, O.tf, O.nt, O.sy⟩
theorem GM.own {st cl L : Addr} {lg : Lg} {F H F2 H2 : Hp} {o : HO} (g : GM st lg F H F2 H2) (w : Ow st lg cl L) (h1 : F2 L = none) (h2 : ∀ u, H L = some u → IsTbl u) : GM st lg F H F2 (upd H2 L o) := by
  have ne : ∀ {c u}, ¬ IsTbl u → H c = some u → c ≠ L := fun t h e => t (h2 _ (e ▸ h))
  exact ⟨g.ff, Evl.Ex.mut g.fh h1, fun c u n m t h => by rw [upd_ne (ne t h)]; exact g.fr c u n m t h, g.nw, fun c u t h => by rw [upd_ne (ne t h)]; exact g.kp c u t h, fun p hp h => by rw [upd_ne (w.d p hp).symm]; exact g.tk p hp h, g.nt⟩
end Cn
set_option Elab.async false
set_option linter.all false
set_option maxRecDepth 100000
set_option maxHeartbeats 4000000
namespace Cn
open PySem PySem.Spec PyProof.Rows L2
noncomputable instance decMemK (k : Key) (l : List Key) : Decidable (k ∈ l) := Classical.propDecidable _
/-- a row of a set's table holds a key -/
def Ent (w : World) (e : Int × Value) (k : Key) : Prop := keyIs k e.2 = true ∧ e.1 = keyH w k
/-- rows and table of a set with the keys L, row by row; the table can be walked -/
structure KS (w : World) (es : Array (Int × Value)) (t : SetTable) (L : List Key) : Prop where
  ent : Paired (Ent w) es.toList L
  nd : L.Nodup
  few : es.size < scanBound
  fit : t.fits es.size = true
  up : Ris t.place.toList
  led : w.params.followText "set-order" = true ∨ t.led = true
theorem KS.len {w : World} {es : Array (Int × Value)} {t : SetTable} {L : List Key} (k : KS w es t L) : es.size = L.length := by rw [← Array.length_toList, k.ent.length]
/-- such a set at a -/
def KSet (w : World) (h : Heap) (a : Addr) (L : List Key) : Prop := ∃ o es ep t, h.get? a = some o ∧ o.ExactSet ∧ o.data = .set es ep t ∧ KS w es t L
theorem KSet.at {w : World} {h h' : Heap} {a : Addr} {L : List Key} (R : KSet w h a L) (k : ∀ o, h.get? a = some o → h'.get? a = some o) : KSet w h' a L := let ⟨o, es, ep, t, ho, r⟩ := R; ⟨o, es, ep, t, k o ho, r⟩
end Cn
set_option Elab.async false
set_option linter.all false
set_option maxRecDepth 100000
set_option maxHeartbeats 4000000
namespace Cn
open PySem PySem.Spec PyProof.Rows L2
def encK : Key → PyData
  | .inl i => .int i
  | .inr x => .str x
def leK (a b : Key) : Bool := PySem.W.dataLe false encK a b
/-- all whole numbers, or all texts -/
def OneSort (L : List Key) : Prop := (∀ k ∈ L, ∃ i, k = Sum.inl i) ∨ ∀ k ∈ L, ∃ x, k = Sum.inr x
end Cn
set_option Elab.async false
set_option linter.all false
set_option maxRecDepth 100000
set_option maxHeartbeats 4000000
namespace Cn
open PySem PySem.Spec PyProof.Rows L2
end Cn
set_option Elab.async false
set_option linter.all false
set_option maxRecDepth 100000
set_option maxHeartbeats 4000000
namespace Cn
open PySem PySem.Spec PyProof.Rows L2
section
variable {P : Program} {w : World} {κ : Type} [DecidableEq κ] {knd : HeapKind P w κ} {A : Around} {E : Value → Shared → Prop} {s : Shared}
/-- the row of a key at an address -/
def rowH (knd : HeapKind P w κ) (p : Addr × κ) : Int × Value := (knd.hash p.2, .ref p.1)
/-- rows and table hold the keys L -/
structure TRows (knd : HeapKind P w κ) (es : Array (Int × Value)) (t : SetTable) (L : List (Addr × κ)) : Prop where
  ent : es.toList = L.map (rowH knd)
  tab : TabOk t ((L.map (·.2)).map knd.hash)
  nd : (L.map (·.2)).Nodup
  led : w.params.followText "set-order" = true ∨ t.led = true
  air : L.length * 5 < t.mask * 3
  few : L.length ≤ 76
variable {es : Array (Int × Value)} {t : SetTable} {L : List (Addr × κ)}
theorem TRows.size (R : TRows knd es t L) : es.size = L.length := by rw [← Array.length_toList, R.ent, List.length_map]
theorem TRows.psize (R : TRows knd es t L) : t.place.size = L.length := by rw [R.tab.sz, List.length_map, List.length_map]
theorem TRows.row (R : TRows knd es t L) {i : Nat} {p : Addr × κ} (e : L[i]? = some p) : es[i]? = some (rowH knd p) := by
  rw [← Array.getElem?_toList, R.ent, List.getElem?_map, e, Option.map_some]
theorem TRows.hash (R : TRows knd es t L) {i : Nat} {p : Addr × κ} (e : L[i]? = some p) : (es[i]?.map (·.1)).getD 0 = knd.hash p.2 := by
  rw [R.row e]
  rfl
/-- where a row sits, the row is -/
theorem TRows.at_ (R : TRows knd es t L) {i j : Nat} (h : t.place.toList[i]? = some j) : ∃ p, L[i]? = some p ∧ p ∈ L := by
  have h1 : i < L.length := by
    have := (List.getElem?_eq_some_iff.mp h).1
    rw [Array.length_toList, R.psize] at this
    exact this
  exact ⟨L[i], List.getElem?_eq_getElem h1, List.getElem_mem h1⟩
/-- such a set at a -/
def TSet (knd : HeapKind P w κ) (h : Heap) (a : Addr) (L : List (Addr × κ)) : Prop := ∃ o es ep t, h.get? a = some o ∧ o.ExactSet ∧ o.data = .set es ep t ∧ TRows knd es t L
theorem TSet.at {h g : Heap} {a : Addr} {L : List (Addr × κ)} (R : TSet knd h a L) (k : ∀ o, h.get? a = some o → g.get? a = some o) : TSet knd g a L := let ⟨o, es, ep, t, ho, r⟩ := R; ⟨o, es, ep, t, k o ho, r⟩
end
mutual
/-- data that may be a key -/
def nkP : PyData → Option NestedKey
  | .none => some .none
  | .int i => some (.num i)
  | .str x => some (.text x)
  | .tuple ds => (nkPs ds).map .tup
  | .bool _ => none
  | .list _ => none
  | .dict _ => none
def nkPs : List PyData → Option (List NestedKey)
  | [] => some []
  | d :: ds => match nkP d, nkPs ds with
    | some k, some ks => some (k :: ks)
    | _, _ => none
end
end Cn
set_option Elab.async false
set_option linter.all false
set_option maxRecDepth 100000
set_option maxHeartbeats 4000000
namespace Cn
open PySem PySem.Spec PyProof.Rows L2
end Cn
set_option Elab.async false
set_option linter.all false
set_option maxRecDepth 100000
set_option maxHeartbeats 4000000
namespace Cn
open PySem PySem.Spec PyProof.Rows L2 HT
end Cn
set_option Elab.async false
set_option linter.all false
set_option maxRecDepth 100000
set_option maxHeartbeats 4000000
namespace Dw
open PySem PySem.Spec PyProof.Rows L2 Cn
inductive Dt where
  | none
  | bool (b : Bool)
  | int (i : Int)
  | str (s : Str)
  | list (xs : List Dt)
  | tuple (xs : List Dt)
  | dict (kvs : List (Key × Dt))
  | dictT (kvs : List (List Key × Dt))
  | obj (c : Str) (fs : List (Str × Dt))
  | err (c : Str) (fs : List (Str × Dt))
instance : Inhabited Dt := ⟨.none⟩
/-- one of two, by a truth -/
def br (k : Bool) (A B : Prop) : Prop := match k with
  | true => A
  | false => B
/-- what stands for the program: the written part, the module's names, the state of a law's draws -/
structure Cd where
  K : PySem.W.Frag
  mg : Str → Option Value
  fr : Option (Addr × Lg × Addr) := Option.none
  E : XK := fun _ _ _ => False
mutual
inductive Rz (K : PySem.W.Frag) (mg : Str → Option Value) (H : Hp) : V → Dt → Prop
  | non : Rz K mg H .non .none
  | bl (b : Bool) : Rz K mg H (.bl b) (.bool b)
  | int (i : Int) : Rz K mg H (.int i) (.int i)
  | str (x : Str) : x.length ≤ 100000 → Rz K mg H (.str x) (.str x)
  | lst {a : Addr} {xs : List V} {ds : List Dt} : ds.length ≤ 100000 → H a = some (.lst xs) → RzAll K mg H xs ds → Rz K mg H (.ref a) (.list ds)
  | tup {a : Addr} {xs : List V} {ds : List Dt} : ds.length ≤ 100000 → TupZ K H a xs → RzAll K mg H xs ds → Rz K mg H (.ref a) (.tuple ds)
  | dct {a : Addr} {kvs : List (Key × V)} {ds : List (Key × Dt)} : ds.length ≤ 100000 → H a = some (.dK kvs) → RzKV K mg H kvs ds → Rz K mg H (.ref a) (.dict ds)
  | dcT {a : Addr} {kvs : List (List Key × V)} {ds : List (List Key × Dt)} : ds.length ≤ 100000 → H a = some (.dT kvs) → RzKT K mg H kvs ds → Rz K mg H (.ref a) (.dictT ds)
  | obj {c : Str} {C a dx : Addr} {fs : List (Str × V)} {ds : List (Str × Dt)} : mg c = some (.ref C) → H a = some (.ins C dx fs) → RzFs K mg H fs ds → Rz K mg H (.ref a) (.obj c ds)
  | errP {c : Str} {C a : Addr} : mg c = some (.ref C) → H a = some (ExO (.ref C) a) → Rz K mg H (.ref a) (.err c [])
  | errN {c : Str} {C a dx : Addr} {fs : List (Str × V)} {ds : List (Str × Dt)} : mg c = some (.ref C) → H a = some (exo a C (some dx)) → H dx = some (exd dx fs) → RzFs K mg H fs ds → Rz K mg H (.ref a) (.err c ds)
  | errC {c : Str} {C a : Addr} : mg c = some (.ref C) → H a = some (ErO (.ref C) Option.none a) → Rz K mg H (.ref a) (.err c [])
  | errD {c : Str} {C a dd : Addr} {fs : List (Str × V)} {ds : List (Str × Dt)} : mg c = some (.ref C) → H a = some (ErO (.ref C) (some dd) a) → H dd = some (.xd fs) → RzFs K mg H fs ds → Rz K mg H (.ref a) (.err c ds)
inductive RzAll (K : PySem.W.Frag) (mg : Str → Option Value) (H : Hp) : List V → List Dt → Prop
  | nil : RzAll K mg H [] []
  | cons {v : V} {vs : List V} {d : Dt} {ds : List Dt} : Rz K mg H v d → RzAll K mg H vs ds → RzAll K mg H (v :: vs) (d :: ds)
inductive RzKV (K : PySem.W.Frag) (mg : Str → Option Value) (H : Hp) : List (Key × V) → List (Key × Dt) → Prop
  | nil : RzKV K mg H [] []
  | cons {k : Key} {v : V} {vs : List (Key × V)} {d : Dt} {ds : List (Key × Dt)} : Rz K mg H v d → RzKV K mg H vs ds → RzKV K mg H ((k, v) :: vs) ((k, d) :: ds)
inductive RzKT (K : PySem.W.Frag) (mg : Str → Option Value) (H : Hp) : List (List Key × V) → List (List Key × Dt) → Prop
  | nil : RzKT K mg H [] []
  | cons {k : List Key} {v : V} {vs : List (List Key × V)} {d : Dt} {ds : List (List Key × Dt)} : Rz K mg H v d → RzKT K mg H vs ds → RzKT K mg H ((k, v) :: vs) ((k, d) :: ds)
inductive RzFs (K : PySem.W.Frag) (mg : Str → Option Value) (H : Hp) : List (Str × V) → List (Str × Dt) → Prop
  | nil : RzFs K mg H [] []
  | cons {k : Str} {v : V} {vs : List (Str × V)} {d : Dt} {ds : List (Str × Dt)} : Rz K mg H v d → RzFs K mg H vs ds → RzFs K mg H ((k, v) :: vs) ((k, d) :: ds)
end
variable {K : PySem.W.Frag} {mg : Str → Option Value}
mutual
theorem rz_ex {F G : Hp} (e : Ex F G) : ∀ {v : V} {d : Dt}, Rz K mg F v d → Rz K mg G v d
  | _, _, .non => .non
  | _, _, .bl b => .bl b
  | _, _, .int i => .int i
  | _, _, .str x l => .str x l
  | _, _, .lst l h t => .lst l (e _ _ h) (rza_ex e t)
  | _, _, .tup l h t => .tup l (h.ex e) (rza_ex e t)
  | _, _, .dct l h t => .dct l (e _ _ h) (rzk_ex e t)
  | _, _, .dcT l h t => .dcT l (e _ _ h) (rzt_ex e t)
  | _, _, .obj m h t => .obj m (e _ _ h) (rzf_ex e t)
  | _, _, .errP m h => .errP m (e _ _ h)
  | _, _, .errN m h k t => .errN m (e _ _ h) (e _ _ k) (rzf_ex e t)
  | _, _, .errC m h => .errC m (e _ _ h)
  | _, _, .errD m h k t => .errD m (e _ _ h) (e _ _ k) (rzf_ex e t)
theorem rza_ex {F G : Hp} (e : Ex F G) : ∀ {v : List V} {d : List Dt}, RzAll K mg F v d → RzAll K mg G v d
  | _, _, .nil => .nil
  | _, _, .cons h t => .cons (rz_ex e h) (rza_ex e t)
theorem rzk_ex {F G : Hp} (e : Ex F G) : ∀ {v : List (Key × V)} {d : List (Key × Dt)}, RzKV K mg F v d → RzKV K mg G v d
  | _, _, .nil => .nil
  | _, _, .cons h t => .cons (rz_ex e h) (rzk_ex e t)
theorem rzt_ex {F G : Hp} (e : Ex F G) : ∀ {v : List (List Key × V)} {d : List (List Key × Dt)}, RzKT K mg F v d → RzKT K mg G v d
  | _, _, .nil => .nil
  | _, _, .cons h t => .cons (rz_ex e h) (rzt_ex e t)
theorem rzf_ex {F G : Hp} (e : Ex F G) : ∀ {v : List (Str × V)} {d : List (Str × Dt)}, RzFs K mg F v d → RzFs K mg G v d
  | _, _, .nil => .nil
  | _, _, .cons h t => .cons (rz_ex e h) (rzf_ex e t)
end
theorem rza_len {F : Hp} : ∀ {vs : List V} {ds : List Dt}, RzAll K mg F vs ds → vs.length = ds.length
  | _, _, .nil => rfl
  | _, _, .cons _ t => by rw [List.length_cons, List.length_cons, rza_len t]
theorem rza_get {F : Hp} : ∀ {vs : List V} {ds : List Dt} {i : Nat} {v : V}, RzAll K mg F vs ds → vs[i]? = some v → ∃ d, ds[i]? = some d ∧ Rz K mg F v d
  | _, _, _, _, .nil, e => by simp at e
  | _, _, 0, _, .cons h _, e => by simp at e; subst e; exact ⟨_, rfl, h⟩
  | _, _, i + 1, v, .cons _ t, e => by
    obtain ⟨d, h1, h2⟩ := rza_get (i := i) (v := v) t (by simpa using e)
    exact ⟨d, by simpa using h1, h2⟩
theorem rza_get' {F : Hp} : ∀ {vs : List V} {ds : List Dt} {i : Nat} {d : Dt}, RzAll K mg F vs ds → ds[i]? = some d → ∃ v, vs[i]? = some v ∧ Rz K mg F v d
  | _, _, _, _, .nil, e => by simp at e
  | _, _, 0, _, .cons h _, e => by simp at e; subst e; exact ⟨_, rfl, h⟩
  | _, _, i + 1, d, .cons _ t, e => by
    obtain ⟨v, h1, h2⟩ := rza_get' (i := i) (d := d) t (by simpa using e)
    exact ⟨v, by simpa using h1, h2⟩
theorem rza_app {F : Hp} : ∀ {vs ws : List V} {ds es : List Dt}, RzAll K mg F vs ds → RzAll K mg F ws es → RzAll K mg F (vs ++ ws) (ds ++ es)
  | _, _, _, _, .nil, h => h
  | _, _, _, _, .cons h t, k => .cons h (rza_app t k)
mutual
def Dt.pl : Dt → Option PyData
  | .none => some .none
  | .bool b => some (.bool b)
  | .int i => some (.int i)
  | .str s => some (.str s)
  | .list xs => (plAll xs).map .list
  | .tuple xs => (plAll xs).map .tuple
  | .dict _ => Option.none
  | .dictT _ => Option.none
  | .obj _ _ => Option.none
  | .err _ _ => Option.none
def plAll : List Dt → Option (List PyData)
  | [] => some []
  | x :: xs => match x.pl, plAll xs with
    | some y, some ys => some (y :: ys)
    | _, _ => Option.none
end
mutual
theorem rz_dz {F : Hp} : ∀ {v : V} {d : Dt} {e : PyData}, Rz K mg F v d → d.pl = some e → Dz K F v e ∧ e.plain = true
  | _, _, _, .non, h => by cases h; exact ⟨.non, by simp [PyData.plain]⟩
  | _, _, _, .bl b, h => by cases h; exact ⟨.bl b, by simp [PyData.plain]⟩
  | _, _, _, .int i, h => by cases h; exact ⟨.int i, by simp [PyData.plain]⟩
  | _, _, _, .str i _, h => by cases h; exact ⟨.str i, by simp [PyData.plain]⟩
  | _, _, _, .lst (ds := ds) _ s t, h => by
    unfold Dt.pl at h
    obtain ⟨ys, h1, h2⟩ := Option.map_eq_some_iff.mp h
    subst h2
    obtain ⟨a, b⟩ := rza_dz t h1
    exact ⟨.lst (SqL.of s) a, by simpa [PyData.plain] using b⟩
  | _, _, _, .tup (ds := ds) _ s t, h => by
    unfold Dt.pl at h
    obtain ⟨ys, h1, h2⟩ := Option.map_eq_some_iff.mp h
    subst h2
    obtain ⟨a, b⟩ := rza_dz t h1
    exact ⟨.tup s a, by simpa [PyData.plain] using b⟩
  | _, _, _, .dct _ _ _, h => by simp [Dt.pl] at h
  | _, _, _, .obj _ _ _, h => by simp [Dt.pl] at h
  | _, _, _, .errP _ _, h => by simp [Dt.pl] at h
  | _, _, _, .errN _ _ _ _, h => by simp [Dt.pl] at h
  | _, _, _, .errC _ _, h => by simp [Dt.pl] at h
  | _, _, _, .errD _ _ _ _, h => by simp [Dt.pl] at h
theorem rza_dz {F : Hp} : ∀ {vs : List V} {ds : List Dt} {es : List PyData}, RzAll K mg F vs ds → plAll ds = some es → DzAll K F vs es ∧ PyData.plainAll es = true
  | _, _, _, .nil, h => by cases h; exact ⟨.nil, by simp [PyData.plainAll]⟩
  | _, _, _, .cons (d := d) (ds := ds) r t, h => by
    unfold plAll at h
    split at h
    · rename_i y ys h1 h2
      cases h
      obtain ⟨a1, b1⟩ := rz_dz r h1
      obtain ⟨a2, b2⟩ := rza_dz t h2
      exact ⟨.cons a1 a2, by simp only [PyData.plainAll, b1, b2, Bool.and_self]⟩
    · cases h
end
abbrev Tri := Option (Addr × Lg × Addr)
def FrOk (fr : Tri) (b : Nat) (F H : Hp) : Prop := match fr with
  | Option.none => Ex F H
  | some (st, lg, cl) => Off st lg cl b F H
def FrRel (fr : Tri) (F H F2 H2 : Hp) : Prop := match fr with
  | Option.none => Grow F H F2 H2
  | some (st, lg, _) => GM st lg F H F2 H2
def Apart (fr : Tri) (a : Addr) : Prop := match fr with
  | Option.none => True
  | some (st, lg, cl) => Ow st lg cl a
theorem FrOk.z {fr : Tri} {b : Nat} {F H : Hp} (h : FrOk fr b F H) : Ex F H := match fr, h with
  | Option.none, h => h
  | some (_, _, _), h => Off.z h
theorem FrOk.grow {fr : Tri} {b : Nat} {F H F2 H2 : Hp} (h : FrOk fr b F H) (g : Grow F H F2 H2) : FrOk fr b F2 H2 := match fr, h with
  | Option.none, _ => Grow.fh g
  | some (_, _, _), h => Off.grow h g
theorem FrRel.refl {fr : Tri} {F H : Hp} (z : Ex F H) : FrRel fr F H F H := match fr with
  | Option.none => Grow.refl z
  | some (_, _, _) => GM.refl z
theorem FrRel.of {fr : Tri} {F H F2 H2 : Hp} (g : Grow F H F2 H2) : FrRel fr F H F2 H2 := match fr with
  | Option.none => g
  | some (_, _, _) => Grow.gm g
theorem FrRel.trans {fr : Tri} {F H F1 H1 F2 H2 : Hp} (a : FrRel fr F H F1 H1) (b : FrRel fr F1 H1 F2 H2) : FrRel fr F H F2 H2 := match fr, a, b with
  | Option.none, a, b => Grow.trans a b
  | some (_, _, _), a, b => GM.trans a b
theorem FrRel.ff {fr : Tri} {F H F2 H2 : Hp} (a : FrRel fr F H F2 H2) : Ex F F2 := match fr, a with
  | Option.none, a => Grow.ff a
  | some (_, _, _), a => GM.ff a
theorem FrRel.fh {fr : Tri} {F H F2 H2 : Hp} (a : FrRel fr F H F2 H2) : Ex F2 H2 := match fr, a with
  | Option.none, a => Grow.fh a
  | some (_, _, _), a => GM.fh a
theorem FrRel.kp {fr : Tri} {F H F2 H2 : Hp} (a : FrRel fr F H F2 H2) {b : Addr} {o : HO} (t : ¬ IsTbl o) (h : H b = some o) : ∃ o', ¬ IsTbl o' ∧ H2 b = some o' := match fr, a with
  | Option.none, a => ⟨o, t, Grow.hh a b o h⟩
  | some (_, _, _), a => GM.kp a b o t h
theorem FrRel.nw {fr : Tri} {F H F2 H2 : Hp} (a : FrRel fr F H F2 H2) {b : Addr} {o : HO} (t : ¬ IsTbl o) (h : H b = some o) (n : F b = Option.none) : F2 b = Option.none := match fr, a with
  | Option.none, a => Grow.nw a b o h n
  | some (_, _, _), a => GM.nw a b o t h n
/-- free, or (with draws) a table -/
def N0 (fr : Tri) (H : Hp) (a : Addr) : Prop := match fr with
  | Option.none => H a = Option.none
  | some _ => ∀ o, H a = some o → IsTbl o
theorem N0.of {fr : Tri} {H : Hp} {a : Addr} (h : H a = Option.none) : N0 fr H a := match fr with
  | Option.none => h
  | some _ => fun o e => by rw [h] at e; cases e
/-- what is free now was free -/
theorem FrRel.back {fr : Tri} {F H F2 H2 : Hp} (a : FrRel fr F H F2 H2) {b : Addr} (h : N0 fr H2 b) : N0 fr H b := match fr, a, h with
  | Option.none, a, h => by
    show H b = Option.none
    cases e : H b with
    | none => rfl
    | some o =>
      have h : H2 b = Option.none := h
      rw [Grow.hh a b o e] at h
      cases h
  | some (st, lg, cl), a, h => fun o e => Classical.byContradiction fun t => by
    obtain ⟨o', t', e'⟩ := GM.kp a b o t e
    exact t' (h o' e')
/-- what is one's own stays -/
theorem FrRel.own {fr : Tri} {F H F2 H2 : Hp} (a : FrRel fr F H F2 H2) {b : Addr} {o : HO} (t : ¬ IsTbl o) (w : Apart fr b) (h : H b = some o) : H2 b = some o := match fr, a, w with
  | Option.none, a, _ => Grow.hh a b o h
  | some (st, lg, cl), a, w => GM.fr a b o (Ow.a w) (Ow.b w) t h
theorem Apart.new {fr : Tri} {b : Nat} {F H : Hp} (h : FrOk fr b F H) {a : Addr} (n : H a = Option.none) : Apart fr a := match fr, h with
  | Option.none, _ => True.intro
  | some (_, _, _), h => Off.ow h n
/-- an own object changes -/
theorem FrOk.mut {fr : Tri} {b : Nat} {F H : Hp} {a : Addr} {o : HO} (h : FrOk fr b F H) (w : Apart fr a) (n : F a = Option.none) (hc : ∀ q, H a ≠ some (LamX.CodeO a q)) : FrOk fr b F (upd H a o) := match fr, h, w with
  | Option.none, h, _ => Evl.Ex.mut h n
  | some (_, _, _), h, w => Off.own h w n hc
theorem FrRel.mut {fr : Tri} {F H F2 H2 : Hp} {a : Addr} {o : HO} (g : FrRel fr F H F2 H2) (w : Apart fr a) (n : F2 a = Option.none) (m : N0 fr H a) : FrRel fr F H F2 (upd H2 a o) := match fr, g, w, m with
  | Option.none, g, _, m => ⟨(Grow.ff g), Evl.Ex.mut (Grow.fh g) n, Evl.Ex.mut (Grow.hh g) m, (Grow.nw g), (Grow.nt g)⟩
  | some (st, lg, cl), g, w, m => GM.own g w n m
theorem ex_frz {F H : Hp} {a : Addr} {o : HO} (z : Ex F H) (h : H a = some o) : Ex (upd F a o) H := fun b u e => by
  by_cases c : b = a
  · subst c
    rw [upd_same] at e
    rw [← e]
    exact h
  · rw [upd_ne c] at e
    exact z b u e
theorem nt_frz {F : Hp} {a : Addr} {o : HO} (t : ¬ IsTbl o) (h : ∀ b ps, F b ≠ some (.tbl ps)) : ∀ b ps, upd F a o b ≠ some (.tbl ps) := fun b ps e => by
  by_cases c : b = a
  · subst c
    rw [upd_same] at e
    exact t ⟨ps, Option.some.inj e⟩
  · rw [upd_ne c] at e
    exact h b ps e
/-- an own object is frozen -/
theorem FrRel.frz {fr : Tri} {F H F2 H2 : Hp} {a : Addr} {o : HO} (g : FrRel fr F H F2 H2) (w : Apart fr a) (n : F2 a = Option.none) (m : N0 fr H a) (t0 : ¬ IsTbl o) (h : H2 a = some o) : FrRel fr F H (upd F2 a o) H2 := match fr, g, w, m with
  | Option.none, g, _, m => ⟨(Grow.ff g).trans (Evl.Ex.new n), ex_frz (Grow.fh g) h, (Grow.hh g), fun b u e q => by rw [upd_ne (ne_of_none e m)]; exact (Grow.nw g) b u e q, fun hn => nt_frz t0 ((Grow.nt g) hn)⟩
  | some (st, lg, cl), g, w, m => ⟨(GM.ff g).trans (Evl.Ex.new n), ex_frz (GM.fh g) h, (GM.fr g), fun b u t e q => by
    have ne : b ≠ a := fun z => t (m u (z ▸ e))
    rw [upd_ne ne]
    exact (GM.nw g) b u t e q, (GM.kp g), fun p hp q => ⟨(GM.tk g p hp q).1, fun q2 => by rw [upd_ne (Ow.d w p hp).symm]; exact (GM.tk g p hp q).2 q2⟩, fun hn => nt_frz t0 ((GM.nt g) hn)⟩
theorem FrOk.frz {fr : Tri} {b : Nat} {F H : Hp} {a : Addr} {o : HO} (g : FrOk fr b F H) (w : Apart fr a) (t0 : ¬ IsTbl o) (h : H a = some o) : FrOk fr b (upd F a o) H := match fr, g, w with
  | Option.none, g, _ => ex_frz g h
  | some (st, lg, cl), g, w => ⟨ex_frz (Off.z g) h, by rw [upd_ne (Ne.symm (Ow.a w))]; exact Off.s g, by rw [upd_ne (Ne.symm (Ow.b w))]; exact Off.l g, Off.ok g, Off.tb g, fun p hp => by rw [upd_ne (Ow.d w p hp).symm]; exact Off.tf g p hp, nt_frz t0 (Off.nt g), by
    obtain ⟨oy, hy⟩ := Off.sy g
    refine ⟨oy, ?_⟩
    by_cases e : sysModules = a
    · rw [e] at hy ⊢
      have := Off.z g _ _ hy
      rw [h] at this
      rw [upd_same, this]
    · rw [upd_ne e]
      exact hy⟩
end Dw
set_option Elab.async false
set_option linter.all false
set_option maxRecDepth 100000
set_option maxHeartbeats 4000000
namespace Dw
open PySem PySem.Spec PyProof.Rows L2 Cn
/-- what a slot holds: frozen data, an object of one's own, the state of the draws -/
inductive Sv
  | sh (d : Dt)
  | ow (d : Dt)
  | st
  | sc (n : Nat)
  | me (a : Addr)
abbrev Rho := List (Option Sv)
def at_ : Rho → Nat → Option Sv
  | [], _ => none
  | s :: _, 0 => s
  | _ :: ρ, n + 1 => at_ ρ n
def put : Rho → Nat → Option Sv → Rho
  | [], _, _ => []
  | _ :: ρ, 0, x => x :: ρ
  | s :: ρ, n + 1, x => s :: put ρ n x
theorem put_len : ∀ (ρ : Rho) (i : Nat) (x : Option Sv), (put ρ i x).length = ρ.length
  | [], _, _ => rfl
  | _ :: _, 0, _ => rfl
  | _ :: ρ, n + 1, x => by
    show (put ρ n x).length + 1 = ρ.length + 1
    rw [put_len ρ n x]
theorem at_put : ∀ {ρ : Rho} {i j : Nat} {x : Option Sv} {s : Sv}, at_ (put ρ i x) j = some s → (j = i ∧ i < ρ.length ∧ x = some s) ∨ (j ≠ i ∧ at_ ρ j = some s)
  | [], _, _, _, _, h => by cases h
  | _ :: ρ, 0, 0, x, s, h => .inl ⟨rfl, Nat.zero_lt_succ _, h⟩
  | _ :: ρ, 0, j + 1, x, s, h => .inr ⟨Nat.succ_ne_zero _, h⟩
  | _ :: ρ, i + 1, 0, x, s, h => .inr ⟨(Nat.succ_ne_zero _).symm, h⟩
  | _ :: ρ, i + 1, j + 1, x, s, h => by
    rcases at_put (ρ := ρ) (i := i) (j := j) h with ⟨a, b, c⟩ | ⟨a, b⟩
    · exact .inl ⟨by omega, Nat.succ_lt_succ b, c⟩
    · exact .inr ⟨by omega, b⟩
/-- the object at a, one's own, as data -/
def OwAt (c : Cd) (F H : Hp) (a : Addr) : Dt → Prop
  | .list ds => ds.length ≤ 100000 ∧ ∃ vs, H a = some (.lst vs) ∧ RzAll c.K c.mg F vs ds
  | .dict ds => ds.length ≤ 100000 ∧ ∃ kv, H a = some (.dK kv) ∧ RzKV c.K c.mg F kv ds
  | .dictT ds => ds.length ≤ 100000 ∧ ∃ kv, H a = some (.dT kv) ∧ RzKT c.K c.mg F kv ds
  | .obj n ds => ∃ C dx fs, c.mg n = some (.ref C) ∧ H a = some (.ins C dx fs) ∧ RzFs c.K c.mg F fs ds
  | _ => False
structure Own (c : Cd) (H0 F : Hp) (a : Addr) : Prop where
  nf : F a = Option.none
  n0 : N0 c.fr H0 a
  ap : Apart c.fr a
def SvOk (c : Cd) (H0 F H : Hp) (σ : L2.St) (i : Nat) : Sv → Prop
  | .sh d => ∃ v, σ[i]? = some (some v) ∧ Rz c.K c.mg F v d
  | .ow d => ∃ a, σ[i]? = some (some (.ref a)) ∧ OwAt c F H a d ∧ Own c H0 F a
  | .st => ∃ st lg cl, c.fr = some (st, lg, cl) ∧ σ[i]? = some (some (.ref st))
  | .sc n => ∃ a xs, σ[i]? = some (some (.ref a)) ∧ SqL c.K F a xs ∧ xs.length = n
  | .me a => σ[i]? = some (some (.ref a))
structure Wd (c : Cd) (F0 H0 : Hp) (ρ : Rho) (b : Nat) (F H : Hp) (σ : L2.St) : Prop where
  ok : FrOk c.fr b F H
  rel : FrRel c.fr F0 H0 F H
  len : σ.length = ρ.length
  sl : ∀ i s, at_ ρ i = some s → SvOk c H0 F H σ i s
  dj : ∀ i j d e, i ≠ j → at_ ρ i = some (.ow d) → at_ ρ j = some (.ow e) → σ[i]? ≠ σ[j]?
/-- an object that is neither a table nor a code object -/
def Plain (a : Addr) (o : HO) : Prop := ¬ IsTbl o ∧ ∀ q, o ≠ LamX.CodeO a q
theorem plain_lst {a : Addr} {xs : List V} : Plain a (.lst xs) := ⟨tbl_lst, fun q e => by unfold LamX.CodeO at e; cases e⟩
theorem plain_dK {a : Addr} {xs : List (Key × V)} : Plain a (.dK xs) := ⟨tbl_dK, fun q e => by unfold LamX.CodeO at e; cases e⟩
theorem tbl_dT {xs : List (List Key × V)} : ¬ IsTbl (.dT xs) := fun ⟨_, h⟩ => nomatch h
theorem plain_dT {a : Addr} {xs : List (List Key × V)} : Plain a (.dT xs) := ⟨tbl_dT, fun q e => by unfold LamX.CodeO at e; cases e⟩
theorem plain_ins {a C dx : Addr} {fs : List (Str × V)} : Plain a (.ins C dx fs) := ⟨tbl_ins, fun q e => by unfold LamX.CodeO at e; cases e⟩
theorem OwAt.some {c : Cd} {F H : Hp} {a : Addr} {d : Dt} (h : OwAt c F H a d) : ∃ o, H a = some o ∧ Plain a o := by
  cases d with
  | list ds => obtain ⟨_, vs, h, _⟩ := h; exact ⟨_, h, plain_lst⟩
  | dict ds => obtain ⟨_, vs, h, _⟩ := h; exact ⟨_, h, plain_dK⟩
  | dictT ds => obtain ⟨_, vs, h, _⟩ := h; exact ⟨_, h, plain_dT⟩
  | obj n ds => obtain ⟨C, dx, fs, _, h, _⟩ := h; exact ⟨_, h, plain_ins⟩
  | _ => exact h.elim
theorem OwAt.code {c : Cd} {F H : Hp} {a : Addr} {d : Dt} (h : OwAt c F H a d) (q : Str) : H a ≠ Option.some (LamX.CodeO a q) := fun e => by
  obtain ⟨o, h1, _, h2⟩ := h.some
  rw [h1] at e
  exact h2 q (Option.some.inj e)
theorem OwAt.mono {c : Cd} {F H F2 H2 : Hp} {a : Addr} {d : Dt} (h : OwAt c F H a d) (e : Ex F F2) (k : ∀ o, ¬ IsTbl o → H a = Option.some o → H2 a = Option.some o) : OwAt c F2 H2 a d := by
  cases d with
  | list ds => obtain ⟨l, vs, h, r⟩ := h; exact ⟨l, vs, k _ tbl_lst h, rza_ex e r⟩
  | dict ds => obtain ⟨l, vs, h, r⟩ := h; exact ⟨l, vs, k _ tbl_dK h, rzk_ex e r⟩
  | dictT ds => obtain ⟨l, vs, h, r⟩ := h; exact ⟨l, vs, k _ tbl_dT h, rzt_ex e r⟩
  | obj n ds => obtain ⟨C, dx, fs, m, h, r⟩ := h; exact ⟨C, dx, fs, m, k _ tbl_ins h, rzf_ex e r⟩
  | _ => exact h.elim
/-- its frozen copy -/
theorem OwAt.rz {c : Cd} {F H G : Hp} {a : Addr} {d : Dt} (h : OwAt c F H a d) (e : Ex F G) (k : ∀ o, H a = Option.some o → G a = Option.some o) : Rz c.K c.mg G (.ref a) d := by
  cases d with
  | list ds => obtain ⟨l, vs, h, r⟩ := h; exact .lst l (k _ h) (rza_ex e r)
  | dict ds => obtain ⟨l, vs, h, r⟩ := h; exact .dct l (k _ h) (rzk_ex e r)
  | dictT ds => obtain ⟨l, vs, h, r⟩ := h; exact .dcT l (k _ h) (rzt_ex e r)
  | obj n ds => obtain ⟨C, dx, fs, m, h, r⟩ := h; exact .obj m (k _ h) (rzf_ex e r)
  | _ => exact h.elim
section
variable {c : Cd} {F0 H0 F H F2 H2 : Hp} {ρ : Rho} {b b2 : Nat} {σ : L2.St}
theorem Wd.z (w : Wd c F0 H0 ρ b F H σ) : Ex F H := w.ok.z
theorem Wd.step (w : Wd c F0 H0 ρ b F H σ) (g : FrRel c.fr F H F2 H2) (k : FrOk c.fr b2 F2 H2) : Wd c F0 H0 ρ b2 F2 H2 σ := by
  refine ⟨k, w.rel.trans g, w.len, fun i s h => ?_, w.dj⟩
  have q := w.sl i s h
  cases s with
  | sh d => obtain ⟨v, a, r⟩ := q; exact ⟨v, a, rz_ex g.ff r⟩
  | ow d =>
    obtain ⟨a, e, o, n⟩ := q
    obtain ⟨x, hx, px⟩ := o.some
    exact ⟨a, e, o.mono g.ff fun x t hx => g.own t n.ap hx, g.nw px.1 hx n.nf, n.n0, n.ap⟩
  | st => exact q
  | sc n => obtain ⟨a, xs, e1, e2, e3⟩ := q; exact ⟨a, xs, e1, Evl.ex_l g.ff e2, e3⟩
  | me a => exact q
theorem Wd.grow (w : Wd c F0 H0 ρ b F H σ) (g : Grow F H F2 H2) : Wd c F0 H0 ρ b F2 H2 σ := w.step (FrRel.of g) (w.ok.grow g)
/-- a slot gets frozen data -/
theorem Wd.set (w : Wd c F0 H0 ρ b F H σ) {i : Nat} {v : V} {d : Dt} (r : Rz c.K c.mg F v d) : Wd c F0 H0 (put ρ i (some (.sh d))) b F H (σ.set i (some v)) := by
  refine ⟨w.ok, w.rel, by rw [List.length_set, put_len]; exact w.len, fun j s h => ?_, fun j k d1 d2 n h1 h2 => ?_⟩
  · rcases at_put h with ⟨a, l, e⟩ | ⟨a, h⟩
    · injection e with e
      subst e a
      exact ⟨v, List.getElem?_set_self (by rw [w.len]; exact l), r⟩
    · have q := w.sl j s h
      have eq : (σ.set i (some v))[j]? = σ[j]? := List.getElem?_set_ne (Ne.symm a)
      cases s with
      | sh d => obtain ⟨v, a, r⟩ := q; exact ⟨v, by rw [eq]; exact a, r⟩
      | ow d => obtain ⟨a, e, o⟩ := q; exact ⟨a, by rw [eq]; exact e, o⟩
      | st => obtain ⟨st, lg, cl, e1, e2⟩ := q; exact ⟨st, lg, cl, e1, by rw [eq]; exact e2⟩
      | sc n => obtain ⟨a, xs, e1, e2, e3⟩ := q; exact ⟨a, xs, by rw [eq]; exact e1, e2, e3⟩
      | me a => exact eq.trans q
  · rcases at_put h1 with ⟨_, _, e⟩ | ⟨a1, h1⟩
    · cases e
    · rcases at_put h2 with ⟨_, _, e⟩ | ⟨a2, h2⟩
      · cases e
      · rw [List.getElem?_set_ne (Ne.symm a1), List.getElem?_set_ne (Ne.symm a2)]
        exact w.dj j k d1 d2 n h1 h2
/-- a slot is forgotten -/
theorem Wd.wipe1 (w : Wd c F0 H0 ρ b F H σ) {i : Nat} {v : Option V} : Wd c F0 H0 (put ρ i none) b F H (σ.set i v) := by
  refine ⟨w.ok, w.rel, by rw [List.length_set, put_len]; exact w.len, fun j s h => ?_, fun j k d1 d2 n h1 h2 => ?_⟩
  · rcases at_put h with ⟨a, l, e⟩ | ⟨a, h⟩
    · cases e
    · have q := w.sl j s h
      have eq : (σ.set i v)[j]? = σ[j]? := List.getElem?_set_ne (Ne.symm a)
      cases s with
      | sh d => obtain ⟨v, a, r⟩ := q; exact ⟨v, by rw [eq]; exact a, r⟩
      | ow d => obtain ⟨a, e, o⟩ := q; exact ⟨a, by rw [eq]; exact e, o⟩
      | st => obtain ⟨st, lg, cl, e1, e2⟩ := q; exact ⟨st, lg, cl, e1, by rw [eq]; exact e2⟩
      | sc n => obtain ⟨a, xs, e1, e2, e3⟩ := q; exact ⟨a, xs, by rw [eq]; exact e1, e2, e3⟩
      | me a => exact eq.trans q
  · rcases at_put h1 with ⟨_, _, e⟩ | ⟨a1, h1⟩
    · cases e
    · rcases at_put h2 with ⟨_, _, e⟩ | ⟨a2, h2⟩
      · cases e
      · rw [List.getElem?_set_ne (Ne.symm a1), List.getElem?_set_ne (Ne.symm a2)]
        exact w.dj j k d1 d2 n h1 h2
/-- an object of one's own changes -/
theorem Wd.mut (w : Wd c F0 H0 ρ b F H σ) {i : Nat} {a : Addr} {d e : Dt} {o : HO} (h : at_ ρ i = some (.ow d)) (hv : σ[i]? = some (some (.ref a))) (q : OwAt c F (upd H a o) a e) : Wd c F0 H0 (put ρ i (some (.ow e))) b F (upd H a o) σ := by
  obtain ⟨a', e', ow, n⟩ := w.sl i _ h
  rw [hv] at e'
  injection e' with e'
  injection e' with e'
  injection e' with e'
  subst e'
  refine ⟨w.ok.mut n.ap n.nf ow.code, w.rel.mut n.ap n.nf n.n0, by rw [put_len]; exact w.len, fun j s hj => ?_, fun j k d1 d2 ne h1 h2 => ?_⟩
  · rcases at_put hj with ⟨a1, l, e1⟩ | ⟨a1, hj⟩
    · injection e1 with e1
      subst e1 a1
      exact ⟨a, hv, q, n⟩
    · have qj := w.sl j s hj
      cases s with
      | sh d => exact qj
      | ow d2 =>
        obtain ⟨a2, e2, o2, n2⟩ := qj
        have na : a2 ≠ a := fun z => w.dj j i d2 d a1 hj h (by rw [e2, hv, z])
        exact ⟨a2, e2, o2.mono (Evl.Ex.refl _) fun x _ hx => by rw [upd_ne na]; exact hx, n2⟩
      | st => exact qj
      | sc n => exact qj
      | me a => exact qj
  · have back : ∀ {j : Nat} {d1 : Dt}, at_ (put ρ i (some (.ow e))) j = some (.ow d1) → ∃ d', at_ ρ j = some (.ow d') := fun {j d1} z => by
      rcases at_put z with ⟨a1, _, _⟩ | ⟨_, z⟩
      · exact ⟨d, by rw [a1]; exact h⟩
      · exact ⟨d1, z⟩
    obtain ⟨d1', h1⟩ := back h1
    obtain ⟨d2', h2⟩ := back h2
    exact w.dj j k d1' d2' ne h1 h2
/-- an object of one's own is frozen -/
theorem Wd.frz (w : Wd c F0 H0 ρ b F H σ) {i : Nat} {d : Dt} (h : at_ ρ i = some (.ow d)) : ∃ a F2, σ[i]? = some (some (.ref a)) ∧ Ex F F2 ∧ Rz c.K c.mg F2 (.ref a) d ∧ Wd c F0 H0 (put ρ i (some (.sh d))) b F2 H σ := by
  obtain ⟨a, e, ow, n⟩ := w.sl i _ h
  obtain ⟨o, ho, po⟩ := ow.some
  have x : Ex F (upd F a o) := Evl.Ex.new n.nf
  have r : Rz c.K c.mg (upd F a o) (.ref a) d := ow.rz x fun u hu => by
    rw [upd_same, ← hu, ho]
  refine ⟨a, upd F a o, e, x, r, w.ok.frz n.ap po.1 ho, w.rel.frz n.ap n.nf n.n0 po.1 ho, by rw [put_len]; exact w.len, fun j s hj => ?_, fun j k d1 d2 ne h1 h2 => ?_⟩
  · rcases at_put hj with ⟨a1, l, e1⟩ | ⟨a1, hj⟩
    · injection e1 with e1
      subst e1 a1
      exact ⟨_, e, r⟩
    · have qj := w.sl j s hj
      cases s with
      | sh d => obtain ⟨v, a, r⟩ := qj; exact ⟨v, a, rz_ex x r⟩
      | ow d2 =>
        obtain ⟨a2, e2, o2, n2⟩ := qj
        have na : a2 ≠ a := fun z => w.dj j i d2 d a1 hj h (by rw [e2, e, z])
        exact ⟨a2, e2, o2.mono x fun _ _ hx => hx, by rw [upd_ne na]; exact n2.nf, n2.n0, n2.ap⟩
      | st => exact qj
      | sc n => obtain ⟨a, xs, e1, e2, e3⟩ := qj; exact ⟨a, xs, e1, Evl.ex_l x e2, e3⟩
      | me a => exact qj
  · rcases at_put h1 with ⟨_, _, e⟩ | ⟨a1, h1⟩
    · cases e
    · rcases at_put h2 with ⟨_, _, e⟩ | ⟨a2, h2⟩
      · cases e
      · exact w.dj j k d1 d2 ne h1 h2
/-- a new object is one's own -/
theorem Wd.fresh (w : Wd c F0 H0 ρ b F H σ) {a : Addr} (h : H a = none) : Own c H0 F a ∧ ∀ j e, at_ ρ j = some (.ow e) → σ[j]? ≠ some (some (.ref a)) := by
  refine ⟨⟨Evl.fresh_back w.z h, w.rel.back (N0.of h), Apart.new w.ok h⟩, fun j e hj z => ?_⟩
  obtain ⟨a2, e2, o2, n2⟩ := w.sl j _ hj
  rw [z] at e2
  injection e2 with e2
  injection e2 with e2
  injection e2 with e2
  subst e2
  obtain ⟨o, ho, _⟩ := o2.some
  rw [h] at ho
  cases ho
end
structure Xv where
  c : Str
  fs : List (Str × Dt) := []
abbrev QD := Dt → Nat → Prop
abbrev QX := Xv → Nat → Prop
abbrev WE := Rho → Nat → QD → QX → Prop
abbrev WT := Rho → Nat → (Bool → Nat → Prop) → QX → Prop
abbrev WA := Rho → Nat → (List Dt → Nat → Prop) → QX → Prop
structure WEnds where
  nx : Rho → Nat → Prop
  rt : QD
  ex : QX
  bk : Rho → Nat → Prop := fun _ _ => False
  ct : Rho → Nat → Prop := fun _ _ => False
  ro : QD := fun _ _ => False
abbrev WS := WEnds → Rho → Nat → Prop
/-- an error as the machine has it -/
def XRel (c : Cd) (H0 F H : Hp) (x : Xv) (cls : Value) (dd : Option Addr) : Prop := ∃ C, c.mg x.c = some (.ref C) ∧ cls = .ref C ∧ ((x.fs = [] ∧ dd = Option.none) ∨
  ∃ d vs, dd = some d ∧ H d = some (.xd vs) ∧ RzFs c.K c.mg F vs x.fs ∧ Own c H0 F d)
section
variable (c : Cd) (F0 H0 : Hp) (F H : Hp)
def LkX (qx : QX) : Prop := ∀ x b F2 H2 cls dd, qx x b → Ex F F2 → FrOk c.fr b F2 H2 → FrRel c.fr F0 H0 F2 H2 → XRel c H0 F2 H2 x cls dd → c.E cls dd H2
def LkE (ρ : Rho) (σ : L2.St) (q : QD) (Q : VK) : Prop := ∀ v d b F2 H2, q d b → FrRel c.fr F H F2 H2 → Wd c F0 H0 ρ b F2 H2 σ → Rz c.K c.mg F2 v d → Q v H2
/-- a value that is valid as long as nothing of one's own changes -/
def Pb (F H : Hp) (v : V) (d : Dt) : Prop := Rz c.K c.mg F v d ∨ ∃ a, v = .ref a ∧ OwAt c F H a d ∧ Apart c.fr a
def LkB (ρ : Rho) (σ : L2.St) (q : QD) (Q : VK) : Prop := ∀ v d b F2 H2, q d b → FrRel c.fr F H F2 H2 → Wd c F0 H0 ρ b F2 H2 σ → Pb c F2 H2 v d → Q v H2
def LkT (ρ : Rho) (σ : L2.St) (q : Bool → Nat → Prop) (Q : Bool → Hp → Prop) : Prop := ∀ k b F2 H2, q k b → FrRel c.fr F H F2 H2 → Wd c F0 H0 ρ b F2 H2 σ → Q k H2
def PbAll (F H : Hp) (vs : List V) (ds : List Dt) : Prop := Paired (Pb c F H) vs ds
def LkA (ρ : Rho) (σ : L2.St) (q : List Dt → Nat → Prop) (Q : List V → Hp → Prop) : Prop := ∀ vs ds b F2 H2, q ds b → FrRel c.fr F H F2 H2 → Wd c F0 H0 ρ b F2 H2 σ → PbAll c F2 H2 vs ds → Q vs H2
def LkR (n : Nat) (ρ : Rho) (σ : L2.St) (q : List Dt → Nat → Prop) (Q : List V → Hp → Prop) : Prop := ∀ vs ds b F2 H2, q ds b → ds.length = n → FrRel c.fr F H F2 H2 → Wd c F0 H0 ρ b F2 H2 σ → RzAll c.K c.mg F2 vs ds → Q vs H2
structure LkS (D : WEnds) (E : Ends) : Prop where
  nx : ∀ ρ b F2 H2 σ, D.nx ρ b → Ex F F2 → Wd c F0 H0 ρ b F2 H2 σ → E.nx σ H2
  rt : ∀ v d b F2 H2, D.rt d b → Ex F F2 → FrOk c.fr b F2 H2 → FrRel c.fr F0 H0 F2 H2 → Rz c.K c.mg F2 v d → E.rt v H2
  bk : ∀ ρ b F2 H2 σ, D.bk ρ b → Ex F F2 → Wd c F0 H0 ρ b F2 H2 σ → E.bk σ H2
  ct : ∀ ρ b F2 H2 σ, D.ct ρ b → Ex F F2 → Wd c F0 H0 ρ b F2 H2 σ → E.ct σ H2
  x : LkX c F0 H0 F D.ex
  ro : ∀ a d b F2 H2, D.ro d b → Ex F F2 → FrOk c.fr b F2 H2 → FrRel c.fr F0 H0 F2 H2 → OwAt c F2 H2 a d → Own c H0 F2 a → E.rt (.ref a) H2
end
section
variable (c : Cd)
def SndE (t : TE) (w : WE) : Prop := ∀ F0 H0 ρ b F H σ, Wd c F0 H0 ρ b F H σ → ∀ q qx Q, w ρ b q qx → LkX c F0 H0 F qx → LkE c F0 H0 F H ρ σ q Q → t σ H Q
def SndB (t : TE) (w : WE) : Prop := ∀ F0 H0 ρ b F H σ, Wd c F0 H0 ρ b F H σ → ∀ q qx Q, w ρ b q qx → LkX c F0 H0 F qx → LkB c F0 H0 F H ρ σ q Q → t σ H Q
def SndT (t : TT) (w : WT) : Prop := ∀ F0 H0 ρ b F H σ, Wd c F0 H0 ρ b F H σ → ∀ q qx Q, w ρ b q qx → LkX c F0 H0 F qx → LkT c F0 H0 F H ρ σ q Q → t σ H Q
def SndA (t : TA) (w : WA) : Prop := ∀ F0 H0 ρ b F H σ, Wd c F0 H0 ρ b F H σ → ∀ q qx Q, w ρ b q qx → LkX c F0 H0 F qx → LkA c F0 H0 F H ρ σ q Q → t σ H Q
def SndR (t : TA) (w : WA) (n : Nat) : Prop := ∀ F0 H0 ρ b F H σ, Wd c F0 H0 ρ b F H σ → ∀ q qx Q, w ρ b q qx → LkX c F0 H0 F qx → LkR c F0 H0 F H n ρ σ q Q → t σ H Q
def SndS (t : TS) (w : WS) : Prop := ∀ F0 H0 ρ b F H σ, Wd c F0 H0 ρ b F H σ → ∀ D E, w D ρ b → LkS c F0 H0 F D E → t E σ H
end
section
variable {c : Cd} {F0 H0 F F2 H H2 : Hp} {ρ : Rho} {σ : L2.St} {q q2 : QD} {qx : QX} {Q : VK}
theorem LkX.mono (l : LkX c F0 H0 F qx) (e : Ex F F2) : LkX c F0 H0 F2 qx := fun x b F3 H3 cls dd h z => l x b F3 H3 cls dd h (e.trans z)
theorem LkE.mono (l : LkE c F0 H0 F H ρ σ q Q) (g : FrRel c.fr F H F2 H2) : LkE c F0 H0 F2 H2 ρ σ q Q := fun v d b F3 H3 h z => l v d b F3 H3 h (g.trans z)
theorem LkB.mono (l : LkB c F0 H0 F H ρ σ q Q) (g : FrRel c.fr F H F2 H2) : LkB c F0 H0 F2 H2 ρ σ q Q := fun v d b F3 H3 h z => l v d b F3 H3 h (g.trans z)
theorem LkT.mono {q : Bool → Nat → Prop} {Q : Bool → Hp → Prop} (l : LkT c F0 H0 F H ρ σ q Q) (g : FrRel c.fr F H F2 H2) : LkT c F0 H0 F2 H2 ρ σ q Q := fun v b F3 H3 h z => l v b F3 H3 h (g.trans z)
theorem LkS.mono {D : WEnds} {E : Ends} (l : LkS c F0 H0 F D E) (e : Ex F F2) : LkS c F0 H0 F2 D E :=
  ⟨fun r b F3 H3 s h z => l.nx r b F3 H3 s h (e.trans z), fun v d b F3 H3 h z => l.rt v d b F3 H3 h (e.trans z), fun r b F3 H3 s h z => l.bk r b F3 H3 s h (e.trans z), fun r b F3 H3 s h z => l.ct r b F3 H3 s h (e.trans z), l.x.mono e, fun a d b F3 H3 h z => l.ro a d b F3 H3 h (e.trans z)⟩
theorem Pb.of {v : V} {d : Dt} (r : Rz c.K c.mg F v d) : Pb c F H v d := .inl r
theorem Pb.own {a : Addr} {d : Dt} (o : OwAt c F H a d) (n : Own c H0 F a) : Pb c F H (.ref a) d := .inr ⟨a, rfl, o, n.ap⟩
theorem Pb.step {v : V} {d : Dt} (p : Pb c F H v d) (g : FrRel c.fr F H F2 H2) : Pb c F2 H2 v d := by
  rcases p with r | ⟨a, e, o, n⟩
  · exact .inl (rz_ex g.ff r)
  · exact .inr ⟨a, e, o.mono g.ff fun _ t h => g.own t n h, n⟩
theorem Pb.now {v : V} {d : Dt} (p : Pb c F H v d) (z : Ex F H) : Rz c.K c.mg F v d ∨ ∃ a, v = .ref a ∧ OwAt c F H a d := by
  rcases p with r | ⟨a, e, o, n⟩
  · exact .inl r
  · exact .inr ⟨a, e, o⟩
theorem PbAll.step : ∀ {vs : List V} {ds : List Dt}, PbAll c F H vs ds → FrRel c.fr F H F2 H2 → PbAll c F2 H2 vs ds
  | _, _, .nil, _ => .nil
  | _, _, .cons h t, g => .cons (Pb.step h g) (PbAll.step t g)
end
end Dw
set_option Elab.async false
set_option linter.all false
set_option maxRecDepth 100000
set_option maxHeartbeats 4000000
namespace Dw
open PySem PySem.Spec PyProof.Rows L2 Cn
section
variable {c : Cd} {ta tb te : TE} {tt tu : TT} {tas tbs : TA} {wa wb we : WE} {wt wu : WT} {was : WA}
def wVar (i : Nat) : WE := fun ρ b q _ => match at_ ρ i with
  | some (.sh d) => q d b
  | _ => False
def wVarB (i : Nat) : WE := fun ρ b q _ => match at_ ρ i with
  | some (.sh d) => q d b
  | some (.ow d) => q d b
  | _ => False
def wC (d : Dt) : WE := fun _ b q _ => q d b
theorem sn_var {i : Nat} : SndE c (tVar i) (wVar i) := fun F0 H0 ρ b F H σ W q qx Q h _ l => by
  unfold wVar at h
  cases hs : at_ ρ i with
  | none => rw [hs] at h; exact h.elim
  | some s =>
    rw [hs] at h
    cases s with
    | sh d =>
      obtain ⟨v, e, r⟩ := W.sl i _ hs
      exact ⟨v, e, l v d b F H h (FrRel.refl W.z) W r⟩
    | ow d => exact h.elim
    | st => exact h.elim
    | sc n => exact h.elim
    | me a => exact h.elim
theorem SndE.b (h : SndE c te we) : SndB c te we := fun F0 H0 ρ b F H σ W q qx Q hw lx l => h F0 H0 ρ b F H σ W q qx Q hw lx fun v d b2 F2 H2 hq g W2 r => l v d b2 F2 H2 hq g W2 (Pb.of r)
theorem sn_c {v : V} {d : Dt} (r : ∀ F, Rz c.K c.mg F v d) : SndE c (tC v) (wC d) := fun F0 H0 ρ b F H σ W q qx Q h _ l => l v d b F H h (FrRel.refl W.z) W (r F)
theorem sn_non : SndE c (tC .non) (wC .none) := sn_c fun _ => .non
theorem sn_int {i : Int} : SndE c (tC (.int i)) (wC (.int i)) := sn_c fun _ => .int i
theorem sn_bl {k : Bool} : SndE c (tC (.bl k)) (wC (.bool k)) := sn_c fun _ => .bl k
theorem sn_str {x : Str} (h : x.length ≤ 100000) : SndE c (tC (.str x)) (wC (.str x)) := sn_c fun _ => .str x h
abbrev Op2 := Dt → Dt → (Dt → Prop) → Prop
def ROk (c : Cd) (r : R2) (f : Op2) : Prop := ∀ x y d e F H, Ex F H → Pb c F H x d → Pb c F H y e → ∀ (q : Dt → Prop) (Q : VK), f d e q → (∀ v k F2 H2, q k → Grow F H F2 H2 → Rz c.K c.mg F2 v k → Q v H2) → r x y H Q
def wOp (f : Op2) (wa wb : WE) : WE := fun ρ b q qx => wa ρ b (fun x b1 => wb ρ b1 (fun y b2 => f x y fun z => q z b2) qx) qx
theorem sn_op {r : R2} {f : Op2} (hr : ROk c r f) (ha : SndB c ta wa) (hb : SndB c tb wb) : SndE c (tOp r ta tb) (wOp f wa wb) := fun F0 H0 ρ b F H σ W q qx Q h lx l =>
  ha F0 H0 ρ b F H σ W _ qx _ h lx fun x d b1 F1 H1 h1 g1 W1 p1 => hb F0 H0 ρ b1 F1 H1 σ W1 _ qx _ h1 (lx.mono g1.ff) fun y e b2 F2 H2 h2 g2 W2 p2 =>
    hr x y d e F2 H2 W2.z (p1.step g2) p2 _ Q h2 fun v k F3 H3 hq g3 r3 => l v k b2 F3 H3 hq ((g1.trans g2).trans (FrRel.of g3)) (W2.grow g3) r3
abbrev Op1 := Dt → (Dt → Prop) → Prop
def UOk (c : Cd) (r : V → Hp → VK → Prop) (f : Op1) : Prop := ∀ x d F H, Ex F H → Pb c F H x d → ∀ (q : Dt → Prop) (Q : VK), f d q → (∀ v k F2 H2, q k → Grow F H F2 H2 → Rz c.K c.mg F2 v k → Q v H2) → r x H Q
def wUn (f : Op1) (wa : WE) : WE := fun ρ b q qx => wa ρ b (fun x b1 => f x fun z => q z b1) qx
theorem sn_un {r : V → Hp → VK → Prop} {f : Op1} (hr : UOk c r f) (ha : SndB c ta wa) : SndE c (tUn r ta) (wUn f wa) := fun F0 H0 ρ b F H σ W q qx Q h lx l =>
  ha F0 H0 ρ b F H σ W _ qx _ h lx fun x d b1 F1 H1 h1 g1 W1 p1 => hr x d F1 H1 W1.z p1 _ Q h1 fun v k F3 H3 hq g3 r3 => l v k b1 F3 H3 hq (g1.trans (FrRel.of g3)) (W1.grow g3) r3
def isB (d : Dt) (q : Bool → Prop) : Prop := match d with
  | .bool k => q k
  | _ => False
def wTest (w : WE) : WT := fun ρ b q qx => w ρ b (fun d b1 => isB d fun k => q k b1) qx
theorem sn_test (h : SndE c te we) : SndT c (tTest te) (wTest we) := fun F0 H0 ρ b F H σ W q qx Q hw lx l => h F0 H0 ρ b F H σ W _ qx _ hw lx fun v d b1 F1 H1 h1 g1 W1 r => by
  cases r with
  | bl k => exact ⟨k, rfl, l k b1 F1 H1 h1 g1 W1⟩
  | _ => exact h1.elim
theorem sn_tb (h : SndE c te we) : SndT c (tB te) (wTest we) := fun F0 H0 ρ b F H σ W q qx Q hw lx l => h F0 H0 ρ b F H σ W _ qx _ hw lx fun v d b1 F1 H1 h1 g1 W1 r => by
  cases r with
  | bl k => exact ⟨k, rfl, l k b1 F1 H1 h1 g1 W1⟩
  | _ => exact h1.elim
def wNot (w : WT) : WT := fun ρ b q qx => w ρ b (fun k b1 => q (!k) b1) qx
def wAnd (w u : WT) : WT := fun ρ b q qx => w ρ b (fun k b1 => br k (u ρ b1 q qx) (q false b1)) qx
def wOr (w u : WT) : WT := fun ρ b q qx => w ρ b (fun k b1 => br k (q true b1) (u ρ b1 q qx)) qx
theorem sn_not (h : SndT c tt wt) : SndT c (tNot tt) (wNot wt) := fun F0 H0 ρ b F H σ W q qx Q hw lx l => h F0 H0 ρ b F H σ W _ qx _ hw lx fun k b1 F1 H1 h1 g1 W1 => l _ b1 F1 H1 h1 g1 W1
theorem sn_or (h : SndT c tt wt) (k : SndT c tu wu) : SndT c (tOr tt tu) (wOr wt wu) := fun F0 H0 ρ b F H σ W q qx Q hw lx l => h F0 H0 ρ b F H σ W _ qx _ hw lx fun j b1 F1 H1 h1 g1 W1 => by
  cases j with
  | true => exact iteT (l _ b1 F1 H1 h1 g1 W1)
  | false => exact iteF (k F0 H0 ρ b1 F1 H1 σ W1 q qx Q h1 (lx.mono g1.ff) (l.mono g1))
def wYes : WT := fun _ b q _ => q true b
theorem sn_yes : SndT c tYes wYes := fun F0 H0 ρ b F H σ W q qx Q hw lx l => l _ b F H hw (FrRel.refl W.z) W
def wNotV (w : WE) : WE := fun ρ b q qx => w ρ b (fun d b1 => isB d fun k => q (.bool (!k)) b1) qx
def wAndV (w u : WE) : WE := fun ρ b q qx => w ρ b (fun d b1 => isB d fun k => br k (u ρ b1 q qx) (q (.bool false) b1)) qx
def wOrV (w u : WE) : WE := fun ρ b q qx => w ρ b (fun d b1 => isB d fun k => br k (q (.bool true) b1) (u ρ b1 q qx)) qx
def wIf (wt : WT) (wa wb : WE) : WE := fun ρ b q qx => wt ρ b (fun k b1 => br k (wa ρ b1 q qx) (wb ρ b1 q qx)) qx
def wChain (f g : Op2) (wa wb wc : WE) : WE := fun ρ b q qx => wa ρ b (fun x b1 => wb ρ b1 (fun y b2 => f x y fun z => isB z fun k => br k (wc ρ b2 (fun w b3 => g y w fun z => q z b3) qx) (q (.bool false) b2)) qx) qx
def wNil : WA := fun _ b q _ => q [] b
def wCons (w : WE) (ws : WA) : WA := fun ρ b q qx => w ρ b (fun d b1 => ws ρ b1 (fun ds b2 => q (d :: ds) b2) qx) qx
theorem sn_nil : SndA c tNil wNil := fun F0 H0 ρ b F H σ W q qx Q hw lx l => l _ _ b F H hw (FrRel.refl W.z) W .nil
theorem sn_cons (h : SndB c te we) (k : SndA c tas was) : SndA c (tCons te tas) (wCons we was) := fun F0 H0 ρ b F H σ W q qx Q hw lx l => h F0 H0 ρ b F H σ W _ qx _ hw lx fun v d b1 F1 H1 h1 g1 W1 r1 =>
  k F0 H0 ρ b1 F1 H1 σ W1 _ qx _ h1 (lx.mono g1.ff) fun vs ds b2 F2 H2 h2 g2 W2 r2 => l _ _ b2 F2 H2 h2 (g1.trans g2) W2 (.cons (r1.step g2) r2)
theorem snr_nil : SndR c tNil wNil 0 := fun F0 H0 ρ b F H σ W q qx Q hw lx l => l _ _ b F H hw rfl (FrRel.refl W.z) W .nil
theorem snr_cons {n : Nat} (h : SndE c te we) (k : SndR c tas was n) : SndR c (tCons te tas) (wCons we was) (n + 1) := fun F0 H0 ρ b F H σ W q qx Q hw lx l => h F0 H0 ρ b F H σ W _ qx _ hw lx fun v d b1 F1 H1 h1 g1 W1 r1 =>
  k F0 H0 ρ b1 F1 H1 σ W1 _ qx _ h1 (lx.mono g1.ff) fun vs ds b2 F2 H2 h2 e g2 W2 r2 => l _ _ b2 F2 H2 h2 (by rw [List.length_cons, e]) (g1.trans g2) W2 (.cons (rz_ex g2.ff r1) r2)
def COk (c : Cd) (r : List V → Hp → VK → Prop) (f : List Dt → (Dt → Prop) → Prop) : Prop := ∀ xs ds F H, Ex F H → PbAll c F H xs ds → ∀ (q : Dt → Prop) (Q : VK), f ds q → (∀ v k F2 H2, q k → Grow F H F2 H2 → Rz c.K c.mg F2 v k → Q v H2) → r xs H Q
def wCB (f : List Dt → (Dt → Prop) → Prop) (ws : WA) : WE := fun ρ b q qx => ws ρ b (fun ds b1 => f ds fun z => q z b1) qx
theorem sn_cb {r : List V → Hp → VK → Prop} {f : List Dt → (Dt → Prop) → Prop} (hr : COk c r f) (ha : SndA c tas was) : SndE c (tCB r tas) (wCB f was) := fun F0 H0 ρ b F H σ W q qx Q h lx l =>
  ha F0 H0 ρ b F H σ W _ qx _ h lx fun xs ds b1 F1 H1 h1 g1 W1 p1 => hr xs ds F1 H1 W1.z p1 _ Q h1 fun v k F3 H3 hq g3 r3 => l v k b1 F3 H3 hq (g1.trans (FrRel.of g3)) (W1.grow g3) r3
def wTup (ws : WA) : WE := fun ρ b q qx => ws ρ b (fun ds b1 => q (.tuple ds) b1) qx
def wLst (ws : WA) : WE := fun ρ b q qx => ws ρ b (fun ds b1 => q (.list ds) b1) qx
theorem sn_tup {n : Nat} (h : SndR c tas was n) (hn : n ≤ 100000) : SndE c (tTupZ tas) (wTup was) := fun F0 H0 ρ b F H σ W q qx Q hw lx l => h F0 H0 ρ b F H σ W _ qx _ hw lx fun vs ds b1 F1 H1 h1 e g1 W1 r1 => by
  refine ⟨Evl.sz_of (by rw [rza_len r1, e]; exact hn), fun p o hp hd => ?_⟩
  have G := Grow.new (o := .frz o (.tup vs)) W1.z hp
  exact l _ _ b1 _ _ h1 (g1.trans (FrRel.of G)) (W1.grow G) (.tup (by rw [e]; exact hn) (TupZ.of upd_same hd) (rza_ex G.ff r1))
end
end Dw
set_option Elab.async false
set_option linter.all false
set_option maxRecDepth 100000
set_option maxHeartbeats 4000000
namespace Dw
open PySem PySem.Spec PyProof.Rows L2 Cn
section
variable {c : Cd} {F H : Hp} {v : V}
theorem pb_int {i : Int} (p : Pb c F H v (.int i)) (z : Ex F H) : v = .int i := by
  rcases p.now z with r | ⟨a, _, o⟩
  · cases r; rfl
  · exact o.elim
theorem pb_str {i : Str} (p : Pb c F H v (.str i)) (z : Ex F H) : v = .str i := by
  rcases p.now z with r | ⟨a, _, o⟩
  · cases r; rfl
  · exact o.elim
theorem pb_bl {i : Bool} (p : Pb c F H v (.bool i)) (z : Ex F H) : v = .bl i := by
  rcases p.now z with r | ⟨a, _, o⟩
  · cases r; rfl
  · exact o.elim
theorem pb_non (p : Pb c F H v .none) (z : Ex F H) : v = .non := by
  rcases p.now z with r | ⟨a, _, o⟩
  · cases r; rfl
  · exact o.elim
theorem pb_lst {ds : List Dt} (p : Pb c F H v (.list ds)) (z : Ex F H) : ∃ a xs, v = .ref a ∧ H a = some (.lst xs) ∧ RzAll c.K c.mg F xs ds ∧ ds.length ≤ 100000 := by
  rcases p.now z with r | ⟨a, e, o⟩
  · cases r with
    | lst l h t => exact ⟨_, _, rfl, z _ _ h, t, l⟩
  · obtain ⟨l, vs, h, t⟩ := o
    exact ⟨a, vs, e, h, t, l⟩
theorem pb_slen {x : Str} (p : Pb c F H v (.str x)) (z : Ex F H) : x.length ≤ 100000 := by
  rcases p.now z with r | ⟨a, _, o⟩
  · cases r; assumption
  · exact o.elim
theorem pb_tup {ds : List Dt} (p : Pb c F H v (.tuple ds)) (z : Ex F H) : ∃ a xs, v = .ref a ∧ TupZ c.K F a xs ∧ RzAll c.K c.mg F xs ds ∧ ds.length ≤ 100000 := by
  rcases p.now z with r | ⟨a, e, o⟩
  · cases r with
    | tup l h t => exact ⟨_, _, rfl, h, t, l⟩
  · exact o.elim
theorem pb_dct {ds : List (Key × Dt)} (p : Pb c F H v (.dict ds)) (z : Ex F H) : ∃ a xs, v = .ref a ∧ H a = some (.dK xs) ∧ RzKV c.K c.mg F xs ds ∧ ds.length ≤ 100000 := by
  rcases p.now z with r | ⟨a, e, o⟩
  · cases r with
    | dct l h t => exact ⟨_, _, rfl, z _ _ h, t, l⟩
  · obtain ⟨l, vs, h, t⟩ := o
    exact ⟨a, vs, e, h, t, l⟩
theorem pb_dcT {ds : List (List Key × Dt)} (p : Pb c F H v (.dictT ds)) (z : Ex F H) : ∃ a xs, v = .ref a ∧ H a = some (.dT xs) ∧ RzKT c.K c.mg F xs ds ∧ ds.length ≤ 100000 := by
  rcases p.now z with r | ⟨a, e, o⟩
  · cases r with
    | dcT l h t => exact ⟨_, _, rfl, z _ _ h, t, l⟩
  · obtain ⟨l, vs, h, t⟩ := o
    exact ⟨a, vs, e, h, t, l⟩
/-- as the library reads it -/
theorem pb_dz {d : Dt} {e : PyData} (p : Pb c F H v d) (z : Ex F H) (h : d.pl = some e) : Dz c.K H v e ∧ e.plain = true := by
  rcases p.now z with r | ⟨a, ea, o⟩
  · obtain ⟨r1, r2⟩ := rz_dz r h
    exact ⟨dp_ex z r1, r2⟩
  · cases d with
    | list ds =>
      obtain ⟨_, vs, h1, t⟩ := o
      unfold Dt.pl at h
      obtain ⟨ys, h2, h3⟩ := Option.map_eq_some_iff.mp h
      subst h3 ea
      obtain ⟨r1, r2⟩ := rza_dz t h2
      exact ⟨.lst (SqL.of h1) (dpa_ex z r1), by simpa [PyData.plain] using r2⟩
    | dict ds => simp [Dt.pl] at h
    | dictT ds => simp [Dt.pl] at h
    | obj n ds => simp [Dt.pl] at h
    | _ => exact o.elim
def isNone : Dt → Bool
  | .none => true
  | _ => false
end
section
variable {X : Cx} {K : PySem.W.Frag} {c : Cd}
def rAddA (K : PySem.W.Frag) : R2 := fun x y H Q => (∃ i j, x = .int i ∧ y = .int j ∧ Q (.int (i + j)) H) ∨ (∃ i j, x = .str i ∧ y = .str j ∧ i.length + j.length ≤ sizeLine ∧ Q (.str (i ++ j)) H) ∨ rCat x y H Q ∨ rCatZ K x y H Q
theorem op_addA (hK : X.K = K) : OpR X (binaryOp .Add) (rAddA K) := by
  intro pins s σ H x y v u Q I rx ry h
  rcases h with h | h | h | h
  · exact op_add pins s σ H x y v u Q I rx ry h
  · exact op_add_str pins s σ H x y v u Q I rx ry h
  · exact op_cat pins s σ H x y v u Q I rx ry h
  · exact op_catZ hK pins s σ H x y v u Q I rx ry h
def addD : Op2
  | .int i, .int j, q => q (.int (i + j))
  | .str x, .str y, q => x.length + y.length ≤ 100000 ∧ q (.str (x ++ y))
  | .list x, .list y, q => x.length + y.length ≤ 100000 ∧ q (.list (x ++ y))
  | .tuple x, .tuple y, q => x.length + y.length ≤ 100000 ∧ q (.tuple (x ++ y))
  | _, _, _ => False
theorem ro_add : ROk c (rAddA c.K) addD := fun x y d e F H z px py q Q hq k => by
  unfold addD at hq
  split at hq
  · rw [pb_int px z, pb_int py z]
    exact .inl ⟨_, _, rfl, rfl, k _ _ F H hq (Grow.refl z) (.int _)⟩
  · rw [pb_str px z, pb_str py z]
    exact .inr (.inl ⟨_, _, rfl, rfl, Evl.sz_of hq.1, k _ _ F H hq.2 (Grow.refl z) (.str _ (by rw [Str.length_append]; exact hq.1))⟩)
  · obtain ⟨a, xs, rfl, ha, ra, la⟩ := pb_lst px z
    obtain ⟨b, ys, rfl, hb, rb, lb⟩ := pb_lst py z
    refine .inr (.inr (.inl ⟨a, b, xs, ys, rfl, rfl, ha, hb, Evl.sz_of (by rw [rza_len ra, rza_len rb]; exact hq.1), fun p hp => ?_⟩))
    have G := Grow.new (o := .lst (xs ++ ys)) z hp
    exact k _ _ _ _ hq.2 G (.lst (by rw [List.length_append]; exact hq.1) upd_same (rza_ex G.ff (rza_app ra rb)))
  · obtain ⟨a, xs, rfl, ha, ra, la⟩ := pb_tup px z
    obtain ⟨b, ys, rfl, hb, rb, lb⟩ := pb_tup py z
    refine .inr (.inr (.inr ⟨a, b, xs, ys, rfl, rfl, ha.ex z, hb.ex z, Evl.sz_of (by rw [rza_len ra, rza_len rb]; exact hq.1), fun e => ?_, fun e1 e2 => ?_, fun _ _ p o hp hd => ?_⟩))
    · subst e
      cases ra
      exact k _ _ F H hq.2 (Grow.refl z) (.tup lb hb rb)
    · subst e2
      cases rb
      refine k _ _ F H hq.2 (Grow.refl z) ?_
      rw [List.append_nil]
      exact .tup la ha ra
    · have G := Grow.new (o := .frz o (.tup (xs ++ ys))) z hp
      exact k _ _ _ _ hq.2 G (.tup (by rw [List.length_append]; exact hq.1) (TupZ.of upd_same hd) (rza_ex G.ff (rza_app ra rb)))
  · exact hq.elim
def intD (g : Int → Int → Dt) : Op2
  | .int i, .int j, q => q (g i j)
  | _, _, _ => False
def intC (C : Int → Int → Prop) (g : Int → Int → Dt) : Op2
  | .int i, .int j, q => C i j ∧ q (g i j)
  | _, _, _ => False
def subD : Op2 := intD fun i j => .int (i - j)
def mulD : Op2 := intC CMul fun i j => .int (i * j)
def modD : Op2 := intC (fun _ j => 0 < j) fun i j => .int (i % j)
def fdivD : Op2 := intC CDiv fun i j => .int (i / j)
def powD : Op2 := intC CPow fun i j => .int (i ^ j.toNat)
/-- xs * k -/
def repD : Op2
  | .list x, .int k, q => (-(2 ^ 63) ≤ k ∧ k < 2 ^ 63 ∧ x.length * k.toNat ≤ 100000) ∧ q (.list (List.replicate k.toNat x).flatten)
  | _, _, _ => False
theorem rza_rep {xs : List V} {ds : List Dt} {mg : Str → Option Value} {F : Hp} (r : RzAll K mg F xs ds) : ∀ n, RzAll K mg F (List.replicate n xs).flatten (List.replicate n ds).flatten
  | 0 => .nil
  | n + 1 => by
    rw [List.replicate_succ, List.replicate_succ, List.flatten_cons, List.flatten_cons]
    exact rza_app r (rza_rep r n)
theorem rep_len {α : Type} (l : List α) : ∀ n : Nat, (List.replicate n l).flatten.length = n * l.length
  | 0 => by simp
  | n + 1 => by rw [List.replicate_succ, List.flatten_cons, List.length_append, rep_len l n, Nat.succ_mul, Nat.add_comm]
theorem ro_rep : ROk c rRep repD := fun x y d e F H z px py q Q hq k => by
  unfold repD at hq
  split at hq
  · rename_i j
    obtain ⟨a, xs, rfl, ha, ra, la⟩ := pb_lst px z
    rw [pb_int py z]
    refine ⟨a, _, xs, rfl, rfl, ha, hq.1.1, hq.1.2.1, Evl.sz_of (by rw [rza_len ra]; exact hq.1.2.2), fun p hp => ?_⟩
    have G := Grow.new (o := .lst (List.replicate (Int.toNat j) xs).flatten) z hp
    exact k _ _ _ _ hq.2 G (.lst (by rw [rep_len, Nat.mul_comm]; exact hq.1.2.2) upd_same (rza_ex G.ff (rza_rep ra _)))
  · exact hq.elim
def strLt (i j : Str) : Bool := decide (i.cps.toList < j.cps.toList)
def cmpD (p : Int → Int → Bool) (s : Str → Str → Bool) : Op2
  | .int i, .int j, q => q (.bool (p i j))
  | .str i, .str j, q => q (.bool (s i j))
  | _, _, _ => False
def ltD : Op2 := cmpD (fun i j => decide (i < j)) strLt
def leD : Op2 := cmpD (fun i j => decide (i ≤ j)) fun i j => !strLt j i
def gtD : Op2 := cmpD (fun i j => decide (j < i)) fun i j => strLt j i
def geD : Op2 := cmpD (fun i j => decide (j ≤ i)) fun i j => !strLt i j
def neD : Op2 := fun d e q => match d.pl, e.pl with
  | some x, some y => x.depth ≤ 60 ∧ q (.bool (!PyData.eqv x y))
  | _, _ => False
theorem ro_ne : ROk c (rNeP c.K) neD := fun x y d e F H z px py q Q hq k => by
  unfold neD at hq
  split at hq
  · rename_i a b ha hb
    obtain ⟨r1, r2⟩ := pb_dz px z ha
    obtain ⟨r3, r4⟩ := pb_dz py z hb
    exact ⟨a, b, r1, r3, r2, r4, hq.1, k _ _ F H hq.2 (Grow.refl z) (.bl _)⟩
  · exact hq.elim
def isND : Op2 := fun d e q => match e with
  | .none => q (.bool (isNone d))
  | _ => False
def notND : Op2 := fun d e q => match e with
  | .none => q (.bool (!isNone d))
  | _ => False
def itemsOf : Dt → Option (List Dt)
  | .list xs => some xs
  | .tuple xs => some xs
  | _ => Option.none
/-- a sign in a text -/
def inSD (neg : Bool) : Op2
  | .str x, .str z, q => match x.cps.toList with
    | [k] => q (.bool (if neg then !decide (k ∈ z.cps.toList) else decide (k ∈ z.cps.toList)))
    | _ => False
  | _, _, _ => False
def ixD : Op2
  | .list ds, .int i, q => match atI ds i with | some d => q d | Option.none => False
  | .tuple ds, .int i, q => match atI ds i with | some d => q d | Option.none => False
  | .str x, .int i, q => match atI x.cps.toList i with | some k => q (.str ⟨#[k]⟩) | Option.none => False
  | _, _, _ => False
theorem rza_atI {mg : Str → Option Value} {F : Hp} {vs : List V} {ds : List Dt} {i : Int} {d : Dt} (r : RzAll K mg F vs ds) (h : atI ds i = some d) : ∃ v, atI vs i = some v ∧ Rz K mg F v d := by
  unfold atI at h ⊢
  rw [← rza_len r] at h
  obtain ⟨j, h1, h2⟩ := Option.bind_eq_some_iff.mp h
  obtain ⟨v, h3, h4⟩ := rza_get' r h2
  exact ⟨v, by rw [h1]; exact h3, h4⟩
theorem ro_ix : ROk c (rIx c.K) ixD := fun x y d e F H z px py q Q hq k => by
  unfold ixD at hq
  split at hq
  · split at hq
    · rename_i d hd
      obtain ⟨a, xs, rfl, h, t, _⟩ := pb_lst px z
      obtain ⟨v, e1, e2⟩ := rza_atI t hd
      rw [pb_int py z]
      exact .inl ⟨a, xs, _, v, rfl, rfl, SqL.of h, e1, k v d F H hq (Grow.refl z) e2⟩
    · exact hq.elim
  · split at hq
    · rename_i d hd
      obtain ⟨a, xs, rfl, h, t, _⟩ := pb_tup px z
      obtain ⟨v, e1, e2⟩ := rza_atI t hd
      rw [pb_int py z]
      exact .inr (.inl ⟨a, xs, _, v, rfl, rfl, (h.ex z).sq, e1, k v d F H hq (Grow.refl z) e2⟩)
    · exact hq.elim
  · have hl := pb_slen px z
    split at hq
    · rename_i j hd
      rw [pb_int py z, pb_str px z]
      exact .inr (.inr ⟨_, _, j, rfl, rfl, Evl.sz_of hl, hd, k _ _ F H hq (Grow.refl z) (.str _ (by show 1 ≤ 100000; decide))⟩)
    · exact hq.elim
  · exact hq.elim
end
end Dw
set_option Elab.async false
set_option linter.all false
set_option maxRecDepth 100000
set_option maxHeartbeats 4000000
namespace Dw
open PySem PySem.Spec PyProof.Rows L2 Cn
section
variable {c : Cd} {ta tb te : TE} {tt tu : TT} {tas tbs : TA} {wa wb we : WE} {wt wu : WT} {was : WA} {F H F2 H2 : Hp}
/-- an item: frozen data, or (pr) a new tuple of such -/
def Rt (c : Cd) (pr : Bool) (F H : Hp) (v : V) (d : Dt) : Prop := Rz c.K c.mg F v d ∨ pr = true ∧ ∃ T vs ds, v = .ref T ∧ d = .tuple ds ∧ H T = some (.tup vs) ∧ RzAll c.K c.mg F vs ds
theorem Rt.seq {pr : Bool} {v : V} {ds : List Dt} (r : Rt c pr F H v (.tuple ds)) (z : Ex F H) : ∃ a xs, v = .ref a ∧ SqT c.K H a xs ∧ RzAll c.K c.mg F xs ds := by
  rcases r with r | ⟨_, T, vs, ds', e1, e2, h, r⟩
  · cases r with
    | tup l h t => exact ⟨_, _, rfl, (h.ex z).sq, t⟩
  · cases e2
    exact ⟨T, vs, e1, .inl (.inl h), r⟩
abbrev WG := Dt → Rho → (Rho → Prop) → Prop
abbrev WGs := List Dt → Rho → (Rho → Prop) → Prop
def wgName (i : Nat) : WG := fun d ρ k => k (put ρ i (some (.sh d)))
def wgNil : WGs := fun ds ρ k => match ds with
  | [] => k ρ
  | _ => False
def wgCons (g : WG) (gs : WGs) : WGs := fun ds ρ k => match ds with
  | d :: ds => g d ρ fun ρ2 => gs ds ρ2 k
  | [] => False
def wgTup (n : Nat) (gs : WGs) : WG := fun d ρ k => match d with
  | .tuple ds => match ds.length == n with
    | true => gs ds ρ k
    | false => False
  | _ => False
def SndG (c : Cd) (pr : Bool) (g : TG) (w : WG) (is : List Nat) : Prop := ∀ F0 H0 ρ b F H σ, Wd c F0 H0 ρ b F H σ → ∀ v d k R, Rt c pr F H v d → w d ρ k → (∀ ρ2 σ2, k ρ2 → Wd c F0 H0 ρ2 b F H σ2 → (∀ vs, (∀ i ∈ is, i ∈ vs) → wipe σ2 vs = wipe σ vs) → R σ2 H) → g v σ H R
theorem wipe_set {σ : L2.St} {i : Nat} {x : Option V} : ∀ {vs : List Nat}, i ∈ vs → wipe (σ.set i x) vs = wipe σ vs
  | v :: vs, h => by
    unfold wipe
    by_cases e : i ∈ vs
    · rw [wipe_set e]
    · have hv : i = v := (List.mem_cons.mp h).resolve_right e
      subst hv
      have q : ∀ (ws : List Nat), (wipe (σ.set i x) ws).set i none = (wipe σ ws).set i none := fun ws => by
        induction ws with
        | nil => exact List.set_set ..
        | cons w ws ih =>
          unfold wipe
          by_cases hw : w = i
          · rw [hw, List.set_set, List.set_set]
            exact ih
          · rw [List.set_comm _ _ hw, List.set_comm _ _ hw, ih]
      exact q vs
theorem sg_name {i : Nat} : SndG c false (gName i) (wgName i) [i] := fun F0 H0 ρ b F H σ W v d k R r hk l => by
  rcases r with r | ⟨e, _⟩
  · exact l _ _ hk (W.set r) fun vs hv => wipe_set (hv i (List.mem_singleton.mpr rfl))
  · cases e
theorem SndG.pr {g : TG} {w : WG} {is : List Nat} (h : SndG c true g w is) : SndG c false g w is := fun F0 H0 ρ b F H σ W v d k R r => h F0 H0 ρ b F H σ W v d k R (by
  rcases r with r | ⟨e, _⟩
  · exact .inl r
  · cases e)
def SFz (F : Hp) : Hp → Hp → Prop := fun F2 H2 => Ex F F2 ∧ Ex F2 H2
def ItOk (c : Cd) (pr : Bool) (S : Hp → Hp → Prop) (J : It) (ds : List Dt) : Prop := ds.length ≤ 100000 ∧ ∃ (G : Hp → Prop) (Y : Nat → Hp → V → Hp → Prop), Walk J ds.length G Y ∧ (∀ F2 H2, S F2 H2 → G H2) ∧
  ∀ i d, ds[i]? = some d → ∀ F2 H2 v H3, S F2 H2 → Ex F2 H2 → Y i H2 v H3 → ∃ F3, Grow F2 H2 F3 H3 ∧ Rt c pr F3 H3 v d
theorem ItOk.sub {pr : Bool} {S S2 : Hp → Hp → Prop} {J : It} {ds : List Dt} (h : ItOk c pr S J ds) (k : ∀ F H, S2 F H → S F H) : ItOk c pr S2 J ds := by
  obtain ⟨l, G, Y, w, a, b⟩ := h
  exact ⟨l, G, Y, w, fun F2 H2 s => a F2 H2 (k _ _ s), fun i d hd F2 H2 v H3 s => b i d hd F2 H2 v H3 (k _ _ s)⟩
/-- walked while nothing of one's own changes -/
def SndI (c : Cd) (pr : Bool) (wi : TI) (w : WA) : Prop := ∀ F0 H0 ρ b F H σ, Wd c F0 H0 ρ b F H σ → ∀ q qx R, w ρ b q qx → LkX c F0 H0 F qx →
  (∀ J ds b2 F2 H2, q ds b2 → FrRel c.fr F H F2 H2 → Wd c F0 H0 ρ b2 F2 H2 σ → ItOk c pr (fun F3 H3 => FrRel c.fr F2 H2 F3 H3) J ds → R J H2) → wi σ H R
/-- walked whatever changes -/
def SndF (c : Cd) (pr : Bool) (wi : TI) (w : WA) : Prop := ∀ F0 H0 ρ b F H σ, Wd c F0 H0 ρ b F H σ → ∀ q qx R, w ρ b q qx → LkX c F0 H0 F qx →
  (∀ J ds b2 F2 H2, q ds b2 → FrRel c.fr F H F2 H2 → Wd c F0 H0 ρ b2 F2 H2 σ → ItOk c pr (SFz F2) J ds → R J H2) → wi σ H R
theorem SndF.i {pr : Bool} {wi : TI} {w : WA} (h : SndF c pr wi w) : SndI c pr wi w := fun F0 H0 ρ b F H σ W q qx R hw lx l => h F0 H0 ρ b F H σ W q qx R hw lx fun J ds b2 F2 H2 hq g W2 i => l J ds b2 F2 H2 hq g W2 (i.sub fun F3 H3 s => ⟨s.ff, s.fh⟩)
end
def iSeqA (K : PySem.W.Frag) (tl : TE) : TI := fun σ H R => tl σ H fun x H1 => (∃ a, x = .ref a ∧ (∃ xs, SqL K H1 a xs) ∧ R (Itl K a) H1) ∨ (∃ a, x = .ref a ∧ (∃ xs, SqT K H1 a xs) ∧ R (Itt K a) H1) ∨ ∃ z, x = .str z ∧ R (Its z) H1
theorem pi_seqA {X : Cx} {K : PySem.W.Frag} {tg l : Expr} {tl : TE} (hK : X.K = K) (hl : PE X l tl) : PI X tg l (iSeqA K tl) := by
  subst hK
  refine ⟨fun pins s σ H R I h => ?_⟩
  refine thn (hl.run pins s σ H _ I h) fun v s1 ⟨x, H1, I1, r1, q1⟩ => ?_
  rcases q1 with ⟨a, e, ⟨xs, hq⟩, q⟩ | ⟨a, e, ⟨xs, hq⟩, q⟩ | ⟨x, ex, q⟩
  · subst e
    cases r1
    obtain ⟨its, rv, p, hz⟩ := I1.list hq
    refine wpAny_pyIter_list p.isList ?_
    refine ⟨s1.heap.objs.size, [s1.heap.objs.size], _, _, H1, rfl, I1.kept (t' := s1.toks) fun b o e => Heap.get?_push_of_some _ e, turn_list a _, ⟨_, Heap.get?_push_size _ rfl, rfl, rfl⟩, fun b hb => ?_, q⟩
    have e : b = s1.heap.objs.size := by simpa using hb
    subst e
    exact I1.fpOk (Nat.le_refl _) (I1.hok.fresh (Nat.le_refl _))
  · subst e
    cases r1
    obtain ⟨its, rv, p, hz⟩ := I1.tuple hq
    refine wpAny_pyIter_tuple (show s1.heap.IsTuple a its.toArray from p) ?_
    refine ⟨s1.heap.objs.size, [s1.heap.objs.size], _, _, H1, rfl, I1.kept (t' := s1.toks) fun b o e => Heap.get?_push_of_some _ e, turn_tuple a _, ⟨_, Heap.get?_push_size _ rfl, rfl, rfl⟩, fun b hb => ?_, q⟩
    have e : b = s1.heap.objs.size := by simpa using hb
    subst e
    exact I1.fpOk (Nat.le_refl _) (I1.hok.fresh (Nat.le_refl _))
  · subst ex
    obtain ⟨t, rfl⟩ := r1
    cases ha : x.cps.all (· < 128)
    · exact wpAny_pyIter_wide ha (pi_one (tk := s1.toks) I1 _ (turn_str _ x t "str_iterator" (.inr rfl)) ⟨_, Heap.get?_push_size _ rfl, rfl, rfl⟩ q)
    · exact wpAny_pyIter_ascii ha (pi_one (tk := s1.toks) I1 _ (turn_str _ x t "str_ascii_iterator" (.inl rfl)) ⟨_, Heap.get?_push_size _ rfl, rfl, rfl⟩ q)
section
variable {c : Cd} {ta tb te : TE} {tt tu : TT} {tas tbs : TA} {wa wb we : WE} {wt wu : WT} {was : WA} {F H F2 H2 : Hp}
def signs (x : Str) : List Dt := x.cps.toList.map fun k => .str ⟨#[k]⟩
def walkOf : Dt → Option (List Dt)
  | .list xs => some xs
  | .tuple xs => some xs
  | .str x => some (signs x)
  | _ => Option.none
def wiSeq (w : WE) : WA := fun ρ b q qx => w ρ b (fun d b1 => match walkOf d with | some ds => q ds b1 | Option.none => False) qx
theorem it_str {S : Hp → Hp → Prop} {x : Str} (h : x.length ≤ 100000) : ItOk c false S (Its x) (signs x) := by
  have e : (signs x).length = x.cps.size := by unfold signs; rw [List.length_map, Array.length_toList]
  refine ⟨by rw [e]; exact h, _, _, by rw [e]; exact walk_str, fun _ _ _ => True.intro, fun i d hd F2 H2 v H3 s z y => ?_⟩
  obtain ⟨rfl, k, hk, rfl⟩ := y
  refine ⟨F2, Grow.refl z, .inl ?_⟩
  unfold signs at hd
  rw [List.getElem?_map, Array.getElem?_toList, hk] at hd
  cases hd
  exact .str _ (by show 1 ≤ 100000; decide)
theorem it_list {S : Hp → Hp → Prop} {a : Addr} {xs : List V} {ds : List Dt} {F : Hp} (hl : ds.length ≤ 100000) (hs : ∀ F2 H2, S F2 H2 → SqL c.K H2 a xs) (r : RzAll c.K c.mg F xs ds) (hF : ∀ F2 H2, S F2 H2 → Ex F F2) : ItOk c false S (Itl c.K a) ds := by
  refine ⟨hl, _, _, by rw [← rza_len r]; exact walk_list, hs, fun i d hd F2 H2 v H3 s z y => ?_⟩
  obtain ⟨rfl, hv⟩ := y
  obtain ⟨d', e1, e2⟩ := rza_get r hv
  rw [hd] at e1
  cases e1
  exact ⟨F2, Grow.refl z, .inl (rz_ex (hF _ _ s) e2)⟩
theorem it_tup {S : Hp → Hp → Prop} {a : Addr} {xs : List V} {ds : List Dt} {F : Hp} (hl : ds.length ≤ 100000) (hs : ∀ F2 H2, S F2 H2 → SqT c.K H2 a xs) (r : RzAll c.K c.mg F xs ds) (hF : ∀ F2 H2, S F2 H2 → Ex F F2) : ItOk c false S (Itt c.K a) ds := by
  refine ⟨hl, _, _, by rw [← rza_len r]; exact walk_tup, hs, fun i d hd F2 H2 v H3 s z y => ?_⟩
  obtain ⟨rfl, hv⟩ := y
  obtain ⟨d', e1, e2⟩ := rza_get r hv
  rw [hd] at e1
  cases e1
  exact ⟨F2, Grow.refl z, .inl (rz_ex (hF _ _ s) e2)⟩
theorem sf_seq (h : SndE c te we) : SndF c false (iSeqA c.K te) (wiSeq we) := fun F0 H0 ρ b F H σ W q qx R hw lx l => h F0 H0 ρ b F H σ W _ qx _ hw lx fun v d b1 F1 H1 h1 g1 W1 r => by
  cases r with
  | lst l1 hs t => exact .inl ⟨_, rfl, ⟨_, SqL.of (W1.z _ _ hs)⟩, l _ _ b1 F1 H1 h1 g1 W1 (it_list l1 (fun F2 H2 s => SqL.of (s.2 _ _ (s.1 _ _ hs))) t fun _ _ s => s.1)⟩
  | tup l1 hs t => exact .inr (.inl ⟨_, rfl, ⟨_, (hs.ex W1.z).sq⟩, l _ _ b1 F1 H1 h1 g1 W1 (it_tup l1 (fun F2 H2 s => (hs.ex (s.1.trans s.2)).sq) t fun _ _ s => s.1)⟩)
  | str x l1 => exact .inr (.inr ⟨x, rfl, l _ _ b1 F1 H1 h1 g1 W1 (it_str l1)⟩)
  | _ => exact h1.elim
def natD (lo : Int) (n : Nat) : List Dt := (List.range n).map fun (i : Nat) => Dt.int (lo + i)
theorem it_range {S : Hp → Hp → Prop} {lo : Int} {n : Nat} (h : n ≤ 100000) : ItOk c false S (Itr lo n) (natD lo n) := by
  have e : (natD lo n).length = n := by unfold natD; rw [List.length_map, List.length_range]
  refine ⟨by rw [e]; exact h, _, _, by rw [e]; exact walk_range, fun _ _ _ => True.intro, fun i d hd F2 H2 v H3 s z y => ?_⟩
  obtain ⟨rfl, rfl⟩ := y
  refine ⟨F2, Grow.refl z, .inl ?_⟩
  unfold natD at hd
  rw [List.getElem?_map] at hd
  obtain ⟨k, hk, rfl⟩ := Option.map_eq_some_iff.mp hd
  have hi := (List.getElem?_eq_some_iff.mp hk).1
  rw [List.length_range] at hi
  rw [List.getElem?_range hi] at hk
  cases hk
  exact .int _
def wiR1 (ws : WA) : WA := fun ρ b q qx => ws ρ b (fun ds b1 => match ds with
  | [.int n] => (-100000 ≤ n ∧ n ≤ 100000) ∧ q (natD 0 n.toNat) b1
  | _ => False) qx
def wiR2 (ws : WA) : WA := fun ρ b q qx => ws ρ b (fun ds b1 => match ds with
  | [.int m, .int n] => ((-(2 ^ 62) ≤ m ∧ m < 2 ^ 62 ∧ -(2 ^ 62) ≤ n ∧ n < 2 ^ 62) ∧ n - m ≤ 100000) ∧ q (natD m (n - m).toNat) b1
  | _ => False) qx
theorem sf_range1 (h : SndA c tas was) : SndF c false (iRng1 tas) (wiR1 was) := fun F0 H0 ρ b F H σ W q qx R hw lx l => h F0 H0 ρ b F H σ W _ qx _ hw lx fun vs ds b1 F1 H1 h1 g1 W1 p => by
  split at h1
  · rename_i n
    cases p with
    | cons p t =>
      cases t
      have e := pb_int p W1.z
      subst e
      refine ⟨n, rfl, by omega, by omega, ?_⟩
      exact l _ _ b1 F1 H1 h1.2 g1 W1 (it_range (by omega))
  · exact h1.elim
def enumD (ds : List Dt) : List Dt := ds.zipIdx.map fun p => .tuple [.int (p.2 : Nat), p.1]
def wiEnum (ws : WA) : WA := fun ρ b q qx => ws ρ b (fun ds b1 => match ds with
  | [.list xs] => q (enumD xs) b1
  | _ => False) qx
def zipD : List Dt → List Dt → List Dt
  | x :: xs, y :: ys => .tuple [x, y] :: zipD xs ys
  | _, _ => []
def wiZip (ws : WA) : WA := fun ρ b q qx => ws ρ b (fun ds b1 => match ds with
  | [.list xs, .list ys] => q (zipD xs ys) b1
  | _ => False) qx
end
end Dw
set_option Elab.async false
set_option linter.all false
set_option maxRecDepth 100000
set_option maxHeartbeats 4000000
namespace Dw
open PySem PySem.Spec PyProof.Rows L2 Cn
section
variable {c : Cd} {ta tb te : TE} {tt tu : TT} {tas tbs : TA} {wa wb we : WE} {wt wu : WT} {was : WA} {F H F2 H2 F0 H0 : Hp} {ρ : Rho} {b : Nat} {σ : L2.St} {a : Addr} {o : HO}
structure Far (c : Cd) (H0 : Hp) (ρ : Rho) (F : Hp) (σ : L2.St) (a : Addr) : Prop where
  own : Own c H0 F a
  nw : ∀ j e, at_ ρ j = some (.ow e) → σ[j]? ≠ some (some (.ref a))
theorem Wd.far (w : Wd c F0 H0 ρ b F H σ) (h : H a = none) : Far c H0 ρ F σ a := ⟨(w.fresh h).1, (w.fresh h).2⟩
theorem Far.step (f : Far c H0 ρ F σ a) (g : FrRel c.fr F H F2 H2) (t : ¬ IsTbl o) (h : H a = some o) : Far c H0 ρ F2 σ a := ⟨⟨g.nw t h f.own.nf, f.own.n0, f.own.ap⟩, f.nw⟩
theorem Wd.mutX (w : Wd c F0 H0 ρ b F H σ) (f : Far c H0 ρ F σ a) (hc : ∀ q, H a ≠ some (LamX.CodeO a q)) : Wd c F0 H0 ρ b F (upd H a o) σ := by
  refine ⟨w.ok.mut f.own.ap f.own.nf hc, w.rel.mut f.own.ap f.own.nf f.own.n0, w.len, fun i s h => ?_, w.dj⟩
  have q := w.sl i s h
  cases s with
  | sh d => exact q
  | st => exact q
  | sc n => exact q
  | me a => exact q
  | ow d =>
    obtain ⟨a2, e2, o2, n2⟩ := q
    have na : a2 ≠ a := fun z => f.nw i d h (by rw [e2, z])
    exact ⟨a2, e2, o2.mono (Evl.Ex.refl _) fun x _ hx => by rw [upd_ne na]; exact hx, n2⟩
theorem Wd.frzX (w : Wd c F0 H0 ρ b F H σ) (f : Far c H0 ρ F σ a) (t0 : ¬ IsTbl o) (h : H a = some o) : Wd c F0 H0 ρ b (upd F a o) H σ := by
  have x : Ex F (upd F a o) := Evl.Ex.new f.own.nf
  refine ⟨w.ok.frz f.own.ap t0 h, w.rel.frz f.own.ap f.own.nf f.own.n0 t0 h, w.len, fun i s hs => ?_, w.dj⟩
  have q := w.sl i s hs
  cases s with
  | sh d => obtain ⟨v, a, r⟩ := q; exact ⟨v, a, rz_ex x r⟩
  | st => exact q
  | sc n => obtain ⟨a, xs, e1, e2, e3⟩ := q; exact ⟨a, xs, e1, Evl.ex_l x e2, e3⟩
  | me a => exact q
  | ow d =>
    obtain ⟨a2, e2, o2, n2⟩ := q
    have na : a2 ≠ a := fun z => f.nw i d hs (by rw [e2, z])
    exact ⟨a2, e2, o2.mono x fun _ _ hx => hx, by rw [upd_ne na]; exact n2.nf, n2.n0, n2.ap⟩
def LkN (c : Cd) (F0 H0 F H : Hp) (ρ : Rho) (σ : L2.St) (q : QD) (Q : VK) : Prop := ∀ p d b F2 H2, q d b → FrRel c.fr F H F2 H2 → Wd c F0 H0 ρ b F2 H2 σ → N0 c.fr H p → Far c H0 ρ F2 σ p → OwAt c F2 H2 p d → Q (.ref p) H2
def SndN (c : Cd) (t : TE) (w : WE) : Prop := ∀ F0 H0 ρ b F H σ, Wd c F0 H0 ρ b F H σ → ∀ q qx Q, w ρ b q qx → LkX c F0 H0 F qx → LkN c F0 H0 F H ρ σ q Q → t σ H Q
theorem owAt_frz {p : Addr} {d : Dt} (h : OwAt c F H p d) (n : F p = none) : ∃ o, ¬ IsTbl o ∧ H p = some o ∧ Rz c.K c.mg (upd F p o) (.ref p) d := by
  obtain ⟨o, ho, po⟩ := h.some
  refine ⟨o, po.1, ho, h.rz (Evl.Ex.new n) fun u hu => ?_⟩
  rw [upd_same, ← hu, ho]
theorem SndN.e (h : SndN c te we) : SndE c te we := fun F0 H0 ρ b F H σ W q qx Q hw lx l => h F0 H0 ρ b F H σ W q qx Q hw lx fun p d b2 F2 H2 hq g W2 hp f ow => by
  obtain ⟨o, t0, ho, r⟩ := owAt_frz ow f.own.nf
  exact l _ d b2 _ H2 hq (g.frz f.own.ap f.own.nf hp t0 ho) (W2.frzX f t0 ho) r
theorem snn_lst {n : Nat} (h : SndR c tas was n) (hn : n ≤ 100000) : SndN c (tLst tas) (wLst was) := fun F0 H0 ρ b F H σ W q qx Q hw lx l => h F0 H0 ρ b F H σ W _ qx _ hw lx fun vs ds b1 F1 H1 h1 e g1 W1 r1 => by
  refine ⟨Evl.sz_of (by rw [rza_len r1, e]; exact hn), fun p hp => ?_⟩
  have f := W1.far hp
  have G : Grow F1 H1 F1 (upd H1 p (.lst vs)) := Grow.tmp W1.z hp
  exact l p _ b1 F1 _ h1 (g1.trans (FrRel.of G)) (W1.grow G) (g1.back (N0.of hp)) f ⟨by rw [e]; exact hn, vs, upd_same, r1⟩
def wD0 : WE := fun _ b q _ => q (.dict []) b
theorem snn_d0 : SndN c tDNewK wD0 := fun F0 H0 ρ b F H σ W q qx Q hw lx l p hp => by
  have G : Grow F H F (upd H p (.dK [])) := Grow.tmp W.z hp
  exact l p _ b F _ hw (FrRel.of G) (W.grow G) (N0.of hp) (W.far hp) ⟨Nat.zero_le _, [], upd_same, .nil⟩
def wipeR (ρ : Rho) : List Nat → Rho
  | [] => ρ
  | v :: vs => put (wipeR ρ vs) v none
theorem Wd.wipes (w : Wd c F0 H0 ρ b F H σ) : ∀ vs : List Nat, Wd c F0 H0 (wipeR ρ vs) b F H (wipe σ vs)
  | [] => w
  | v :: vs => (Wd.wipes w vs).wipe1
def lcW (g : WG) (wt : WT) (we : WE) (ρ : Rho) : List Dt → Nat → (List Dt → Nat → Prop) → Prop
  | [], b, q => q [] b
  | d :: ds, b, q => g d ρ fun ρ2 => wt ρ2 b (fun k b1 => br k (we ρ2 b1 (fun y b2 => lcW g wt we ρ ds b2 fun r b3 => q (y :: r) b3) fun _ _ => False) (lcW g wt we ρ ds b1 q)) fun _ _ => False
def wLc (wi : WA) (g : WG) (wt : WT) (we : WE) (vs : List Nat) : WE := fun ρ b q qx => wi ρ b (fun ds b1 => lcW g wt we (wipeR ρ vs) ds b1 fun r b2 => q (.list r) b2) qx
theorem lkx_no : LkX c F0 H0 F fun _ _ => False := fun _ _ _ _ _ _ h => h.elim
theorem drop_at {α : Type} {l : List α} {i : Nat} (h : i < l.length) : ∃ x, l[i]? = some x ∧ l.drop i = x :: l.drop (i + 1) := ⟨l[i], List.getElem?_eq_getElem h, List.drop_eq_getElem_cons h⟩
theorem wipe_wipe (σ : L2.St) (vs : List Nat) : wipe (wipe σ vs) vs = wipe σ vs := by
  have ww : ∀ us : List Nat, (∀ u ∈ us, u ∈ vs) → wipe (wipe σ us) vs = wipe σ vs := fun us => by
    induction us with
    | nil => exact fun _ => rfl
    | cons u us ih =>
      intro h
      show wipe ((wipe σ us).set u none) vs = _
      rw [wipe_set (h u List.mem_cons_self), ih fun x hx => h x (List.mem_cons_of_mem _ hx)]
  exact ww vs fun _ h => h
theorem at_wipe {i : Nat} {d : Dt} : ∀ {vs : List Nat}, at_ (wipeR ρ vs) i = some (.ow d) → at_ ρ i = some (.ow d) ∧ i ∉ vs
  | [], h => ⟨h, List.not_mem_nil⟩
  | v :: vs, h => by
    rcases at_put h with ⟨_, _, e⟩ | ⟨n, h⟩
    · cases e
    · obtain ⟨h1, h2⟩ := at_wipe h
      exact ⟨h1, fun m => (List.mem_cons.mp m).elim n h2⟩
theorem Far.wipes (f : Far c H0 ρ F σ a) (vs : List Nat) : Far c H0 (wipeR ρ vs) F (wipe σ vs) a := ⟨f.own, fun j e h => by
  obtain ⟨h1, h2⟩ := at_wipe h
  rw [wipe_out h2]
  exact f.nw j e h1⟩
/-- where a turn stands: the list made so far at D -/
structure LcP (c : Cd) (F0 H0 : Hp) (ρ : Rho) (σ : L2.St) (F1 H1 : Hp) (D : Addr) (i : Nat) (H : Hp) (b : Nat) (Fi : Hp) (acc : List V) (ds : List Dt) : Prop where
  w : Wd c F0 H0 ρ b Fi H σ
  g : FrRel c.fr F1 H1 Fi H
  f : Far c H0 ρ Fi σ D
  n1 : N0 c.fr H1 D
  at_ : H D = some (.lst acc)
  r : RzAll c.K c.mg Fi acc ds
  l : ds.length ≤ i
theorem code_lst {H : Hp} {a : Addr} {xs : List V} (h : H a = some (.lst xs)) (q : Str) : H a ≠ some (LamX.CodeO a q) := fun e => by
  rw [h] at e
  exact plain_lst.2 q (Option.some.inj e)
theorem snn_lc {pr : Bool} {wi : TI} {wiw : WA} {g : TG} {wg : WG} {is vs : List Nat} (hi : SndI c pr wi wiw) (hg : SndG c pr g wg is) (hs : ∀ i ∈ is, i ∈ vs) (ht : SndT c tt wt) (he : SndE c te we) : SndN c (tLc wi g tt te vs) (wLc wiw wg wt we vs) :=
  fun F0 H0 ρ b F H σ W q qx Q hw lx l => hi F0 H0 ρ b F H σ W _ qx _ hw lx fun J ds b1 F1 H1 h1 g1 W1 it D hD => by
    obtain ⟨hl, G, Y, wk, hG, hY⟩ := it
    have fD := W1.far hD
    have G0 : Grow F1 H1 F1 (upd H1 D (.lst [])) := Grow.tmp W1.z hD
    refine lc_it wk (fun i H => ∃ b' Fi acc accd, LcP c F0 H0 ρ σ F1 H1 D i H b' Fi acc accd ∧ lcW wg wt we (wipeR ρ vs) (ds.drop i) b' fun r b2 => q (.list (accd ++ r)) b2)
      ⟨b1, F1, [], [], ⟨W1.grow G0, FrRel.of G0, fD, N0.of hD, upd_same, .nil, Nat.le_refl _⟩, h1⟩ (fun i H2 _ ⟨_, Fi, _, _, P, _⟩ => hG _ _ P.g) (fun i v H2 H3 hi ⟨b2, Fi, acc, accd, P, hq⟩ y => ?_) (fun H2 ⟨b2, Fi, acc, accd, P, hq⟩ => ?_)
    · obtain ⟨d, hd, e⟩ := drop_at hi
      rw [e] at hq
      obtain ⟨F3, g3, r3⟩ := hY i d hd Fi H2 v H3 P.g P.w.z y
      have W3 := P.w.grow g3
      have at3 : H3 D = some (.lst acc) := g3.hh _ _ P.at_
      have f3 := P.f.step (FrRel.of g3) tbl_lst P.at_
      have g13 := P.g.trans (FrRel.of g3)
      refine hg F0 H0 _ b2 F3 H3 _ (W3.wipes vs) v d _ _ r3 hq fun ρ2 σ2 hk W4 hw2 => ⟨(hw2 vs hs).trans (wipe_wipe σ vs), ?_⟩
      refine ht F0 H0 ρ2 b2 F3 H3 σ2 W4 _ _ _ hk lkx_no fun k b5 F5 H5 h5 g5 W5 => ?_
      have at5 : H5 D = some (.lst acc) := g5.own tbl_lst f3.own.ap at3
      have f5 := f3.step g5 tbl_lst at3
      have W5' : Wd c F0 H0 ρ b5 F5 H5 σ := W3.step g5 W5.ok
      have r5 := rza_ex (g3.ff.trans g5.ff) P.r
      cases k with
      | false =>
        refine iteF ⟨b5, F5, acc, accd, ⟨W5', g13.trans g5, f5, P.n1, at5, r5, Nat.le_succ_of_le P.l⟩, h5⟩
      | true =>
        refine iteT (he F0 H0 ρ2 b5 F5 H5 σ2 W5 _ _ _ h5 lkx_no fun y d6 b6 F6 H6 h6 g6 W6 r6 => ?_)
        have at6 : H6 D = some (.lst acc) := g6.own tbl_lst f5.own.ap at5
        have f6 := f5.step g6 tbl_lst at5
        have W6' : Wd c F0 H0 ρ b6 F6 H6 σ := W5'.step g6 W6.ok
        have ll : accd.length + 1 ≤ 100000 := Nat.le_trans (Nat.succ_le_succ P.l) (Nat.le_trans hi hl)
        refine ⟨acc, at6, Evl.sz_lt (by rw [rza_len P.r]; omega), b6, F6, acc ++ [y], accd ++ [d6], ⟨W6'.mutX f6 (code_lst at6), ((g13.trans g5).trans g6).mut f6.own.ap f6.own.nf P.n1, f6, P.n1, upd_same, rza_app (rza_ex g6.ff r5) (.cons r6 .nil), by rw [List.length_append]; exact Nat.succ_le_succ P.l⟩, ?_⟩
        have ef : (fun r b3 => q (Dt.list ((accd ++ [d6]) ++ r)) b3) = fun r b3 => q (Dt.list (accd ++ d6 :: r)) b3 := by
          funext r b3
          rw [List.append_assoc]
          rfl
        rw [ef]
        exact h6
    · rw [List.drop_length] at hq
      have hq : q (.list (accd ++ [])) b2 := hq
      rw [List.append_nil] at hq
      exact l D _ b2 Fi H2 hq (g1.trans P.g) P.w (g1.back P.n1) P.f ⟨Nat.le_trans P.l hl, acc, P.at_, P.r⟩
variable {ts tr tbd : TS} {ws wr wbd : WS}
def wSeq (w u : WS) : WS := fun D ρ b => w { D with nx := u D } ρ b
theorem ss_seq (h : SndS c ts ws) (k : SndS c tr wr) : SndS c (tSeq ts tr) (wSeq ws wr) := fun F0 H0 ρ b F H σ W D E hw l => h F0 H0 ρ b F H σ W _ _ hw ⟨fun ρ2 b2 F2 H2 σ2 h2 e W2 => k F0 H0 ρ2 b2 F2 H2 σ2 W2 D E h2 (l.mono e), l.rt, l.bk, l.ct, l.x, l.ro⟩
def wNext : WS := fun D ρ b => D.nx ρ b
theorem ss_next : SndS c tNext wNext := fun F0 H0 ρ b F H σ W D E hw l => l.nx ρ b F H σ hw (Evl.Ex.refl _) W
def wRet (w : WE) : WS := fun D ρ b => w ρ b D.rt D.ex
theorem ss_ret (h : SndE c te we) : SndS c (tRet te) (wRet we) := fun F0 H0 ρ b F H σ W D E hw l => h F0 H0 ρ b F H σ W _ _ _ hw l.x fun v d b2 F2 H2 hq g W2 r => l.rt v d b2 F2 H2 hq g.ff W2.ok W2.rel r
def wRetN : WS := fun D _ b => D.rt .none b
def wIfS (wt : WT) (w u : WS) : WS := fun D ρ b => wt ρ b (fun k b1 => br k (w D ρ b1) (u D ρ b1)) D.ex
theorem ss_if (h : SndT c tt wt) (k : SndS c ts ws) (j : SndS c tr wr) : SndS c (tIfS tt ts tr) (wIfS wt ws wr) := fun F0 H0 ρ b F H σ W D E hw l => h F0 H0 ρ b F H σ W _ _ _ hw l.x fun x b1 F1 H1 h1 g1 W1 => by
  cases x with
  | true => exact iteT (k F0 H0 ρ b1 F1 H1 σ W1 D E h1 (l.mono g1.ff))
  | false => exact iteF (j F0 H0 ρ b1 F1 H1 σ W1 D E h1 (l.mono g1.ff))
def wDrop (w : WE) : WS := fun D ρ b => w ρ b (fun _ b1 => D.nx ρ b1) D.ex
def wBreak : WS := fun D ρ b => D.bk ρ b
def wCont : WS := fun D ρ b => D.ct ρ b
/-- x = e, (x, y) = e -/
def wAsg (w : WE) (g : WG) : WS := fun D ρ b => w ρ b (fun d b1 => g d ρ fun ρ2 => D.nx ρ2 b1) D.ex
theorem ss_asg {g : TG} {wg : WG} {is : List Nat} (h : SndE c te we) (hg : SndG c false g wg is) : SndS c (tAsg te g) (wAsg we wg) := fun F0 H0 ρ b F H σ W D E hw l => h F0 H0 ρ b F H σ W _ _ _ hw l.x fun v d b2 F2 H2 hq g2 W2 r =>
  hg F0 H0 ρ b2 F2 H2 σ W2 v d _ _ (.inl r) hq fun ρ2 σ2 hk W3 _ => l.nx ρ2 b2 F2 H2 σ2 hk g2.ff W3
/-- x = a new list of one's own -/
def wAsgN (w : WE) (i : Nat) : WS := fun D ρ b => w ρ b (fun d b1 => D.nx (put ρ i (some (.ow d))) b1) D.ex
/-- what is in slot i is one's own no more (a step of thought) -/
def wFrz (i : Nat) (w : WS) : WS := fun D ρ b => match at_ ρ i with
  | some (.ow d) => w D (put ρ i (some (.sh d))) b
  | _ => False
/-- x.append(e), x one's own -/
def wAppend (i : Nat) (w : WE) : WS := fun D ρ b => match at_ ρ i with
  | some (.ow (.list ds)) => w ρ b (fun d b1 => ds.length < 100000 ∧ D.nx (put ρ i (some (.ow (.list (ds ++ [d]))))) b1) D.ex
  | _ => False
/-- x[k] = e, x one's own, by place -/
def setAt (ds : List Dt) (i : Int) (d : Dt) : Option (List Dt) := (ixN ds.length i).map fun j => ds.set j d
/-- for x in xs: .. -/
def forW (g : WG) (w : WS) (D : WEnds) : List Dt → Rho → Nat → Prop
  | [], ρ, b => D.nx ρ b
  | d :: ds, ρ, b => g d ρ fun ρ2 => w { D with nx := forW g w D ds, ct := forW g w D ds, bk := D.nx } ρ2 b
def wFor (wi : WA) (g : WG) (w : WS) : WS := fun D ρ b => wi ρ b (fun ds b1 => forW g w D ds ρ b1) D.ex
theorem ss_for {pr : Bool} {wi : TI} {wiw : WA} {g : TG} {wg : WG} {is : List Nat} (hi : SndF c pr wi wiw) (hg : SndG c pr g wg is) (hb : SndS c tbd wbd) : SndS c (tFor wi g tbd) (wFor wiw wg wbd) := fun F0 H0 ρ b F H σ W D E hw l =>
  hi F0 H0 ρ b F H σ W _ _ _ hw l.x fun J ds b1 F1 H1 h1 g1 W1 it => by
    obtain ⟨hl, G, Y, wk, hG, hY⟩ := it
    refine for_it wk (fun i σ H => ∃ ρ' b' Fi, Wd c F0 H0 ρ' b' Fi H σ ∧ Ex F1 Fi ∧ forW wg wbd D (ds.drop i) ρ' b') ⟨ρ, b1, F1, W1, Evl.Ex.refl _, h1⟩ (fun i σ H _ ⟨_, Fi, _, w, e, _⟩ => ?_) (fun i v σ H H' hi ⟨ρ', b', Fi, w, e, hq⟩ y => ?_) (fun σ H ⟨ρ', b', Fi, w, e, hq⟩ => ?_)
    · exact hG _ _ ⟨e, w.z⟩
    · obtain ⟨d, hd, ed⟩ := drop_at hi
      rw [ed] at hq
      obtain ⟨F3, g3, r3⟩ := hY i d hd Fi H v H' ⟨e, w.z⟩ w.z y
      refine hg F0 H0 ρ' b' F3 H' σ (w.grow g3) v d _ _ r3 hq fun ρ2 σ2 hk W2 _ => hb F0 H0 ρ2 b' F3 H' σ2 W2 _ _ hk ?_
      have e3 := e.trans g3.ff
      exact ⟨fun ρ4 b4 F4 H4 σ4 h4 e4 W4 => ⟨ρ4, b4, F4, W4, e3.trans e4, h4⟩, fun v d b4 F4 H4 h4 e4 => l.rt v d b4 F4 H4 h4 (g1.ff.trans (e3.trans e4)), fun ρ4 b4 F4 H4 σ4 h4 e4 W4 => l.nx ρ4 b4 F4 H4 σ4 h4 (g1.ff.trans (e3.trans e4)) W4,
        fun ρ4 b4 F4 H4 σ4 h4 e4 W4 => ⟨ρ4, b4, F4, W4, e3.trans e4, h4⟩, l.x.mono (g1.ff.trans e3), fun a d b4 F4 H4 h4 e4 => l.ro a d b4 F4 H4 h4 (g1.ff.trans (e3.trans e4))⟩
    · rw [List.drop_length] at hq
      exact l.nx ρ' b' Fi H σ hq (g1.ff.trans e) w
end
end Dw
set_option Elab.async false
set_option linter.all false
set_option maxRecDepth 100000
set_option maxHeartbeats 4000000
namespace Dw
open PySem PySem.Spec PyProof.Rows L2 Cn
section
variable {c : Cd} {ta tb te tk tv td : TE} {tt tu : TT} {tas tbs : TA} {wa wb we wk wv wd : WE} {wt wu : WT} {was : WA} {F H F2 H2 F0 H0 : Hp} {ρ : Rho} {b : Nat} {σ : L2.St} {a : Addr} {o : HO}
def wSetL (i : Nat) (wk we : WE) : WS := fun D ρ b => match at_ ρ i with
  | some (.ow (.list ds)) => we ρ b (fun d b1 => wk ρ b1 (fun k b2 => match k with
    | .int n => match setAt ds n d with
      | some ds2 => D.nx (put ρ i (some (.ow (.list ds2)))) b2
      | Option.none => False
    | _ => False) D.ex) D.ex
  | _ => False
def keyD : Dt → Option Key
  | .int i => some (.inl i)
  | .str s => some (.inr s)
  | _ => Option.none
def kvGet (kvs : List (Key × Dt)) (k : Key) : Option Dt := (kvs.find? fun kv => decide (kv.1 = k)).map (·.2)
def kvPut (kvs : List (Key × Dt)) (k : Key) (v : Dt) : List (Key × Dt) :=
  if (kvs.any fun kv => decide (kv.1 = k)) = true then kvs.map (fun kv => if kv.1 = k then (kv.1, v) else kv) else kvs ++ [(k, v)]
theorem rz_key {v : V} {d : Dt} {k : Key} (p : Rz c.K c.mg F v d) (h : keyD d = some k) : v = kV k := by
  cases p <;> first | (cases h; done) | (cases h; rfl)
theorem rzk_any {K : PySem.W.Frag} {mg : Str → Option Value} {F : Hp} {k : Key} : ∀ {vs : List (Key × V)} {ds : List (Key × Dt)}, RzKV K mg F vs ds → (vs.any fun kv => decide (kv.1 = k)) = ds.any fun kv => decide (kv.1 = k)
  | _, _, .nil => rfl
  | _, _, .cons r t => by rw [List.any_cons, List.any_cons, rzk_any t]
theorem rzk_len {K : PySem.W.Frag} {mg : Str → Option Value} {F : Hp} : ∀ {vs : List (Key × V)} {ds : List (Key × Dt)}, RzKV K mg F vs ds → vs.length = ds.length
  | _, _, .nil => rfl
  | _, _, .cons _ t => by rw [List.length_cons, List.length_cons, rzk_len t]
theorem rzk_app {K : PySem.W.Frag} {mg : Str → Option Value} {F : Hp} {k : Key} {v : V} {d : Dt} (r : Rz K mg F v d) : ∀ {vs : List (Key × V)} {ds : List (Key × Dt)}, RzKV K mg F vs ds → RzKV K mg F (vs ++ [(k, v)]) (ds ++ [(k, d)])
  | _, _, .nil => .cons r .nil
  | _, _, .cons h t => .cons h (rzk_app r t)
theorem rzk_map {K : PySem.W.Frag} {mg : Str → Option Value} {F : Hp} {k : Key} {v : V} {d : Dt} (r : Rz K mg F v d) : ∀ {vs : List (Key × V)} {ds : List (Key × Dt)}, RzKV K mg F vs ds → RzKV K mg F (vs.map fun kv => if kv.1 = k then (kv.1, v) else kv) (ds.map fun kv => if kv.1 = k then (kv.1, d) else kv)
  | _, _, .nil => .nil
  | (k1, v1) :: vs, (_, d1) :: ds, .cons h t => by
    rw [List.map_cons, List.map_cons]
    by_cases e : k1 = k
    · rw [if_pos e, if_pos e]
      exact .cons r (rzk_map r t)
    · rw [if_neg e, if_neg e]
      exact .cons h (rzk_map r t)
theorem rzk_put {K : PySem.W.Frag} {mg : Str → Option Value} {F : Hp} {k : Key} {v : V} {d : Dt} {vs : List (Key × V)} {ds : List (Key × Dt)} (r : Rz K mg F v d) (h : RzKV K mg F vs ds) : RzKV K mg F (putK vs k v) (kvPut ds k d) := by
  unfold putK kvPut
  rw [rzk_any h]
  split
  · exact rzk_map r h
  · exact rzk_app r h
theorem kvPut_len (ds : List (Key × Dt)) (k : Key) (d : Dt) : (kvPut ds k d).length ≤ ds.length + 1 := by
  unfold kvPut
  split
  · rw [List.length_map]; omega
  · rw [List.length_append]; exact Nat.le_refl _
/-- d[k] = e, d one's own -/
def wDPut (i : Nat) (wk we : WE) : WS := fun D ρ b => match at_ ρ i with
  | some (.ow (.dict ds)) => we ρ b (fun d b1 => wk ρ b1 (fun k b2 => match keyD k with
    | some key => ds.length < 100000 ∧ D.nx (put ρ i (some (.ow (.dict (kvPut ds key d))))) b2
    | Option.none => False) D.ex) D.ex
  | _ => False
/-- d[k] -/
def dgetD (d k : Dt) (q : Dt → Prop) : Prop := match d, keyD k with
  | .dict kvs, some key => match kvGet kvs key with
    | some v => q v
    | Option.none => False
  | _, _ => False
def wDGet (wd wk : WE) : WE := wOp dgetD wd wk
/-- d.get(k), d.get(k, x) -/
def wDGet1 (wd wk : WE) : WE := fun ρ b q qx => wd ρ b (fun d b1 => match d with
  | .dict kvs => wk ρ b1 (fun k b2 => match keyD k with
    | some key => q ((kvGet kvs key).getD .none) b2
    | Option.none => False) qx
  | _ => False) qx
def wDGet2 (wd wk we : WE) : WE := fun ρ b q qx => wd ρ b (fun d b1 => match d with
  | .dict kvs => wk ρ b1 (fun k b2 => we ρ b2 (fun x b3 => match keyD k with
    | some key => q ((kvGet kvs key).getD x) b3
    | Option.none => False) qx) qx
  | _ => False) qx
inductive Bt | int | bool | str | list | tuple | dict
def isiD : Bt → Dt → Option Bool
  | _, .obj _ _ => Option.none
  | _, .err _ _ => Option.none
  | .int, .int _ => some true
  | .int, .bool _ => some true
  | .bool, .bool _ => some true
  | .str, .str _ => some true
  | .list, .list _ => some true
  | .tuple, .tuple _ => some true
  | .dict, .dict _ => some true
  | .dict, .dictT _ => some true
  | _, _ => some false
def tyN : Dt → String
  | .none => "NoneType"
  | .bool _ => "bool"
  | .int _ => "int"
  | .str _ => "str"
  | .list _ => "list"
  | .tuple _ => "tuple"
  | _ => "dict"
theorem pb_ty {v : V} {d : Dt} {T : Bt} {k : Bool} (p : Pb c F H v d) (z : Ex F H) (h : isiD T d = some k) : TyX c.K H v (.type (tyN d)) := by
  cases d <;> first | (cases T <;> cases h; done) | skip
  · rw [pb_non p z]; exact .base .non
  · rw [pb_bl p z]; exact .base (.bl _)
  · rw [pb_int p z]; exact .base (.int _)
  · rw [pb_str p z]; exact .base (.str _)
  · obtain ⟨a, xs, rfl, hx, _⟩ := pb_lst p z
    exact .base (.lst hx)
  · obtain ⟨a, xs, rfl, hx, _⟩ := pb_tup p z
    rcases hx.ex z with ⟨o, h, _⟩ | ⟨o, its, n, h, k, _⟩
    · exact .fTuple h
    · exact .kTuple h k
  · obtain ⟨a, xs, rfl, hx, _⟩ := pb_dct p z
    exact .base (.dK hx)
  · obtain ⟨a, xs, rfl, hx, _⟩ := pb_dcT p z
    exact .base (.dT hx)
def wIsi (T : Bt) (w : WE) : WE := fun ρ b q qx => w ρ b (fun d b1 => match isiD T d with
  | some k => q (.bool k) b1
  | Option.none => False) qx
def wIsi2 (T S : Bt) (w : WE) : WE := fun ρ b q qx => w ρ b (fun d b1 => match isiD T d, isiD S d with
  | some k, some j => q (.bool (k || j)) b1
  | _, _ => False) qx
def wM0 (g : Str → Bool) (w : WE) : WE := fun ρ b q qx => w ρ b (fun d b1 => match d with
  | .str x => q (.bool (g x)) b1
  | _ => False) qx
def lenO : Dt → Option Nat
  | .str x => some x.length
  | .list xs => some xs.length
  | .tuple xs => some xs.length
  | _ => Option.none
def lenD : List Dt → (Dt → Prop) → Prop
  | [d], q => match lenO d with
    | some n => n ≤ 100000 → q (.int (n : Nat))
    | Option.none => False
  | _, _ => False
theorem co_len : COk c (fun xs H Q => ∃ x n, xs = [x] ∧ LenV c.K x H n ∧ Q (.int n) H) lenD := fun xs ds F H z p q Q hq k => by
  unfold lenD at hq
  split at hq
  · rename_i d
    cases p with
    | cons p t =>
      cases t
      split at hq
      · rename_i n hn
        have hb : n ≤ 100000 := by
          cases d <;> first | (cases hn; done) | skip
          · cases hn
            exact pb_slen p z
          · cases hn
            obtain ⟨_, _, _, _, _, l⟩ := pb_lst p z
            exact l
          · cases hn
            obtain ⟨_, _, _, _, _, l⟩ := pb_tup p z
            exact l
        refine ⟨_, n, rfl, ?_, k _ _ F H (hq hb) (Grow.refl z) (.int _)⟩
        cases d <;> first | (cases hn; done) | skip
        · cases hn
          rw [pb_str p z]
          exact ⟨Evl.sz_of (pb_slen p z), rfl⟩
        · cases hn
          obtain ⟨a, vs, rfl, hx, r, _⟩ := pb_lst p z
          exact .inl ⟨_, SqL.of hx, (rza_len r).symm⟩
        · cases hn
          obtain ⟨a, vs, rfl, hx, r, _⟩ := pb_tup p z
          exact .inr ⟨_, (hx.ex z).sq, (rza_len r).symm⟩
      · exact hq.elim
  · exact hq.elim
def max2D : List Dt → (Dt → Prop) → Prop
  | [.int i, .int j], q => q (.int (if j > i then j else i))
  | _, _ => False
def min2D : List Dt → (Dt → Prop) → Prop
  | [.int i, .int j], q => q (.int (if j < i then j else i))
  | _, _ => False
theorem co_min2 : COk c (fun xs H Q => ∃ i j, xs = [.int i, .int j] ∧ Q (.int (if j < i then j else i)) H) min2D := fun xs ds F H z p q Q hq k => by
  unfold min2D at hq
  split at hq
  · cases p with
    | cons p t =>
      cases t with
      | cons p2 t =>
        cases t
        have e1 := pb_int p z
        have e2 := pb_int p2 z
        subst e1 e2
        exact ⟨_, _, rfl, k _ _ F H hq (Grow.refl z) (.int _)⟩
  · exact hq.elim
/-- tuple(xs) -/
def tupleD : List Dt → (Dt → Prop) → Prop
  | [.list ds], q => q (.tuple ds)
  | [.tuple ds], q => q (.tuple ds)
  | _, _ => False
/-- list(xs): one's own -/
def CNOk (c : Cd) (r : List V → Hp → VK → Prop) (f : List Dt → (Dt → Prop) → Prop) : Prop := ∀ xs ds F H, Ex F H → PbAll c F H xs ds → ∀ (q : Dt → Prop) (Q : VK), f ds q →
  (∀ p d F2 H2, q d → Grow F H F2 H2 → H p = Option.none → F2 p = Option.none → OwAt c F2 H2 p d → Q (.ref p) H2) → r xs H Q
theorem snn_cb {r : List V → Hp → VK → Prop} {f : List Dt → (Dt → Prop) → Prop} (hr : CNOk c r f) (ha : SndA c tas was) : SndN c (tCB r tas) (wCB f was) := fun F0 H0 ρ b F H σ W q qx Q h lx l =>
  ha F0 H0 ρ b F H σ W _ qx _ h lx fun xs ds b1 F1 H1 h1 g1 W1 p1 => hr xs ds F1 H1 W1.z p1 _ Q h1 fun p d F3 H3 hq g3 hp hf o =>
    have f1 := W1.far hp
    l p d b1 F3 H3 hq (g1.trans (FrRel.of g3)) (W1.grow g3) (g1.back (N0.of hp)) ⟨⟨hf, f1.own.n0, f1.own.ap⟩, f1.nw⟩ o
def listD : List Dt → (Dt → Prop) → Prop
  | [d], q => match itemsOf d with
    | some es => q (.list es)
    | Option.none => False
  | _, _ => False
end
end Dw
set_option Elab.async false
set_option linter.all false
set_option maxRecDepth 100000
set_option maxHeartbeats 4000000
namespace Dw
open PySem PySem.Spec PyProof.Rows L2 Cn LamX
/-- what a def does, over data -/
abbrev WF := List Dt → (Dt → Prop) → (Xv → Prop) → Prop
def startR (n : Nat) (ds : List Dt) : Rho := ds.map (fun d => some (.sh d)) ++ List.replicate (n - ds.length) none
/-- from its body -/
def bodyW (w : WS) (n : Nat) : WF := fun ds q qx => w { nx := fun _ _ => q .none, rt := fun d _ => q d, ex := fun x _ => qx x } (startR n ds) 0
/-- the promise of a def that knows nothing of draws -/
def spW (K : PySem.W.Frag) (mg : Str → Option Value) (n : Nat) (W : WF) : Sp := fun vs H Q E => ∃ (ds : List Dt) (F : Hp) (q : Dt → Prop) (qx : Xv → Prop), Ex F H ∧ RzAll K mg F vs ds ∧ ds.length = n ∧ W ds q qx ∧
  (∀ v d F2 H2, q d → Grow F H F2 H2 → Rz K mg F2 v d → Q v H2) ∧ ∀ x F2 H2 cls dd, qx x → Grow F H F2 H2 → XRel ⟨K, mg, Option.none, E⟩ H F2 H2 x cls dd → E cls dd H2
theorem spW_len {K : PySem.W.Frag} {mg : Str → Option Value} {n : Nat} {W : WF} : ∀ vs H Q E, spW K mg n W vs H Q E → vs.length = n := fun vs H Q E ⟨ds, F, q, qx, _, h, hn, _⟩ => by rw [rza_len h, hn]
theorem at_app : ∀ {l m : Rho} {i : Nat} {s : Sv}, at_ (l ++ m) i = some s → at_ l i = some s ∨ at_ m (i - l.length) = some s
  | [], m, i, s, h => .inr (by simpa using h)
  | x :: l, m, 0, s, h => .inl h
  | x :: l, m, i + 1, s, h => by
    rcases at_app (l := l) (m := m) (i := i) h with h | h
    · exact .inl h
    · exact .inr (by rw [List.length_cons, Nat.add_sub_add_right]; exact h)
theorem at_rep : ∀ {n i : Nat} {s : Sv}, at_ (List.replicate n none) i = some s → False
  | n + 1, 0, s, h => by cases h
  | n + 1, i + 1, s, h => at_rep (n := n) (i := i) h
theorem at_args {K : PySem.W.Frag} {mg : Str → Option Value} {F : Hp} : ∀ {vs : List V} {ds : List Dt} {i : Nat} {s : Sv}, RzAll K mg F vs ds → at_ (ds.map fun d => some (.sh d)) i = some s → ∃ v d, s = .sh d ∧ vs[i]? = some v ∧ Rz K mg F v d
  | _, _, 0, s, .cons r t, h => by cases h; exact ⟨_, _, rfl, rfl, r⟩
  | _, _, i + 1, s, .cons r t, h => by
    obtain ⟨v, d, e1, e2, e3⟩ := at_args (i := i) t h
    exact ⟨v, d, e1, by simpa using e2, e3⟩
  | _, _, _, _, .nil, h => by cases h
theorem wd_start {c : Cd} {F H : Hp} {b : Nat} {N : List Str} {vs : List V} {ds : List Dt} (ok : FrOk c.fr b F H) (r : RzAll c.K c.mg F vs ds) : Wd c F H (startR N.length ds) b F H (L2.start N vs) := by
  have l := rza_len r
  refine ⟨ok, FrRel.refl ok.z, ?_, fun i s h => ?_, fun i j d e _ h => ?_⟩
  · unfold L2.start startR
    rw [List.length_append, List.length_append, List.length_map, List.length_map, List.length_replicate, List.length_replicate, l]
  · rcases at_app h with h | h
    · obtain ⟨v, d, rfl, e, r⟩ := at_args r h
      refine ⟨v, ?_, r⟩
      unfold L2.start
      rw [List.getElem?_append_left (by rw [List.length_map]; exact (List.getElem?_eq_some_iff.mp e).1), List.getElem?_map, e]
      rfl
    · exact (at_rep h).elim
  · rcases at_app h with h | h
    · obtain ⟨v, d, e, _⟩ := at_args r h
      cases e
    · exact (at_rep h).elim
section
variable {P : Program} {w : World} {K : PySem.W.Frag} {mg : Str → Option Value} {base : Heap}
abbrev Kw (P : Program) (w : World) (K : PySem.W.Frag) (mg : Str → Option Value) (base : Heap) (k : Nat) (x : Str) (ps : List Str) (W : WF) : Prop := KpG P w K mg base (L2.CX P w) k x ps (spW K mg ps.length W)
/-- a def keeps the promise of its body's wp -/
theorem kw_of {k : Nat} {x : Str} {ps N : List Str} {st : Stmt} {ws : WS} (Fx : Fg K mg x st) (S : FnScope N ps (defScope st)) (hb : ∀ {f : Addr} {fd : FuncData} (_ : Fun K x x st f fd), Binds K fd ps [])
    (body : ∀ (f : Addr) (cdv : Value) (A : Around) (outer : List Env) (s : Shared) (H : Hp) (E : XK), (A.deeper (envOfC x (defScope st) s.heap.objs.size f cdv)).guards = some [] → Room k (A.deeper (envOfC x (defScope st) s.heap.objs.size f cdv)) →
      ∃ t, PSs (cxOf (L2.CX P w) P w K mg base N x (defScope st) f cdv A outer s H E) (defBody st) t ∧ SndS ⟨K, mg, Option.none, E⟩ t ws) : Kw P w K mg base (k + 1) x ps (bodyW ws N.length) := by
  refine kpG_of Fx S hb spW_len fun f cdv A outer s H vs Q E hg hr ⟨ds, F, q, qx, hF, r, hn, hw, lq, lx⟩ => ?_
  obtain ⟨t, h1, h2⟩ := body f cdv A outer s H E hg hr
  refine ⟨t, h1, h2 F H _ 0 F H _ (wd_start (c := ⟨K, mg, Option.none, E⟩) hF r) _ _ hw ⟨fun ρ b F2 H2 σ h e W => ?_, fun v d b F2 H2 h e ok g r => ?_, fun _ _ _ _ _ h => h.elim, fun _ _ _ _ _ h => h.elim, fun x b F2 H2 cls dd h e ok g xr => lx x F2 H2 cls dd h g xr, fun _ _ _ _ _ h => h.elim⟩⟩
  · exact lq .non .none F2 H2 h W.rel .non
  · exact lq v d F2 H2 h g r
end
section
variable {c : Cd} {ta tb te : TE} {tas : TA} {wa wb we : WE} {was : WA} {F H F2 H2 F0 H0 : Hp}
/-- f(a, ..), f without draws, whatever it raises -/
def wCall (W : WF) (ws : WA) : WE := fun ρ b q qx => ws ρ b (fun ds b1 => W ds (fun d => q d b1) fun x => qx x b1) qx
/-- .. one that raises nothing here -/
def wCall0 (W : WF) (ws : WA) : WE := fun ρ b q qx => ws ρ b (fun ds b1 => W ds (fun d => q d b1) fun _ => False) qx
theorem sn_call0 {n : Nat} {W : WF} (h : SndR c tas was n) : SndE c (tCall (spW c.K c.mg n W) [] (fun _ _ _ => False) tas) (wCall0 W was) := fun F0 H0 ρ b F H σ Wd0 q qx Q hw lx l => h F0 H0 ρ b F H σ Wd0 _ _ _ hw lx fun vs ds b1 F1 H1 h1 hn g1 W1 r =>
  ⟨ds, F1, _, _, W1.z, by rw [List.append_nil]; exact r, hn, h1, fun v d F2 H2 hq g2 r2 => l v d b1 F2 H2 hq (g1.trans (FrRel.of g2)) (W1.grow g2) r2, fun x F2 H2 cls dd hx => hx.elim⟩
end
section
variable {X : Cx} {k n : Nat} {x : Str} {ps : List Str} {W : WF} {p pos : Pos} {e : Expr} {es : List Expr} {t : TA}
theorem passF {X : Cx} : Passes (L2.CX X.prog X.w) X (fun _ _ _ => False) := fun _ _ _ _ _ _ _ h => by
  obtain ⟨a, B, H', cls, d, _, _, _, _, _, _, _, f⟩ := h
  exact f.elim
/-- .. that raises nothing -/
theorem pe_call0 {P : Program} {w : World} {K : PySem.W.Frag} {mg : Str → Option Value} {base : Heap} (h : KpG P w K mg base (L2.CX P w) k x ps (spW K mg ps.length W)) (hP : X.prog = P) (hw : X.w = w) (hK : X.K = K) (hm : X.mg = mg) (hb : X.base = base)
    (gd : X.A.guards = some []) (hr : Room k X.A) (hg : Gl X x) (ha : PA X (e :: es) t) (hdb : (x == ("__debug__" : Str)) = false := by decide)
    (he : starEach (e :: es) X.env = (false, eval e X.env) :: starEach es X.env := by rfl) (hpl : (backTo pos (starEach es X.env)).any (·.1) = false := by rfl) : PE X (.Call (.Name x p) (e :: es) [] pos) (tCall (spW K mg ps.length W) [] (fun _ _ _ => False) t) := by
  subst hP hw hK hm hb
  exact pe_kpG h passF gd hr hg ha hdb he hpl
end
section
variable {c : Cd} {te : TE} {we : WE}
/-- raise X('..') -/
def wRaiseP (x : Str) : WS := fun D _ b => D.ex ⟨x, []⟩ b
/-- raise X(e), the error keeps e in its field f -/
def wRaiseF (x f : Str) (w : WE) : WS := fun D ρ b => w ρ b (fun d b1 => D.ex ⟨x, [(f, d)]⟩ b1) D.ex
end
end Dw
set_option Elab.async false
set_option linter.all false
set_option maxRecDepth 100000
set_option maxHeartbeats 4000000
namespace Dw
open PySem PySem.Spec PyProof.Rows L2 Cn
section
variable {X : Cx} {K : PySem.W.Frag} {mg : Str → Option Value} {c : Cd}
theorem call_lenKK (hK : X.K = K) : CallR X (.builtin "len") (fun xs H Q => ∃ x n, xs = [x] ∧ LenV K x H n ∧ Q (.int n) H) := hK ▸ call_len
def encD (d : Dt) : PyData := d.pl.getD .none
def leS (d e : Dt) : Bool := PySem.W.dataLe false encD d e
def SortOk (ds : List Dt) : Prop := (∀ d ∈ ds, d.pl.isSome = true ∧ (encD d).depth ≤ 60) ∧ PySem.W.AllAlike (ds.map encD) ∧ PySem.W.Sortable (ds.map encD)
def sortedD : List Dt → (Dt → Prop) → Prop
  | [.list ds], q => SortOk ds ∧ q (.list (ds.mergeSort leS))
  | _, _ => False
def rSortG (K : PySem.W.Frag) (mg : Str → Option Value) : List V → Hp → VK → Prop := fun vs H Q => ∃ (a : Addr) (xs : List V) (ds : List Dt) (F : Hp), vs = [.ref a] ∧ H a = some (.lst xs) ∧ Ex F H ∧ RzAll K mg F xs ds ∧ ds.length ≤ 100000 ∧ SortOk ds ∧
  ∀ (ys : List V) (p : Addr), RzAll K mg F ys (ds.mergeSort leS) → H p = Option.none → Q (.ref p) (upd H p (.lst ys))
theorem each_of {F : Hp} {us : List Value} : ∀ {xs : List V} {ds : List Dt} {us : List Value}, RzAll K mg F xs ds → Vals xs us → PySem.W.EachIs (fun (u : Value) (d : Dt) => ∃ v, RelV v u ∧ Rz K mg F v d) us ds
  | _, _, _, .nil, .nil => .nil
  | _, _, _, .cons r t, .cons h k => .cons ⟨_, h, r⟩ (each_of (us := us) t k)
theorem of_each {F : Hp} : ∀ {ds : List Dt} {us : List Value}, PySem.W.EachIs (fun (u : Value) (d : Dt) => ∃ v, RelV v u ∧ Rz K mg F v d) us ds → ∃ ys, RzAll K mg F ys ds ∧ Vals ys us
  | _, _, .nil => ⟨[], .nil, .nil⟩
  | _, _, .cons ⟨v, h, r⟩ t => by
    obtain ⟨ys, a, b⟩ := of_each t
    exact ⟨v :: ys, .cons r a, .cons h b⟩
theorem each_imp {α β : Type} {R S : α → β → Prop} : ∀ {l : List α} {m : List β}, PySem.W.EachIs R l m → (∀ a b, b ∈ m → R a b → S a b) → PySem.W.EachIs S l m
  | _, _, .nil, _ => .nil
  | _, _, .cons h t, f => .cons (f _ _ List.mem_cons_self h) (each_imp t fun a b hb => f a b (List.mem_cons_of_mem _ hb))
theorem cr_sortedG (hK : X.K = K) (hm : X.mg = X.mg) (hu : X.A.units + 64 < cLine) : CallR X (.builtin "sorted") (rSortG K mg) := by
  subst hK
  intro pins s σ H vs us Q I r h
  obtain ⟨a, xs, ds, F, rfl, ha, z, rz, hl, ⟨h1, h2, h3⟩, q⟩ := h
  obtain ⟨its, rv, pl, _⟩ := I.list (SqL.of (K := X.K) ha)
  rw [Vals.ref1 r]
  have E := each_of (us := us) rz rv
  refine PySem.W.sorted_data (R := fun (u : Value) (d : Dt) => ∃ v, RelV v u ∧ Rz X.K mg F v d) (enc := encD) pl.isList E (each_imp E fun u d hd ⟨v, hv, r⟩ => ?_) h2 h3 (Evl.sz_of hl) (fun d hd => ?_) fun out ho eo => ?_
  · obtain ⟨e1, _⟩ := h1 d hd
    obtain ⟨e, he⟩ := Option.isSome_iff_exists.mp e1
    obtain ⟨r1, r2⟩ := rz_dz r he
    obtain ⟨as, rd⟩ := Dp.reads I e v u ((dp_ex z r1).dp (noDict_plain _ r2)) hv
    refine ⟨as, ?_⟩
    unfold encD
    rw [he]
    exact rd
  · have := (h1 d hd).2
    omega
  · obtain ⟨ys, r1, r2⟩ := of_each eo
    obtain ⟨ep, he'⟩ := PyProof.Rows.sortedAll_at s.heap its out.toArray
    have hlen : ys.length ≤ sizeLine := by
      rw [rza_len r1]
      exact Evl.sz_of (by rw [List.length_mergeSort]; exact hl)
    exact ⟨.ref _, upd H (s.heap.objs.size + 1) (.lst ys), I.laid (t' := s.toks) (fun _ _ => PyProof.Rows.sortedAll_old) (Nat.le_succ _) ⟨hlen, out, ep, r2, he'⟩, rfl, q ys _ r1 (I.hok.fresh (Nat.le_succ _))⟩
theorem cn_sorted : CNOk c (rSortG c.K c.mg) sortedD := fun xs ds F H z p q Q hq k => by
  unfold sortedD at hq
  split at hq
  · rename_i es
    cases p with
    | cons p t =>
      cases t
      obtain ⟨a, vs, rfl, hx, r, l1⟩ := pb_lst p z
      exact ⟨a, vs, es, F, rfl, hx, z, r, l1, hq.1, fun ys pp hr hp => k pp _ F _ hq.2 (Grow.tmp z hp) hp (Evl.fresh_back z hp) ⟨by rw [List.length_mergeSort]; exact l1, ys, upd_same, hr⟩⟩
  · exact hq.elim
def absI (i : Int) : Int := if i < 0 then -i else i
def absD : List Dt → (Dt → Prop) → Prop
  | [.int i], q => q (.int (absI i))
  | _, _ => False
def int1D : List Dt → (Dt → Prop) → Prop
  | [.int i], q => q (.int i)
  | [.bool k], q => q (.int (if k then 1 else 0))
  | _, _ => False
def negD : Op1
  | .int i, q => q (.int (-i))
  | _, _ => False
theorem uo_neg : UOk c (rU fun i => .int (-i)) negD := fun x d F H z p q Q hq k => by
  unfold negD at hq
  split at hq
  · have e := pb_int p z
    subst e
    exact ⟨_, rfl, k _ _ F H hq (Grow.refl z) (.int _)⟩
  · exact hq.elim
end
end Dw
set_option Elab.async false
set_option linter.all false
set_option maxRecDepth 100000
set_option maxHeartbeats 4000000
namespace Cn
open PySem PySem.W PySem.SeqAt PySem.Calls PyProof.Rows
section
variable {M : Model} {P : Program} {w : World} {A : Around} {E : Value → Shared → Prop} {s : Shared}
/-- can be sorted, empty tuples among them too -/
def SortableE (ds : List PyData) : Prop := Sortable ds ∨ ∀ d ∈ ds, ∃ xs, d = .tuple xs
end
end Cn
set_option Elab.async false
set_option linter.all false
set_option maxRecDepth 100000
set_option maxHeartbeats 4000000
namespace Dw
open PySem PySem.Spec PyProof.Rows L2 Cn LamX
/-- what a def does that takes the state of the draws first -/
abbrev WFS := List Dt → Nat → QD → QX → Prop
def startRS (n : Nat) (ds : List Dt) : Rho := some .st :: (ds.map (fun d => some (.sh d)) ++ List.replicate (n - (ds.length + 1)) none)
def bodyWS (w : WS) (n : Nat) : WFS := fun ds b q qx => w { nx := fun _ b1 => q .none b1, rt := q, ex := qx } (startRS n ds) b
/-- the frame has these tables -/
def FrT (T : List (Addr × Str)) (fr : Tri) : Prop := ∃ st lg cl, fr = some (st, lg, cl) ∧ lg.2 = T
def spWS (K : PySem.W.Frag) (mg : Str → Option Value) (T : List (Addr × Str)) (n : Nat) (W : WFS) : Sp := fun vs H Q E => ∃ (st : Addr) (lg : Lg) (cl : Addr) (b : Nat) (vs' : List V) (ds : List Dt) (F : Hp) (q : QD) (qx : QX), lg.2 = T ∧ vs = .ref st :: vs' ∧ Off st lg cl b F H ∧ RzAll K mg F vs' ds ∧ ds.length = n ∧ W ds b q qx ∧
  (∀ v d b2 F2 H2, q d b2 → GM st lg F H F2 H2 → Off st lg cl b2 F2 H2 → Rz K mg F2 v d → Q v H2) ∧
  ∀ x b2 F2 H2 cls dd, qx x b2 → GM st lg F H F2 H2 → Off st lg cl b2 F2 H2 → XRel ⟨K, mg, some (st, lg, cl), E⟩ H F2 H2 x cls dd → E cls dd H2
theorem spWS_len {K : PySem.W.Frag} {mg : Str → Option Value} {T : List (Addr × Str)} {n : Nat} {W : WFS} : ∀ vs H Q E, spWS K mg T n W vs H Q E → vs.length = n + 1 := fun vs H Q E ⟨st, lg, cl, b, vs', ds, F, q, qx, _, e, _, h, hn, _⟩ => by rw [e, List.length_cons, rza_len h, hn]
theorem wd_startS {c : Cd} {F H : Hp} {b : Nat} {N : List Str} {st cl : Addr} {lg : Lg} {vs : List V} {ds : List Dt} (hc : c.fr = some (st, lg, cl)) (ok : Off st lg cl b F H) (r : RzAll c.K c.mg F vs ds) : Wd c F H (startRS N.length ds) b F H (L2.start N (.ref st :: vs)) := by
  have l := rza_len r
  have ok' : FrOk c.fr b F H := by rw [hc]; exact ok
  refine ⟨ok', FrRel.refl ok.z, ?_, fun i s h => ?_, fun i j d e _ h => ?_⟩
  · unfold L2.start startRS
    simp only [List.length_append, List.length_cons, List.length_map, List.length_replicate, l]
    omega
  · cases i with
    | zero =>
      cases h
      exact ⟨st, lg, cl, hc, rfl⟩
    | succ i =>
      have h : at_ (ds.map (fun d => some (.sh d)) ++ List.replicate (N.length - (ds.length + 1)) none) i = some s := h
      rcases at_app h with h | h
      · obtain ⟨v, d, rfl, e, r⟩ := at_args r h
        refine ⟨v, ?_, r⟩
        unfold L2.start
        rw [List.getElem?_append_left (by rw [List.length_map, List.length_cons]; have := (List.getElem?_eq_some_iff.mp e).1; omega), List.getElem?_map, List.getElem?_cons_succ, e]
        rfl
      · exact (at_rep h).elim
  · cases i with
    | zero => cases h
    | succ i =>
      have h : at_ (ds.map (fun d => some (.sh d)) ++ List.replicate (N.length - (ds.length + 1)) none) i = some (.ow d) := h
      rcases at_app h with h | h
      · obtain ⟨v, d, e, _⟩ := at_args r h
        cases e
      · exact (at_rep h).elim
section
variable {P : Program} {w : World} {K : PySem.W.Frag} {mg : Str → Option Value} {base : Heap} {T : List (Addr × Str)}
/-- ps: the parameters behind the state -/
abbrev Kws (P : Program) (w : World) (K : PySem.W.Frag) (mg : Str → Option Value) (base : Heap) (T : List (Addr × Str)) (k : Nat) (x : Str) (s : Str) (ps : List Str) (W : WFS) : Prop := KpG P w K mg base (L2.CX P w) k x (s :: ps) (spWS K mg T ps.length W)
theorem kws_of {k : Nat} {x s0 : Str} {ps N : List Str} {st : Stmt} {ws : WS} (Fx : Fg K mg x st) (S : FnScope N (s0 :: ps) (defScope st)) (hb : ∀ {f : Addr} {fd : FuncData} (_ : Fun K x x st f fd), Binds K fd (s0 :: ps) [])
    (body : ∀ (f : Addr) (cdv : Value) (A : Around) (outer : List Env) (s : Shared) (H : Hp) (E : XK), (A.deeper (envOfC x (defScope st) s.heap.objs.size f cdv)).guards = some [] → Room k (A.deeper (envOfC x (defScope st) s.heap.objs.size f cdv)) →
      ∃ t, PSs (cxOf (L2.CX P w) P w K mg base N x (defScope st) f cdv A outer s H E) (defBody st) t ∧ ∀ fr, FrT T fr → SndS ⟨K, mg, fr, E⟩ t ws) : Kws P w K mg base T (k + 1) x s0 ps (bodyWS ws N.length) := by
  refine kpG_of Fx S hb (fun vs H Q E h => by rw [spWS_len vs H Q E h]; rfl) fun f cdv A outer s H vs Q E hg hr ⟨sa, lg, cl, b, vs', ds, F, q, qx, hT, e, ok, r, hn, hw, lq, lx⟩ => ?_
  subst e
  obtain ⟨t, h1, h2⟩ := body f cdv A outer s H E hg hr
  refine ⟨t, h1, h2 (some (sa, lg, cl)) ⟨sa, lg, cl, rfl, hT⟩ F H _ b F H _ (wd_startS (c := ⟨K, mg, some (sa, lg, cl), E⟩) rfl ok r) _ _ hw ⟨fun ρ b F2 H2 σ h e W => ?_, fun v d b F2 H2 h e ok g r => ?_, fun _ _ _ _ _ h => h.elim, fun _ _ _ _ _ h => h.elim, fun x b F2 H2 cls dd h e ok g xr => lx x b F2 H2 cls dd h g ok xr, fun _ _ _ _ _ h => h.elim⟩⟩
  · exact lq .non .none b F2 H2 h W.rel W.ok .non
  · exact lq v d b F2 H2 h g ok r
end
section
variable {c : Cd} {ta tb te : TE} {tas : TA} {wa wb we : WE} {was : WA} {F H F2 H2 F0 H0 : Hp}
/-- f(state, ..) -/
def wCallS (i : Nat) (W : WFS) (ws : WA) : WE := fun ρ b q qx => match at_ ρ i with
  | some .st => ws ρ b (fun ds b1 => W ds b1 q qx) qx
  | _ => False
/-- .. that raises nothing here -/
def wCallS0 (i : Nat) (W : WFS) (ws : WA) : WE := fun ρ b q qx => match at_ ρ i with
  | some .st => ws ρ b (fun ds b1 => W ds b1 q fun _ _ => False) qx
  | _ => False
theorem sn_callS0 {i n : Nat} {W : WFS} {T : List (Addr × Str)} (hT : FrT T c.fr) (h : SndR c tas was n) : SndE c (tCall (spWS c.K c.mg T n W) [] (fun _ _ _ => False) (tCons (tVar i) tas)) (wCallS0 i W was) := fun F0 H0 ρ b F H σ Wd0 q qx Q hw lx l => by
  unfold wCallS0 at hw
  split at hw
  · rename_i hi
    obtain ⟨st, lg, cl, hc, hs⟩ := Wd0.sl i _ hi
    have hT2 : lg.2 = T := by
      obtain ⟨_, _, _, e1, e2⟩ := hT
      rw [hc] at e1
      cases e1
      exact e2
    refine ⟨_, hs, h F0 H0 ρ b F H σ Wd0 _ _ _ hw lx fun vs ds b1 F1 H1 h1 hn g1 W1 r => ?_⟩
    have ok1 : Off st lg cl b1 F1 H1 := by
      have := W1.ok
      rw [hc] at this
      exact this
    have up : ∀ {F2 H2 : Hp}, GM st lg F1 H1 F2 H2 → FrRel c.fr F1 H1 F2 H2 := fun g => by rw [hc]; exact g
    have upo : ∀ {b2 : Nat} {F2 H2 : Hp}, Off st lg cl b2 F2 H2 → FrOk c.fr b2 F2 H2 := fun g => by rw [hc]; exact g
    exact ⟨st, lg, cl, b1, vs, ds, F1, q, _, hT2, by rw [List.append_nil], ok1, r, hn, h1, fun v d b2 F2 H2 hq g2 ok2 r2 => l v d b2 F2 H2 hq (g1.trans (up g2)) (W1.step (up g2) (upo ok2)) r2, fun x b2 F2 H2 cls dd hx => hx.elim⟩
  · exact hw.elim
def spDraw2 : Sp := fun vs H Q _ => ∃ st lg cl b n, vs = [.ref st, .int n] ∧ 0 < n ∧ n < 1000000000 ∧ StOk st lg cl (b + 1) H ∧ ∀ r H', 0 ≤ r → r < n → StOk st lg cl b H' → Fr st lg H H' → Q (.int r) H'
def wDraw (i : Nat) (w : WE) : WE := fun ρ b q qx => match at_ ρ i with
  | some .st => w ρ b (fun d b1 => match d, b1 with
    | .int n, b2 + 1 => 0 < n ∧ n < 1000000000 ∧ ∀ r, 0 ≤ r → r < n → q (.int r) b2
    | _, _ => False) qx
  | _ => False
theorem sn_draw {i : Nat} {X : XK} (h : SndE c te we) : SndE c (tCall spDraw2 [] X (tCons (tVar i) (tCons te tNil))) (wDraw i we) := fun F0 H0 ρ b F H σ Wd0 q qx Q hw lx l => by
  unfold wDraw at hw
  split at hw
  · rename_i hi
    obtain ⟨st, lg, cl, hc, hs⟩ := Wd0.sl i _ hi
    refine ⟨_, hs, h F0 H0 ρ b F H σ Wd0 _ _ _ hw lx fun v d b1 F1 H1 h1 g1 W1 r => ?_⟩
    have ok1 : Off st lg cl b1 F1 H1 := by
      have := W1.ok
      rw [hc] at this
      exact this
    have up : ∀ {F2 H2 : Hp}, GM st lg F1 H1 F2 H2 → FrRel c.fr F1 H1 F2 H2 := fun g => by rw [hc]; exact g
    have upo : ∀ {b2 : Nat} {F2 H2 : Hp}, Off st lg cl b2 F2 H2 → FrOk c.fr b2 F2 H2 := fun g => by rw [hc]; exact g
    split at h1
    · rename_i n b2
      cases r
      refine ⟨st, lg.1, cl, b2, n, rfl, h1.1, h1.2.1, ok1.ok, fun r H' r0 r1 ok fr => ?_⟩
      have g2 := GM.draw ok1 fr ok
      have ok2 := ok1.draw fr ok
      exact l _ _ b2 F1 H' (h1.2.2 r r0 r1) (g1.trans (up g2)) (W1.step (up g2) (upo ok2)) (.int r)
    · exact h1.elim
  · exact hw.elim
end
section
variable {X : Cx} {k : Nat} {x s0 : Str} {ps : List Str} {W : WFS} {T : List (Addr × Str)} {p pos : Pos} {e : Expr} {es : List Expr} {t : TA}
theorem pe_callS0 {P : Program} {w : World} {K : PySem.W.Frag} {mg : Str → Option Value} {base : Heap} (h : KpG P w K mg base (L2.CX P w) k x (s0 :: ps) (spWS K mg T ps.length W)) (hP : X.prog = P) (hw : X.w = w) (hK : X.K = K) (hm : X.mg = mg) (hb : X.base = base)
    (gd : X.A.guards = some []) (hr : Room k X.A) (hg : Gl X x) (ha : PA X (e :: es) t) (hdb : (x == ("__debug__" : Str)) = false := by decide)
    (he : starEach (e :: es) X.env = (false, eval e X.env) :: starEach es X.env := by rfl) (hpl : (backTo pos (starEach es X.env)).any (·.1) = false := by rfl) : PE X (.Call (.Name x p) (e :: es) [] pos) (tCall (spWS K mg T ps.length W) [] (fun _ _ _ => False) t) := by
  subst hP hw hK hm hb
  exact pe_kpG h passF gd hr hg ha hdb he hpl
/-- a def without errors (the draw itself) -/
theorem pe_call00 {P : Program} {w : World} {K : PySem.W.Frag} {mg : Str → Option Value} {base : Heap} {sp : Sp} {qs : List Str} (h : Kp P w K mg base k x qs sp) (hP : X.prog = P) (hw : X.w = w) (hK : X.K = K) (hm : X.mg = mg) (hb : X.base = base)
    (hr : Room k X.A) (hg : Gl X x) (ha : PA X (e :: es) t) (hdb : (x == ("__debug__" : Str)) = false := by decide)
    (he : starEach (e :: es) X.env = (false, eval e X.env) :: starEach es X.env := by rfl) (hpl : (backTo pos (starEach es X.env)).any (·.1) = false := by rfl) : PE X (.Call (.Name x p) (e :: es) [] pos) (tCall sp [] E0 t) := by
  subst hP hw hK hm hb
  exact pe_kp h hr hg ha hdb he hpl
end
end Dw
namespace Dw
open PySem PySem.Spec PyProof.Rows L2 Cn LamX
section
variable {c : Cd}
/-- len(script) -/
def wLenSc (i : Nat) : WE := fun ρ b q _ => match at_ ρ i with
  | some (.sc n) => q (.int (n : Nat)) b
  | _ => False
theorem sn_lenSc {i : Nat} : SndE c (tCB (fun xs H Q => ∃ x n, xs = [x] ∧ LenV c.K x H n ∧ Q (.int n) H) (tCons (tVar i) tNil)) (wLenSc i) := fun F0 H0 ρ b F H σ W q qx Q hw lx l => by
  unfold wLenSc at hw
  split at hw
  · rename_i n hi
    obtain ⟨a, xs, e1, e2, e3⟩ := W.sl i _ hi
    subst e3
    exact ⟨_, e1, _, xs.length, rfl, .inl ⟨xs, Evl.ex_l W.z e2, rfl⟩, l _ _ b F H hw (FrRel.refl W.z) W (.int _)⟩
  · exact hw.elim
/-- a, b, .. = a list of that length -/
def wgLst (n : Nat) (gs : WGs) : WG := fun d ρ k => match d with
  | .list ds => match ds.length == n with
    | true => gs ds ρ k
    | false => False
  | _ => False
end
end Dw
set_option Elab.async false
set_option linter.all false
set_option maxRecDepth 100000
set_option maxHeartbeats 4000000
namespace Dw
open PySem PySem.Spec PyProof.Rows L2 Cn LamX
def spBegun2 (K : PySem.W.Frag) : Sp := fun vs H Q _ => ∃ (a : Addr) (ns : List Int), vs = [.ref a] ∧ SqL K H a (ns.map V.int) ∧ ns.length ≤ 63 ∧ ∀ st lg cl H', Ex H H' → H st = none → H lg = none → H cl = none → StOk st lg cl 900000000 H' → Q (.ref st) H'
/-- the law's body behind the making of the state -/
theorem law_in {K : PySem.W.Frag} {mg : Str → Option Value} {X : XK} {t : TS} {w : WS} {k : Nat} {H : Hp} {a : Addr} {ns : List Int} {T : List (Addr × Str)} (hTab : Tabs T H) (hS : SqL K H a (ns.map V.int)) (hY : SysF H) (hl : ns.length ≤ 63) (h : ∀ fr, FrT T fr → SndS ⟨K, mg, fr, fun _ _ _ => False⟩ t w)
    (hD : w { nx := fun _ _ => False, rt := fun d _ => d = .bool true, ex := fun _ _ => False } (some (.sc ns.length) :: some .st :: List.replicate k none) 900000000) :
    tSeq (tAsg (tCall (spBegun2 K) [] X (tCons (tVar 0) tNil)) (gName 1)) t { nx := fun _ H' => V.non = V.bl true, rt := fun v _ => v = .bl true } (some (.ref a) :: none :: List.replicate k none) H := by
  refine ⟨_, rfl, a, ns, rfl, hS, hl, fun st lg cl H1 e1 n1 n2 n3 ok1 => ?_⟩
  obtain ⟨F, hF, hFs, hFl, hFa, hFt, hFn, hFy⟩ : ∃ F : Hp, Ex F H1 ∧ F st = none ∧ F lg = none ∧ SqL K F a (ns.map V.int) ∧ (∀ p ∈ T, F p.1 = none) ∧ (∀ b ps, F b ≠ some (.tbl ps)) ∧ SysF F := by
    have f1 : ∀ b o, (match H b with | some (.tbl _) => none | x => x) = some o → H b = some o := fun b o e => by
      split at e
      · cases e
      · exact e
    refine ⟨fun b => match H b with | some (.tbl _) => none | x => x, fun b o hb => e1 _ _ (f1 b o hb), ?_, ?_, ?_, fun p hp => ?_, fun b ps e => ?_, ?_⟩
    · show (match H st with | some (.tbl _) => none | x => x) = _
      rw [n1]
    · show (match H lg with | some (.tbl _) => none | x => x) = _
      rw [n2]
    · rcases hS with (h1 | ⟨o, h1⟩) | h1
      · exact .inl (.inl (by show (match H a with | some (.tbl _) => none | x => x) = _; rw [h1]))
      · exact .inl (.inr ⟨o, by show (match H a with | some (.tbl _) => none | x => x) = _; rw [h1]⟩)
      · exact .inr h1
    · obtain ⟨ps, h1, _⟩ := hTab p hp
      show (match H p.1 with | some (.tbl _) => none | x => x) = _
      rw [h1]
    · have e : (match H b with | some (.tbl _) => none | x => x) = some (.tbl ps) := e
      split at e
      · cases e
      · rename_i h
        exact h ps e
    · obtain ⟨oy, hy⟩ := hY
      exact ⟨oy, by show (match H sysModules with | some (.tbl _) => none | x => x) = _; rw [hy]⟩
  have ok : Off st (lg, T) cl 900000000 F H1 := ⟨hF, hFs, hFl, ok1, hTab.ext e1, hFt, hFn, hFy⟩
  refine h (some (st, (lg, T), cl)) ⟨st, (lg, T), cl, rfl, rfl⟩ F H1 (some (.sc ns.length) :: some .st :: List.replicate k none) 900000000 F H1 _ ⟨ok, FrRel.refl hF, ?_, fun i s hs => ?_, fun i j d e _ hs => ?_⟩ _ _ hD ⟨fun _ _ _ _ _ h => h.elim, fun v d b F2 H2 h e ok g r => ?_, fun _ _ _ _ _ h => h.elim, fun _ _ _ _ _ h => h.elim, fun _ _ _ _ _ _ h => h.elim, fun _ _ _ _ _ h => h.elim⟩
  · simp
  · match i, hs with
    | 0, hs => cases hs; exact ⟨a, _, rfl, hFa, List.length_map _⟩
    | 1, hs => cases hs; exact ⟨st, (lg, T), cl, rfl, rfl⟩
    | i + 2, hs => exact (at_rep (n := k) (i := i) hs).elim
  · match i, hs with
    | 0, hs => cases hs
    | 1, hs => cases hs
    | i + 2, hs => exact (at_rep (n := k) (i := i) hs).elim
  · subst h
    cases r
    rfl
def itemsI : List (Key × Dt) → Option (List (Str × Int))
  | [] => some []
  | (.inr x, .int i) :: r => (itemsI r).map ((x, i) :: ·)
  | _ => Option.none
def prT (p : Str × Int) : Dt := .tuple [.str p.1, .int p.2]
def leP : Str × Int → Str × Int → Bool := PySem.W.dataLe false prD
def strK : List (Key × Dt) → Option (List (Str × Dt))
  | [] => some []
  | (.inr x, d) :: r => (strK r).map ((x, d) :: ·)
  | (.inl _, _) :: _ => Option.none
def leTD (p q : Str × Dt) : Bool := !PySem.W.dataLt (.str q.1) (.str p.1)
def rowT (p : Str × Dt) : Dt := .tuple [.str p.1, p.2]
def sortItD (d : Dt) (q : Dt → Prop) : Prop := match d with
  | .dict kvs => (match itemsI kvs with
    | some ks => (ks.length ≤ 1000 ∧ ∀ p ∈ ks, p.1.length ≤ 100000) ∧ q (.list ((ks.mergeSort leP).map prT))
    | Option.none => (match strK kvs with
      | some rs => (rs.length ≤ 1000 ∧ ∀ p ∈ rs, p.1.length ≤ 100000) ∧ ((rs.map (·.1)).Nodup → q (.list ((rs.mergeSort leTD).map rowT)))
      | Option.none => False))
  | _ => False
def wSortIt (w : WE) : WE := fun ρ b q qx => w ρ b (fun d b1 => sortItD d fun z => q z b1) qx
end Dw
set_option Elab.async false
set_option linter.all false
set_option maxRecDepth 100000
set_option maxHeartbeats 4000000
namespace Dw
open PySem PySem.Spec PyProof.Rows L2 Cn LamX
theorem mergeK_nd : ∀ (more acc : List (Key × V)), ((acc ++ more).map (·.1)).Nodup → mergeK acc more = acc ++ more
  | [], acc, _ => (List.append_nil _).symm
  | p :: more, acc, h => by
    have hn : valV acc p.1 = none := by
      cases e : valV acc p.1 with
      | none => rfl
      | some v =>
        have hm : p.1 ∈ acc.map (·.1) := valV_in e
        rw [List.map_append, List.map_cons] at h
        exact absurd (List.mem_cons_self) ((List.nodup_append.mp h).2.2 _ hm _ · rfl)
    show mergeK (putK acc p.1 p.2) more = _
    rw [putK_new _ hn, mergeK_nd more _ (by rw [List.append_assoc]; exact h), List.append_assoc]
    rfl
section
variable {c : Cd} {ta tb te : TE} {tt tu : TT} {tas tbs : TA} {wa wb we : WE} {wt wu : WT} {was : WA} {F H F2 H2 F0 H0 : Hp}
abbrev WO := Rho → Nat → (Option Int → Nat → Prop) → QX → Prop
def wNoPart : WO := fun _ b q _ => q none b
def wPart (w : WE) : WO := fun ρ b q qx => w ρ b (fun d b1 => match d with
  | .int i => q (some i) b1
  | _ => False) qx
abbrev SlOp := Dt → Option Int → Option Int → (Dt → Prop) → Prop
def wSl (f : SlOp) (we : WE) (wl wh : WO) : WE := fun ρ b q qx => we ρ b (fun d b1 => wl ρ b1 (fun l b2 => wh ρ b2 (fun u b3 => f d l u fun z => q z b3) qx) qx) qx
def cutD (xs : List Dt) (lo hi : Option Int) : List Dt := (xs.drop (HT.sIx xs.length 0 lo)).take (HT.sIx xs.length xs.length hi - HT.sIx xs.length 0 lo)
def slA : SlOp := fun d lo hi q => match d with
  | .str z => q (.str (cutS z lo hi))
  | .list ds => q (.list (cutD ds lo hi))
  | .tuple ds => q (.tuple (cutD ds lo hi))
  | _ => False
def strsO : List Dt → Option (List Str)
  | [] => some []
  | .str x :: ds => (strsO ds).map (x :: ·)
  | _ => Option.none
def wJoin (wo we : WE) : WE := fun ρ b q qx => wo ρ b (fun x b1 => match x with
  | .str a => we ρ b1 (fun d b2 => match itemsOf d with
    | some ds => (match strsO ds with
      | some ys => ((ys.map (·.length)).sum + ys.length * a.length ≤ 100000 ∧ (PySem.Txt.join a ys).length ≤ 100000) ∧ q (.str (PySem.Txt.join a ys)) b2
      | Option.none => False)
    | Option.none => False) qx
  | _ => False) qx
end
/-- the n-th statement of a class -/
def subS (s : Stmt) (n : Nat) : Stmt := match s with
  | .ClassDef _ _ _ b _ _ _ _ _ _ _ => b.getD n (.Pass ⟨0, 0, 0, 0⟩)
  | _ => .Pass ⟨0, 0, 0, 0⟩
theorem fr_of {ns : List (Str × NameKind)} (h : (ns.all fun p => (!decide (p.2 = .cell) && !decide (p.2 = .free)) || decide (p.1 = "__class__")) = true) : ∀ z, ns.lookup z = some .cell ∨ ns.lookup z = some .free → z = "__class__" := by
  intro z hz
  have key : ∀ {k : NameKind}, ns.lookup z = some k → (z, k) ∈ ns := by
    intro k
    clear h hz
    induction ns with
    | nil => intro h; cases h
    | cons p ns ih =>
      intro h
      obtain ⟨x, y⟩ := p
      rw [List.lookup_cons] at h
      split at h
      · rename_i e
        have e1 := beq_iff_eq.mp e
        have e2 := Option.some.inj h
        rw [e1, e2]
        exact List.mem_cons_self
      · exact List.mem_cons_of_mem _ (ih h)
  rcases hz with hz | hz
  · have := List.all_eq_true.mp h _ (key hz)
    simpa using this
  · have := List.all_eq_true.mp h _ (key hz)
    simpa using this
end Dw
set_option Elab.async false
set_option linter.all false
set_option maxRecDepth 100000
set_option maxHeartbeats 4000000
namespace Dw
open PySem PySem.Spec PyProof.Rows L2 Cn LamX
section
variable {c : Cd} {ta tb te : TE} {tas tbs : TA} {wa wb we : WE} {F H F2 H2 F0 H0 H1 : Hp} {ρ : Rho} {b : Nat} {σ : L2.St} {a : Addr}
abbrev WM := Rho → Nat → (List Sv → Nat → Prop) → QX → Prop
def wMNil : WM := fun _ b q _ => q [] b
def wMSh (w : WE) (ws : WM) : WM := fun ρ b q qx => w ρ b (fun d b1 => ws ρ b1 (fun ss b2 => q (.sh d :: ss) b2) qx) qx
def wMOw (w : WE) (ws : WM) : WM := fun ρ b q qx => w ρ b (fun d b1 => ws ρ b1 (fun ss b2 => q (.ow d :: ss) b2) qx) qx
def puts : Rho → List Nat → List Sv → Rho
  | ρ, i :: is, s :: ss => puts (put ρ i (some s)) is ss
  | ρ, _, _ => ρ
/-- x, y = .. -/
def wParM (is : List Nat) (ws : WM) : WS := fun D ρ b => ws ρ b (fun ss b1 => is.length = ss.length ∧ D.nx (puts ρ is ss) b1) D.ex
end
end Dw
set_option Elab.async false
set_option linter.all false
set_option maxRecDepth 100000
set_option maxHeartbeats 4000000
namespace Dw
open PySem PySem.Spec PyProof.Rows L2 Cn LamX
def keyP : Key → PyData
  | .inl i => .int i
  | .inr s => .str s
mutual
def Dt.pd2 : Dt → Option PyData
  | .none => some .none
  | .bool b => some (.bool b)
  | .int i => some (.int i)
  | .str s => some (.str s)
  | .list xs => (pd2All xs).map .list
  | .tuple xs => (pd2All xs).map .tuple
  | .dict kvs => (pd2KV kvs).map .dict
  | .dictT _ => Option.none
  | .obj _ _ => Option.none
  | .err _ _ => Option.none
def pd2All : List Dt → Option (List PyData)
  | [] => some []
  | x :: xs => match Dt.pd2 x, pd2All xs with
    | some y, some ys => some (y :: ys)
    | _, _ => Option.none
def pd2KV : List (Key × Dt) → Option (List (PyData × PyData))
  | [] => some []
  | (k, x) :: xs => match Dt.pd2 x, pd2KV xs with
    | some y, some ys => some ((keyP k, y) :: ys)
    | _, _ => Option.none
end
mutual
/-- no list within -/
def Dt.nl : Dt → Bool
  | .list _ => false
  | .tuple xs => nlAll xs
  | .dict kvs => nlKV kvs
  | _ => true
def nlAll : List Dt → Bool
  | [] => true
  | x :: xs => Dt.nl x && nlAll xs
def nlKV : List (Key × Dt) → Bool
  | [] => true
  | (_, x) :: xs => Dt.nl x && nlKV xs
end
/-- no list stands at that place -/
def NoSysL (H : Hp) : Prop := ∀ a xs, H a = some (.lst xs) → sysModules ≠ a
section
variable {X : Cx} {pins : List (Addr × Obj)} {σ : L2.St} {H : Hp} {s : Shared} {mg : Str → Option Value}
theorem keys_read {P : Program} {w : World} {h : Heap} : ∀ {es : List DictEntry} {kvs : List (Key × Value)}, Pairs (mixKind P w) es kvs → ReadsAll h (es.map (·.key)) (kvs.map fun p => keyP p.1) [] ∧ es.map (·.val) = kvs.map (·.2)
  | _, _, .nil => ⟨ReadsAll.nil, rfl⟩
  | _, _, .cons (e := e) (kv := kv) (es := es) (kvs := kvs) h1 h2 t => by
    obtain ⟨a, b⟩ := keys_read (h := h) t
    refine ⟨?_, by rw [List.map_cons, List.map_cons, h2, b]⟩
    have r : Reads h e.key (keyP kv.1) [] := by
      rcases keyIs_shape (show keyIs kv.1 e.key = true from h1) with ⟨i, t, e1, e2⟩ | ⟨x, t, e1, e2⟩
      · rw [e1, e2]
        exact Reads.int i t
      · rw [e1, e2]
        exact Reads.str x t
    exact ReadsAll.cons r a
mutual
theorem rz_reads (I : Inv X pins σ H s) : ∀ (d : Dt) (v : V) (u : Value) (e : PyData), Rz X.K mg H v d → d.pd2 = some e → RelV v u → ∃ as, Reads s.heap u e as ∧ (d.nl = true ∨ NoSysL H → sysModules ∉ as)
  | .none, _, _, _, h, q, r => by
    cases h; cases r; cases q
    exact ⟨_, Reads.none, fun _ => List.not_mem_nil⟩
  | .bool b, _, _, _, h, q, r => by
    cases h; cases r; cases q
    exact ⟨_, Reads.bool b, fun _ => List.not_mem_nil⟩
  | .int i, _, _, _, h, q, r => by
    cases h; cases q
    obtain ⟨t, rfl⟩ := r
    exact ⟨_, Reads.int i t, fun _ => List.not_mem_nil⟩
  | .str x, _, _, _, h, q, r => by
    cases h; cases q
    obtain ⟨t, rfl⟩ := r
    exact ⟨_, Reads.str x t, fun _ => List.not_mem_nil⟩
  | .list ds, _, _, _, h, q, r => by
    cases h with
    | lst l hs ha =>
      cases r
      unfold Dt.pd2 at q
      obtain ⟨es, q1, rfl⟩ := Option.map_eq_some_iff.mp q
      obtain ⟨its, rv, ⟨o, n, ho, hc, _, hd⟩, _⟩ := I.list (SqL.of hs)
      obtain ⟨as, hr, hn⟩ := rza_reads I ds _ its es ha q1 rv
      exact ⟨_, Reads.list ho hc hd hr, fun hl hm => by
        rcases hl with hl | hl
        · simp [Dt.nl] at hl
        · rcases List.mem_cons.mp hm with z | z
          · exact hl _ _ hs z
          · exact hn (.inr hl) z⟩
  | .tuple ds, _, _, _, h, q, r => by
    cases h with
    | tup l hs ha =>
      cases r
      unfold Dt.pd2 at q
      obtain ⟨es, q1, rfl⟩ := Option.map_eq_some_iff.mp q
      obtain ⟨its, rv, ⟨o, ho, hc, n, hd⟩, _⟩ := I.tuple hs.sq
      obtain ⟨as, hr, hn⟩ := rza_reads I ds _ its es ha q1 rv
      exact ⟨_, Reads.tuple ho hc hd hr, fun hl => hn (hl.imp (fun z => by simpa [Dt.nl] using z) fun z => z)⟩
  | .dict ds, _, _, _, h, q, r => by
    cases h with
    | dct l hs ha =>
      cases r
      unfold Dt.pd2 at q
      obtain ⟨es, q1, rfl⟩ := Option.map_eq_some_iff.mp q
      obtain ⟨_, hsm, vs, rv, o, des, ep, ho, hc, hd, _, hp, _⟩ := dk_of I.hok hs
      obtain ⟨k1, k2⟩ := keys_read (h := s.heap) hp
      obtain ⟨bs, hr, hn, hk⟩ := rzk_reads I ds _ vs es ha q1 rv
      refine ⟨_, Reads.dict (as := []) (bs := bs) ho hc.1 hd (by
        rw [hk]
        exact k1) (by rw [k2]; exact hr), fun hl hm => ?_⟩
      rcases List.mem_cons.mp hm with z | z
      · rw [z, beq_self_eq_true] at hsm
        cases hsm
      · exact hn (hl.imp (fun z => by simpa [Dt.nl] using z) fun z => z) z
  | .dictT _, _, _, _, _, q, _ => by cases q
  | .obj _ _, _, _, _, _, q, _ => by cases q
  | .err _ _, _, _, _, _, q, _ => by cases q
theorem rza_reads (I : Inv X pins σ H s) : ∀ (ds : List Dt) (vs : List V) (us : List Value) (es : List PyData), RzAll X.K mg H vs ds → pd2All ds = some es → Vals vs us → ∃ as, ReadsAll s.heap us es as ∧ (nlAll ds = true ∨ NoSysL H → sysModules ∉ as)
  | [], _, _, _, h, q, r => by
    cases h; cases r; cases q
    exact ⟨_, ReadsAll.nil, fun _ => List.not_mem_nil⟩
  | d :: ds, _, _, _, h, q, r => by
    cases h with
    | cons h1 h2 =>
      cases r with
      | cons r1 r2 =>
        unfold pd2All at q
        split at q
        · rename_i y ys e1 e2
          cases q
          obtain ⟨as, q1, n1⟩ := rz_reads I d _ _ _ h1 e1 r1
          obtain ⟨bs, q2, n2⟩ := rza_reads I ds _ _ _ h2 e2 r2
          exact ⟨_, ReadsAll.cons q1 q2, fun hl hm => (List.mem_append.mp hm).elim (n1 (hl.imp (fun z => by simp only [nlAll, Bool.and_eq_true] at z; exact z.1) fun z => z)) (n2 (hl.imp (fun z => by simp only [nlAll, Bool.and_eq_true] at z; exact z.2) fun z => z))⟩
        · cases q
theorem rzk_reads (I : Inv X pins σ H s) : ∀ (ds : List (Key × Dt)) (vs : List (Key × V)) (us : List (Key × Value)) (es : List (PyData × PyData)), RzKV X.K mg H vs ds → pd2KV ds = some es → KV vs us → ∃ as, ReadsAll s.heap (us.map (·.2)) (es.map (·.2)) as ∧ (nlKV ds = true ∨ NoSysL H → sysModules ∉ as) ∧ es.map (·.1) = us.map fun p => keyP p.1
  | [], _, _, _, h, q, r => by
    cases h; cases r; cases q
    exact ⟨_, ReadsAll.nil, fun _ => List.not_mem_nil, rfl⟩
  | (k, d) :: ds, _, _, _, h, q, r => by
    cases h with
    | cons h1 h2 =>
      cases r with
      | cons r1 r2 =>
        unfold pd2KV at q
        split at q
        · rename_i y ys e1 e2
          cases q
          obtain ⟨as, q1, n1⟩ := rz_reads I d _ _ _ h1 e1 r1.2
          obtain ⟨bs, q2, n2, n3⟩ := rzk_reads I ds _ _ _ h2 e2 r2
          exact ⟨_, ReadsAll.cons q1 q2, fun hl hm => (List.mem_append.mp hm).elim (n1 (hl.imp (fun z => by simp only [nlKV, Bool.and_eq_true] at z; exact z.1) fun z => z)) (n2 (hl.imp (fun z => by simp only [nlKV, Bool.and_eq_true] at z; exact z.2) fun z => z)), by rw [List.map_cons, List.map_cons, n3, ← r1.1]⟩
        · cases q
end
end
/-- repr(x) of data, dicts among it -/
def rReprX (K : PySem.W.Frag) (mg : Str → Option Value) : List V → Hp → VK → Prop := fun xs H Q => ∃ x d e, xs = [x] ∧ Rz K mg H x d ∧ d.pd2 = some e ∧ (e.hasDict = false ∨ d.nl = true ∨ NoSysL H) ∧ e.showable = true ∧ e.depth ≤ 60 ∧ e.shown.length ≤ sizeLine ∧ Q (.str e.shown) H
theorem call_reprX {X : Cx} {K : PySem.W.Frag} {mg : Str → Option Value} (hK : X.K = K) (hg : X.A.guards = some []) (hu : X.A.units + 64 < cLine) : CallR X (.builtin "repr") (rReprX K mg) := by
  subst hK
  intro pins s σ H xs us Q I r h
  obtain ⟨x, d, e, rfl, hd, he, hn0, h1, h3, h4, q⟩ := h
  cases r with
  | cons rx rr =>
    cases rr
    obtain ⟨as, rd, hn⟩ := rz_reads I d x _ e hd he rx
    have hm2 : e.hasDict = true → sysModules ∉ as := fun z => hn (hn0.resolve_left (by rw [z]; exact fun y => nomatch y))
    cases hd with
    | non =>
      cases rx; cases he
      exact P.repr_of_none ⟨.str _, H, I.tok _, ⟨_, rfl⟩, q⟩
    | bl b =>
      cases rx; cases he
      exact P.repr_of_bool ⟨.str _, H, I.tok _, ⟨_, rfl⟩, q⟩
    | int i =>
      cases he
      obtain ⟨t, rfl⟩ := rx
      exact P.repr_of_int (of_decide_eq_true h1) ⟨.str _, H, I.tok _, ⟨_, rfl⟩, q⟩
    | str y =>
      cases he
      obtain ⟨t, rfl⟩ := rx
      exact P.repr_of_str ⟨.str _, H, I.tok _, ⟨_, rfl⟩, q⟩ h4
    | obj m h t => cases he
    | errP m h => cases he
    | errN m h k t => cases he
    | errC m h => cases he
    | errD m h k t => cases he
    | _ =>
      cases rx
      exact repr_of_reads' rd h1 hm2 hg (by omega) (fun _ _ e => e) (fun h' u tk hk => ⟨.str _, H, I.kept (t' := tk) hk, ⟨_, rfl⟩, q⟩) h4
theorem pb_rz {c : Cd} {F H : Hp} {v : V} {d : Dt} (p : Pb c F H v d) (z : Ex F H) : Rz c.K c.mg H v d := by
  rcases p with r | ⟨a, rfl, o, _⟩
  · exact rz_ex z r
  · exact o.rz z fun _ h => h
def reprX : List Dt → (Dt → Prop) → Prop
  | [d], q => match d.pd2 with
    | some e => ((e.hasDict = false ∨ d.nl = true) ∧ e.showable = true ∧ e.depth ≤ 60 ∧ e.shown.length ≤ 100000) ∧ q (.str e.shown)
    | Option.none => False
  | _, _ => False
end Dw
set_option Elab.async false
set_option linter.all false
set_option maxRecDepth 100000
set_option maxHeartbeats 4000000
namespace Dw
open PySem PySem.Spec PyProof.Rows L2 Cn LamX
section
variable {c : Cd} {te : TE} {we : WE}
/-- X(e), X without an __init__ of its own -/
def wErrP (x : Str) (w : WE) : WE := fun ρ b q qx => w ρ b (fun _ b1 => q (.err x []) b1) qx
theorem sn_errP {x : Str} {C : Addr} (h : c.mg x = some (.ref C)) (he : SndB c te we) : SndE c (fun σ H Q => te σ H fun _ H1 => ∀ a, H1 a = none → Q (.ref a) (upd H1 a (ExO (.ref C) a))) (wErrP x we) := fun F0 H0 ρ b F H σ W q qx Q hw lx l => he F0 H0 ρ b F H σ W _ qx _ hw lx fun v d b1 F1 H1 h1 g1 W1 p1 a ha => by
  have G := Grow.new (o := ExO (.ref C) a) W1.z ha
  exact l _ _ b1 _ _ h1 (g1.trans (FrRel.of G)) (W1.grow G) (.errP h upd_same)
/-- X(e), X keeps e in its field f -/
def wErrJ (x f : Str) (w : WE) : WE := fun ρ b q qx => w ρ b (fun d b1 => q (.err x [(f, d)]) b1) qx
theorem sn_errJ {x f : Str} {C : Addr} (h : c.mg x = some (.ref C)) (he : SndE c te we) : SndE c (tExJ C f te) (wErrJ x f we) := fun F0 H0 ρ b F H σ W q qx Q hw lx l => he F0 H0 ρ b F H σ W _ qx _ hw lx fun v d b1 F1 H1 h1 g1 W1 r1 a dx ha hd ne => by
  have e0 : upd (upd (upd H1 a (exo a C none)) dx (exd dx [(f, v)])) a (exo a C (some dx)) = upd (upd H1 dx (exd dx [(f, v)])) a (exo a C (some dx)) := by
    funext y
    by_cases h1 : y = a
    · rw [h1, upd_same, upd_same]
    · rw [upd_ne h1, upd_ne h1]
      by_cases h2 : y = dx
      · rw [h2, upd_same, upd_same]
      · rw [upd_ne h2, upd_ne h2, upd_ne h1]
  rw [e0]
  have G1 := Grow.new (o := exd dx [(f, v)]) W1.z hd
  have G2 := Grow.new (p := a) (o := exo a C (some dx)) G1.fh (by rw [upd_ne (Ne.symm ne)]; exact ha)
  have G := G1.trans G2
  refine l _ _ b1 _ _ h1 (g1.trans (FrRel.of G)) (W1.grow G) (.errN h upd_same (by rw [upd_ne ne]; exact upd_same) (.cons (rz_ex G.ff r1) .nil))
/-- what is known of the own error classes: which is below which; which have fields -/
structure EKn (K : PySem.W.Frag) (mg : Str → Option Value) (sub : Str → Str → Option Bool) : Prop where
  own : ∀ x t b D, sub x t = some b → mg x = some (.ref D) → ExcC K D ∧ (t = "ValueError" → b = true ∧ PySem.W.kitOne K (.ref D) (.type "ValueError") = some true) ∧ (t ≠ "ValueError" → ∃ T, mg t = some (.ref T) ∧ PySem.W.kitOne K (.ref D) (.ref T) = some b)
def wIsE (sub : Str → Str → Option Bool) (t : Str) (w : WE) : WE := fun ρ b q qx => w ρ b (fun d b1 => match d with
  | .err x _ => (match sub x t with
    | some k => q (.bool k) b1
    | Option.none => False)
  | _ => False) qx
theorem err_at {K : PySem.W.Frag} {mg : Str → Option Value} {H : Hp} {v : V} {x : Str} {fs : List (Str × Dt)} (r : Rz K mg H v (.err x fs)) : ∃ a D, v = .ref a ∧ mg x = some (.ref D) ∧ ErrAt H a D := by
  cases r with
  | errP m h => exact ⟨_, _, rfl, m, .plain h⟩
  | errN m h k t => exact ⟨_, _, rfl, m, .own _ _ h k⟩
  | errC m h => exact ⟨_, _, rfl, m, .caught _ h (.inl rfl)⟩
  | errD m h k t => exact ⟨_, _, rfl, m, .caught _ h (.inr ⟨_, _, rfl, k⟩)⟩
def tXa (K : PySem.W.Frag) (f : Str) (te : TE) : TE := fun σ H Q => te σ H fun x H1 => ∃ (a D dd : Addr) (fs : List (Str × V)) (v : V), x = .ref a ∧ ((H1 a = some (exo a D (some dd)) ∧ H1 dd = some (exd dd fs)) ∨ (H1 a = some (ErO (.ref D) (some dd) a) ∧ H1 dd = some (.xd fs))) ∧ XfC K D ∧
  PySem.W.findIn K (.ref D) f = some none ∧ fs.lookup f = some v ∧ Q v H1
theorem pe_xa {X : Cx} {K : PySem.W.Frag} {e : Expr} {te : TE} {pos : Pos} {f : Str} (hK : X.K = K) (he : PE X e te) (hb : attributeBase e f X.env (eval e X.env) = eval e X.env := by rfl) : PE X (.Attribute e f pos) (tXa K f te) := by
  subst hK
  refine ⟨fun pins s σ H Q I h => attr_of hb (thn (he.run pins s σ H _ I h) fun u s1 hh => ?_)⟩
  obtain ⟨x, H1, I1, rx, a, D, dd, fs, v, ex, he, T, hno, l, q⟩ := hh
  subst ex
  cases rx
  rcases he with ⟨ea, ed⟩ | ⟨ea, ed⟩
  · obtain ⟨t1, e1⟩ := exo_at I1.hok ea
    obtain ⟨mA, hns, hr⟩ := exd_at I1.hok ed
    obtain ⟨o, ho, hl⟩ := lookIn_ns hns
    obtain ⟨u, hu, ru⟩ := RelO.some_of (v := v) (o := mA f) (by rw [← l]; exact hr f)
    exact HandSPX.exc_get I1.kIn (⟨e1, rfl, rfl, ho⟩ : PySem.W.InstAt s1.heap a _ D (some o)) T.ga T.gg T.exC (PySem.W.findObj_own T.hdC hno rfl (by rw [hl, hu])) (handed_of ru) ⟨v, H1, I1.tok _, ru, q⟩
  · obtain ⟨ob, od, J, k⟩ := inst_of I1.hok ea (.inr ⟨dd, fs, rfl, ed⟩)
    obtain ⟨o, mA, ho, hns, hg, hr⟩ := k dd fs rfl ed
    subst ho
    obtain ⟨o2, ho2, hl⟩ := lookIn_ns hns
    rw [hg] at ho2
    cases ho2
    obtain ⟨u, hu, ru⟩ := RelO.some_of (v := v) (o := mA f) (by rw [← l]; exact hr f)
    exact HandSPX.exc_get I1.kIn J T.ga T.gg T.exC (PySem.W.findObj_own T.hdC hno rfl (by rw [hl, hu])) (handed_of ru) ⟨v, H1, I1.tok _, ru, q⟩
/-- the field that a class keeps -/
structure EFn (K : PySem.W.Frag) (mg : Str → Option Value) (fld : Str → Option Str) : Prop where
  own : ∀ x f D, fld x = some f → mg x = some (.ref D) → XfC K D ∧ PySem.W.findIn K (.ref D) f = some none
def wFld (fld : Str → Option Str) (f : Str) (w : WE) : WE := fun ρ b q qx => w ρ b (fun d b1 => match d with
  | .err x [(g, v)] => (fld x = some f ∧ g = f) ∧ q v b1
  | _ => False) qx
theorem sn_fld {fld : Str → Option Str} {f : Str} (E : EFn c.K c.mg fld) (h : SndE c te we) : SndE c (tXa c.K f te) (wFld fld f we) := fun F0 H0 ρ b F H σ W q qx Q hw lx l => h F0 H0 ρ b F H σ W _ qx _ hw lx fun v d b1 F1 H1 h1 g1 W1 r1 => by
  split at h1
  · obtain ⟨⟨e1, rfl⟩, h1⟩ := h1
    cases r1 with
    | errN m ha hd t =>
      cases t with
      | cons r t =>
        cases t
        obtain ⟨x1, x2⟩ := E.own _ _ _ e1 m
        exact ⟨_, _, _, _, _, rfl, .inl ⟨W1.z _ _ ha, W1.z _ _ hd⟩, x1, x2, by rw [List.lookup_cons, beq_self_eq_true], l _ _ b1 F1 H1 h1 g1 W1 r⟩
    | errD m ha hd t =>
      cases t with
      | cons r t =>
        cases t
        obtain ⟨x1, x2⟩ := E.own _ _ _ e1 m
        exact ⟨_, _, _, _, _, rfl, .inr ⟨W1.z _ _ ha, W1.z _ _ hd⟩, x1, x2, by rw [List.lookup_cons, beq_self_eq_true], l _ _ b1 F1 H1 h1 g1 W1 r⟩
  · exact h1.elim
end
end Dw
set_option Elab.async false
set_option linter.all false
set_option maxRecDepth 100000
set_option maxHeartbeats 4000000
set_option Elab.async false
set_option linter.all false
set_option maxRecDepth 100000
set_option maxHeartbeats 4000000
namespace Dw
open PySem PySem.Spec PyProof.Rows L2 Cn LamX
/-- the slots without objects of one's own -/
def noOw : Rho → Rho
  | [] => []
  | some (.ow _) :: r => none :: noOw r
  | s :: r => s :: noOw r
/-- the error of e, or None; es: the classes that are caught -/
def wErr (es : List Str) (w : WE) : WE := fun ρ b q qx => w (noOw ρ) b (fun _ b1 => q .none b1) fun x b1 => es.contains x.c = true ∧ q (.err x.c x.fs) b1
end Dw
set_option Elab.async false
set_option linter.all false
set_option maxRecDepth 100000
set_option maxHeartbeats 4000000
set_option Elab.async false
set_option linter.all false
set_option maxRecDepth 100000
set_option maxHeartbeats 4000000
namespace Dw
open PySem PySem.Spec PyProof.Rows L2 Cn LamX
abbrev QP := List (Dt × Dt) → Nat → Prop
abbrev WP := Rho → Nat → QP → QX → Prop
def wpNil : WP := fun _ b q _ => q [] b
def wpCons (k v : WE) (r : WP) : WP := fun ρ b q qx => k ρ b (fun x b1 => v ρ b1 (fun y b2 => r ρ b2 (fun ps b3 => q ((x, y) :: ps) b3) qx) qx) qx
def RzPs (K : PySem.W.Frag) (mg : Str → Option Value) (F : Hp) (vs : List (V × V)) (ds : List (Dt × Dt)) : Prop := Paired (fun p q => Rz K mg F p.1 q.1 ∧ Rz K mg F p.2 q.2) vs ds
section
variable {c : Cd}
def SndP (c : Cd) (trs : List (TE × TE)) (w : WP) (n : Nat) : Prop := ∀ F0 H0 ρ b F H σ, Wd c F0 H0 ρ b F H σ → ∀ q qx Q, w ρ b q qx → LkX c F0 H0 F qx →
  (∀ vs ds b F2 H2, q ds b → ds.length = n → FrRel c.fr F H F2 H2 → Wd c F0 H0 ρ b F2 H2 σ → RzPs c.K c.mg F2 vs ds → Q vs H2) → tPairs trs σ H Q
theorem sp_nil : SndP c [] wpNil 0 := fun F0 H0 ρ b F H σ W q qx Q hw lx l => l [] [] b F H hw rfl (FrRel.refl W.z) W .nil
theorem sp_cons {tk tv : TE} {trs : List (TE × TE)} {wk wv : WE} {wr : WP} {n : Nat} (hk : SndE c tk wk) (hv : SndE c tv wv) (hr : SndP c trs wr n) : SndP c ((tk, tv) :: trs) (wpCons wk wv wr) (n + 1) := fun F0 H0 ρ b F H σ W q qx Q hw lx l =>
  hk F0 H0 ρ b F H σ W _ qx _ hw lx fun x dx b1 F1 H1 h1 g1 W1 r1 => hv F0 H0 ρ b1 F1 H1 σ W1 _ qx _ h1 (lx.mono g1.ff) fun y dy b2 F2 H2 h2 g2 W2 r2 => hr F0 H0 ρ b2 F2 H2 σ W2 _ qx _ h2 (lx.mono (g1.ff.trans g2.ff)) fun vs ds b3 F3 H3 h3 hn g3 W3 r3 =>
    l _ _ b3 F3 H3 h3 (by rw [List.length_cons, hn]) ((g1.trans g2).trans g3) W3 (.cons ⟨rz_ex (g2.ff.trans g3.ff) r1, rz_ex g3.ff r2⟩ r3)
def keysD : List (Dt × Dt) → Option (List (Key × Dt))
  | [] => some []
  | (k, v) :: r => match keyD k, keysD r with
    | some key, some kvs => some ((key, v) :: kvs)
    | _, _ => Option.none
def mergeD (kvs more : List (Key × Dt)) : List (Key × Dt) := more.foldl (fun acc kv => kvPut acc kv.1 kv.2) kvs
theorem keysD_len : ∀ {ds : List (Dt × Dt)} {kvs : List (Key × Dt)}, keysD ds = some kvs → kvs.length = ds.length
  | [], _, h => by cases h; rfl
  | (k, v) :: r, _, h => by
    unfold keysD at h
    split at h
    · rename_i e
      cases h
      rw [List.length_cons, List.length_cons, keysD_len e]
    · cases h
theorem rz_keys {K : PySem.W.Frag} {mg : Str → Option Value} {F : Hp} : ∀ {vs : List (V × V)} {ds : List (Dt × Dt)} {kvs : List (Key × Dt)}, RzPs K mg F vs ds → keysD ds = some kvs → ∃ us : List (Key × V), vs = us.map (fun kv => (kV kv.1, kv.2)) ∧ RzKV K mg F us kvs
  | _, _, _, .nil, h => by cases h; exact ⟨[], rfl, .nil⟩
  | _, _, _, .cons (a := p) (b := d) h t, e => by
    obtain ⟨k, v⟩ := p
    obtain ⟨dk, dv⟩ := d
    unfold keysD at e
    split at e
    · rename_i key kvs h1 h2
      cases e
      obtain ⟨us, rfl, r⟩ := rz_keys t h2
      exact ⟨(key, v) :: us, by rw [List.map_cons, ← rz_key (c := ⟨K, mg, Option.none, fun _ _ _ => False⟩) h.1 h1], .cons h.2 r⟩
    · cases e
theorem rzk_mergeD {K : PySem.W.Frag} {mg : Str → Option Value} {F : Hp} : ∀ {us : List (Key × V)} {more : List (Key × Dt)} {vs : List (Key × V)} {ds : List (Key × Dt)}, RzKV K mg F us more → RzKV K mg F vs ds → RzKV K mg F (mergeK vs us) (mergeD ds more)
  | _, _, _, _, .nil, h => h
  | _, _, _, _, .cons (k := k) r t, h => by
    have q := rzk_mergeD t (rzk_put (k := k) r h)
    exact q
theorem mergeD_len : ∀ (more ds : List (Key × Dt)), (mergeD ds more).length ≤ ds.length + more.length
  | [], ds => Nat.le_refl _
  | kv :: r, ds => by
    have h1 := mergeD_len r (kvPut ds kv.1 kv.2)
    have h2 := kvPut_len ds kv.1 kv.2
    rw [List.length_cons]
    show (mergeD (kvPut ds kv.1 kv.2) r).length ≤ _
    omega
/-- {k: v, ..} -/
def wDisp (w : WP) : WE := fun ρ b q qx => w ρ b (fun ps b1 => match keysD ps with
  | some kvs => q (.dict (mergeD [] kvs)) b1
  | Option.none => False) qx
theorem snn_disp {trs : List (TE × TE)} {w : WP} {n : Nat} (hn : n ≤ 15) (h : SndP c trs w n) : SndN c (tDisp trs) (wDisp w) := fun F0 H0 ρ b F H σ W q qx Q hw lx l p hp => by
  have f0 := W.far hp
  have G : Grow F H F (upd H p (.dK [])) := Grow.tmp W.z hp
  refine h F0 H0 ρ b F _ σ (W.grow G) _ qx _ hw lx fun vs ds b2 F2 H2 h2 hl g2 W2 r2 => ?_
  split at h2
  · rename_i kvs hk
    obtain ⟨us, rfl, ru⟩ := rz_keys r2 hk
    have e0 : upd H p (.dK []) p = some (.dK []) := upd_same
    have at2 : H2 p = some (.dK []) := g2.own tbl_dK f0.own.ap e0
    have hl2 : us.length ≤ 15 := by
      rw [rzk_len ru, keysD_len hk, hl]
      exact hn
    have f2 : Far c H0 ρ F2 σ p := f0.step g2 tbl_dK e0
    have g := (FrRel.of G).trans g2
    refine ⟨at2, us, rfl, hl2, l p _ b2 F2 _ h2 (g.mut f2.own.ap f2.own.nf (N0.of hp)) (W2.mutX f2 fun q z => ?_) (N0.of hp) f2 ⟨?_, _, upd_same, rzk_mergeD ru .nil⟩⟩
    · rw [at2] at z
      exact plain_dK.2 q (Option.some.inj z)
    · have := mergeD_len kvs []
      rw [keysD_len hk, hl] at this
      simp only [List.length_nil] at this
      omega
  · exact h2.elim
end
end Dw
set_option Elab.async false
set_option linter.all false
set_option maxRecDepth 100000
set_option maxHeartbeats 4000000
namespace Dw
open PySem PySem.Spec PyProof.Rows L2 Cn LamX
def wKw (is : List Nat) (w wk : WA) : WA := fun ρ b q qx => w ρ b (fun xs b1 => wk ρ b1 (fun ys b2 => q (permL is (xs ++ ys)) b2) qx) qx
end Dw
set_option Elab.async false
set_option linter.all false
set_option maxRecDepth 100000
set_option maxHeartbeats 4000000
namespace Dw
open PySem PySem.Spec PyProof.Rows L2 Cn LamX
variable {K : PySem.W.Frag} {mg : Str → Option Value}
/-- own errors, all right below CornerError, which is below ValueError -/
def subF (ns : List Str) (x t : Str) : Option Bool := match ns.contains x, (t :: ns).contains "ValueError" && t == "ValueError" with
  | true, true => some true
  | true, false => if ns.contains t = true then some (t == x || t == "CornerError") else Option.none
  | false, _ => Option.none
theorem ekn_mk {L : List (Str × Addr)} (h : ∀ p ∈ L, mg p.1 = some (.ref p.2) ∧ ExcC K p.2 ∧ PySem.W.kitOne K (.ref p.2) (.type "ValueError") = some true ∧ ∀ q ∈ L, PySem.W.kitOne K (.ref p.2) (.ref q.2) = some (q.1 == p.1 || q.1 == "CornerError")) : EKn K mg (subF (L.map (·.1))) := ⟨fun x t b D hs hm => by
  unfold subF at hs
  have known : (L.map (·.1)).contains x = true → ∃ p ∈ L, p.1 = x ∧ p.2 = D := fun hx => by
    obtain ⟨p, hp, rfl⟩ := List.mem_map.mp (List.contains_iff_mem.mp hx)
    have h1 := (h p hp).1
    rw [h1] at hm
    cases hm
    exact ⟨p, hp, rfl, rfl⟩
  split at hs
  · rename_i h1 h2
    cases hs
    obtain ⟨p, hp, rfl, rfl⟩ := known h1
    obtain ⟨_, e2, e3, _⟩ := h p hp
    have ht : t = "ValueError" := beq_iff_eq.mp (Bool.and_eq_true_iff.mp h2).2
    exact ⟨e2, fun _ => ⟨rfl, e3⟩, fun ne => absurd ht ne⟩
  · rename_i h1 h2
    split at hs
    · rename_i h3
      cases hs
      obtain ⟨p, hp, rfl, rfl⟩ := known h1
      obtain ⟨_, e2, e3, e4⟩ := h p hp
      obtain ⟨q, hq, rfl⟩ := List.mem_map.mp (List.contains_iff_mem.mp h3)
      refine ⟨e2, fun hv => ?_, fun _ => ⟨q.2, (h q hq).1, e4 q hq⟩⟩
      rw [hv] at h2
      simp at h2
    · cases hs
  · cases hs⟩
theorem efn_mk {L : List (Str × Str × Addr)} (h : ∀ p ∈ L, mg p.1 = some (.ref p.2.2) ∧ XfC K p.2.2 ∧ PySem.W.findIn K (.ref p.2.2) p.2.1 = some none) : EFn K mg (fun x => (L.map fun p => (p.1, p.2.1)).lookup x) := ⟨fun x f D hf hm => by
  have hm2 : ∃ p ∈ L, p.1 = x ∧ p.2.1 = f := by
    obtain ⟨p, hp, e⟩ := List.mem_map.mp (PySem.mem_of_lookup hf)
    cases e
    exact ⟨p, hp, rfl, rfl⟩
  obtain ⟨p, hp, rfl, rfl⟩ := hm2
  obtain ⟨h1, h2, h3⟩ := h p hp
  rw [h1] at hm
  cases hm
  exact ⟨h2, h3⟩⟩
end Dw
set_option Elab.async false
set_option linter.all false
set_option maxRecDepth 100000
set_option maxHeartbeats 4000000
set_option Elab.async false
set_option linter.all false
set_option maxRecDepth 100000
set_option maxHeartbeats 4000000
namespace Dw
open PySem PySem.Spec PyProof.Rows L2 Cn LamX
section
variable {X : Cx} {CX : CXT} {k : Nat} {x : Str} {ps : List Str} {sp : Sp} {W : WF} {p pos : Pos}
theorem pe_kpG0 {E : XK} (h : KpG X.prog X.w X.K X.mg X.base CX k x ps sp) (hx : Passes CX X E) (gd : X.A.guards = some []) (hr : Room k X.A) (hg : Gl X x) (hdb : (x == ("__debug__" : Str)) = false := by decide) : PE X (.Call (.Name x p) [] [] pos) (tCall sp [] E tNil) := by
  obtain ⟨f, fd, h1, h2, h3, h4, h5, _⟩ := h
  refine ⟨fun pins s σ H Q I hq => wpAny_Call_Name_kw (ld_glob I hg h1 ?_ hdb)⟩
  have q : sp [] H Q E := hq
  have hl : ps.length = 0 := by
    have z := h4 _ _ _ _ q
    exact z.symm
  have bd : BindsTo s fd ⟨[], []⟩ (ps.zip []) := by
    have z := h3 s [] I.kIn (by rw [List.append_nil, hl]; rfl)
    rw [List.append_nil] at z
    exact z
  refine PySem.W.callWith_K0 (first := []) I.kIn h2 (wpAny_call (codeAny_mono (h5 X.A X.stack s H ⟨[], []⟩ [] [] Q E gd hr I.env0 bd .nil q) fun rs s2 z => ?_))
  cases rs with
  | error er => exact hx pins σ H s er s2 I z
  | ok fl =>
    cases fl with
    | ret u => exact I.after z
    | next => exact False.elim z
    | brk => exact False.elim z
    | cont => exact False.elim z
theorem pe_callZ0 {P : Program} {w : World} {K : PySem.W.Frag} {mg : Str → Option Value} {base : Heap} (h : KpG P w K mg base (L2.CX P w) k x ps (spW K mg ps.length W)) (hP : X.prog = P) (hw : X.w = w) (hK : X.K = K) (hm : X.mg = mg) (hb : X.base = base)
    (gd : X.A.guards = some []) (hr : Room k X.A) (hg : Gl X x) (hdb : (x == ("__debug__" : Str)) = false := by decide) : PE X (.Call (.Name x p) [] [] pos) (tCall (spW K mg ps.length W) [] (fun _ _ _ => False) tNil) := by
  subst hP hw hK hm hb
  exact pe_kpG0 h passF gd hr hg hdb
end
section
variable {c : Cd} {te ta : TE} {we wa : WE}
/-- xs.count(x) -/
def wCountL (wl wx : WE) : WE := fun ρ b q qx => wl ρ b (fun l b1 => match l with
  | .list ds => wx ρ b1 (fun d b2 => match plAll ds, d.pl with
    | some es, some e => e.depth ≤ 60 ∧ q (.int ((es.countP fun z => PyData.eqv z e : Nat) : Int)) b2
    | _, _ => False) qx
  | _ => False) qx
theorem sn_countL (hl : SndE c ta wa) (hx : SndE c te we) : SndE c (tBM c.K "list" (rCountD c.K) ta (tCons te tNil)) (wCountL wa we) := fun F0 H0 ρ b F H σ W q qx Q hw lx lk => hl F0 H0 ρ b F H σ W _ qx _ hw lx fun v l b1 F1 H1 h1 g1 W1 r1 => by
  -- the list is one whatever comes of the argument
  cases l with
  | list ds =>
    cases r1 with
    | lst l1 hs ha =>
      refine ⟨.inl ⟨rfl, _, SqL.of (W1.z _ _ hs)⟩, hx F0 H0 ρ b1 F1 H1 σ W1 _ qx _ h1 (lx.mono g1.ff) fun u d b2 F2 H2 h2 g2 W2 r2 => ?_⟩
      split at h2
      · rename_i es e he1 he2
        obtain ⟨z1, p1⟩ := rza_dz (rza_ex g2.ff ha) he1
        obtain ⟨z2, p2⟩ := rz_dz r2 he2
        exact ⟨_, _, e, es, rfl, rfl, .lst (SqL.of (W2.z _ _ (g2.ff _ _ hs))) (dpa_ex W2.z z1), dp_ex W2.z z2, p1, p2, h2.1, lk _ _ b2 F2 H2 h2.2 (g1.trans g2) W2 (.int _)⟩
      · exact h2.elim
  | _ => exact h1.elim
/-- xs.index(x) -/
def wIndexL (wl wx : WE) : WE := fun ρ b q qx => wl ρ b (fun l b1 => match l with
  | .list ds => wx ρ b1 (fun d b2 => match plAll ds, d.pl with
    | some es, some e => (match es.findIdx? (fun z => PyData.eqv z e) with
      | some j => (SeqAt.shaped (.list es) = true ∧ SeqAt.shaped e = true) ∧ q (.int (j : Nat)) b2
      | Option.none => False)
    | _, _ => False) qx
  | _ => False) qx
theorem sn_indexL (hl : SndE c ta wa) (hx : SndE c te we) : SndE c (tBM c.K "list" (rIndexD c.K) ta (tCons te tNil)) (wIndexL wa we) := fun F0 H0 ρ b F H σ W q qx Q hw lx lk => hl F0 H0 ρ b F H σ W _ qx _ hw lx fun v l b1 F1 H1 h1 g1 W1 r1 => by
  cases l with
  | list ds =>
    cases r1 with
    | lst l1 hs ha =>
      refine ⟨.inl ⟨rfl, _, SqL.of (W1.z _ _ hs)⟩, hx F0 H0 ρ b1 F1 H1 σ W1 _ qx _ h1 (lx.mono g1.ff) fun u d b2 F2 H2 h2 g2 W2 r2 => ?_⟩
      split at h2
      · rename_i es e he1 he2
        split at h2
        · rename_i j hj
          obtain ⟨z1, p1⟩ := rza_dz (rza_ex g2.ff ha) he1
          obtain ⟨z2, p2⟩ := rz_dz r2 he2
          obtain ⟨hlt, hp, hb⟩ := List.findIdx?_eq_some_iff_getElem.mp hj
          have zl : Dz c.K H2 _ (.list es) := .lst (SqL.of (W2.z _ _ (g2.ff _ _ hs))) (dpa_ex W2.z z1)
          refine ⟨_, _, e, es, j, es[j], rfl, rfl, zl.dp (by rw [PyData.hasDict]; exact noDict_plains _ p1), (dp_ex W2.z z2).dp (noDict_plain _ p2), h2.1.1, h2.1.2, List.getElem?_eq_getElem hlt, hp, fun m z' hm hz => ?_, lk _ _ b2 F2 H2 h2.2 (g1.trans g2) W2 (.int _)⟩
          have hl2 : m < es.length := Nat.lt_trans hm hlt
          rw [List.getElem?_eq_getElem hl2] at hz
          cases hz
          have z := hb m hm
          simpa using z
        · exact h2.elim
      · exact h2.elim
  | _ => exact h1.elim
end
end Dw
set_option Elab.async false
set_option linter.all false
set_option maxRecDepth 100000
set_option maxHeartbeats 4000000
namespace Dw
open PySem PySem.Spec PyProof.Rows L2 Cn LamX
def dcW (g : WG) (wt : WT) (wk wv : WE) (ρ : Rho) : List Dt → Nat → List (Key × Dt) → (List (Key × Dt) → Nat → Prop) → Prop
  | [], b, acc, q => q acc b
  | d :: ds, b, acc, q => g d ρ fun ρ2 => wt ρ2 b (fun k b1 => br k (wk ρ2 b1 (fun kd b2 => wv ρ2 b2 (fun y b3 => match keyD kd with
    | some key => dcW g wt wk wv ρ ds b3 (kvPut acc key y) q
    | Option.none => False) fun _ _ => False) fun _ _ => False) (dcW g wt wk wv ρ ds b1 acc q)) fun _ _ => False
end Dw
set_option Elab.async false
set_option linter.all false
set_option maxRecDepth 100000
set_option maxHeartbeats 4000000
namespace Dw
open PySem PySem.Spec PyProof.Rows L2 Cn
def nkD (d : Dt) : Option NestedKey := d.pl.bind nkP
def KeysOk (ds : List Dt) : Prop := ∀ d ∈ ds, ∃ js, nkD d = some (.tup js) ∧ (NestedKey.tup js).depth ≤ 8
section
variable {X : Cx} {K : PySem.W.Frag} {mg : Str → Option Value} {P : Program} {w : World}
def SortOkE (ds : List Dt) : Prop := (∀ d ∈ ds, d.pl.isSome = true ∧ (encD d).depth ≤ 60) ∧ PySem.W.AllAlike (ds.map encD) ∧ Cn.SortableE (ds.map encD)
end
end Dw
set_option Elab.async false
set_option linter.all false
set_option maxRecDepth 100000
set_option maxHeartbeats 4000000
namespace Dw
open PySem PySem.Spec PyProof.Rows L2 Cn
def keyT : Key → Dt
  | .inl i => .int i
  | .inr x => .str x
def keysO : List Dt → Option (List Key)
  | [] => some []
  | d :: ds => match keyD d, keysO ds with
    | some k, some ks => some (k :: ks)
    | _, _ => Option.none
/-- each once -/
def dd : List Key → List Key
  | [] => []
  | k :: ks => if (ks.any fun j => decide (j = k)) = true then dd ks else k :: dd ks
def seqO : Dt → Option (List Dt)
  | .list ds => some ds
  | .tuple ds => some ds
  | _ => Option.none
def ssetD (d : Dt) (q : Dt → Prop) : Prop := match (seqO d).bind keysO with
  | some ks => OneSort ks ∧ ks.length < 4000 ∧ q (.list (((dd ks).mergeSort leK).map keyT))
  | Option.none => match seqO d with
    | some ds => KeysOk ds ∧ SortOkE ds ∧ ds.length ≤ 76 ∧ ∀ ts : List Dt, ts.Nodup → (∀ d, d ∈ ts ↔ d ∈ ds) → ts.Pairwise (fun a b => leS a b = true) → ts.length ≤ 76 → q (.list ts)
    | Option.none => False
def lsetD (d : Dt) (q : Dt → Prop) : Prop := match (seqO d).bind keysO with
  | some ks => ks.length < 4000 ∧ q (.int ((dd ks).length : Nat))
  | Option.none => match seqO d with
    | some ds => KeysOk ds ∧ ds.length ≤ 76 ∧ ∀ ks : List NestedKey, ks.Nodup → (∀ d ∈ ds, ∃ k ∈ ks, nkD d = some k) → (∀ k ∈ ks, ∃ d ∈ ds, nkD d = some k) → q (.int (ks.length : Nat))
    | Option.none => False
def wSSet (w : WE) : WE := fun ρ b q qx => w ρ b (fun d b1 => ssetD d fun z => q z b1) qx
def wLSet (w : WE) : WE := fun ρ b q qx => w ρ b (fun d b1 => lsetD d fun z => q z b1) qx
end Dw
set_option Elab.async false
set_option linter.all false
set_option maxRecDepth 100000
set_option maxHeartbeats 4000000
namespace Dw
open PySem PySem.Spec PyProof.Rows L2 Cn
section
variable {c : Cd} {tas : TA} {was : WA}
def wiEnumA (ws : WA) : WA := fun ρ b q qx => ws ρ b (fun ds b1 => match ds with
  | [.list xs] => q (enumD xs) b1
  | [.tuple xs] => q (enumD xs) b1
  | _ => False) qx
end
end Dw
set_option Elab.async false
set_option linter.all false
set_option maxRecDepth 100000
set_option maxHeartbeats 4000000
namespace Dw
open PySem PySem.Spec PyProof.Rows L2 Cn
def revD : Op1
  | .list ds, q => q (.list ds.reverse)
  | .tuple ds, q => q (.tuple ds.reverse)
  | _, _ => False
def wUpper (w : WE) : WE := fun ρ b q qx => w ρ b (fun d b1 => match d with
  | .str x => x.length ≤ 30000 ∧ q (.str (PySem.Txt.upper x)) b1
  | _ => False) qx
end Dw
set_option Elab.async false
set_option linter.all false
set_option maxRecDepth 100000
set_option maxHeartbeats 4000000
namespace Dw
open PySem PySem.Spec PyProof.Rows L2 Cn LamX
theorem br_f {k : Bool} {A B : Prop} (e : k = false) (h : B) : br k A B := by subst e; exact h
abbrev FX : QX := fun _ _ => False
/-- .. over things of a kind of one's own -/
theorem lcW_mapT {α : Type} {g : WG} {we : WE} {ρ : Rho} (c : α → Dt) (f : α → Dt) {xs : List α} (h : ∀ x ∈ xs, ∀ b (yes : Dt → Nat → Prop), yes (f x) b → g (c x) ρ fun ρ2 => we ρ2 b yes FX) {b : Nat} {q : List Dt → Nat → Prop} (hq : q (xs.map f) b) : lcW g wYes we ρ (xs.map c) b q := by
  induction xs generalizing b q with
  | nil => exact hq
  | cons x xs ih => exact h x List.mem_cons_self b _ (ih (fun d hd => h d (List.mem_cons_of_mem _ hd)) hq)
theorem i_neI {i j : Int} {q : Dt → Prop} (h : q (.bool (!decide (i = j)))) : neD (.int i) (.int j) q := by
  refine ⟨by show PyData.depth (.int i) ≤ 60; unfold PyData.depth; omega, ?_⟩
  have e : PyData.eqv (.int i) (.int j) = decide (i = j) := by
    unfold PyData.eqv
    by_cases c : i = j <;> simp [c]
  rw [e]
  exact h
theorem i_ne {d e : Dt} {x y : PyData} {q : Dt → Prop} (h1 : d.pl = some x) (h2 : e.pl = some y) (hd : x.depth ≤ 60) (h : q (.bool (!PyData.eqv x y))) : neD d e q := by
  unfold neD
  rw [h1, h2]
  exact ⟨hd, h⟩
theorem i_ixL {ds : List Dt} {i : Int} {d : Dt} {q : Dt → Prop} (e : atI ds i = some d) (h : q d) : ixD (.list ds) (.int i) q := by
  unfold ixD
  dsimp only
  rw [e]
  exact h
theorem atI_ofNat {α : Type} {xs : List α} {j : Nat} {v : α} (h : xs[j]? = some v) : atI xs (j : Int) = some v := atI_nat h
/-- for x in things of a kind of one's own: by an invariant of what is left -/
theorem forW_ind {α : Type} {g : WG} {w : WS} {D : WEnds} (c : α → Dt) (I : List α → Rho → Nat → Prop) (h0 : ∀ ρ b, I [] ρ b → D.nx ρ b) (h1 : ∀ x xs ρ b, I (x :: xs) ρ b → ∀ (N : Rho → Nat → Prop), (∀ ρ b, I xs ρ b → N ρ b) → g (c x) ρ fun ρ2 => w { D with nx := N, ct := N, bk := D.nx } ρ2 b) : ∀ {xs : List α} {ρ : Rho} {b : Nat}, I xs ρ b → forW g w D (xs.map c) ρ b
  | [], ρ, b, i => h0 ρ b i
  | x :: xs, ρ, b, i => h1 x xs ρ b i _ fun ρ b j => forW_ind c I h0 h1 j
/-- a statement that leaves all as it is, then the rest -/
theorem seq_keep {w u : WS} {D : WEnds} {ρ : Rho} {b : Nat} (hw : ∀ N : Rho → Nat → Prop, N ρ b → w { D with nx := N } ρ b) (h : u D ρ b) : wSeq w u D ρ b := hw _ h
end Dw
set_option Elab.async false
set_option linter.all false
set_option maxRecDepth 100000
set_option maxHeartbeats 4000000
namespace Dw
open PySem PySem.Spec PyProof.Rows L2 Cn LamX
def drawD (d : Dt) (b : Nat) (q : QD) : Prop := match d, b with
  | .int n, b2 + 1 => 0 < n ∧ n < 1000000000 ∧ ∀ r, 0 ≤ r → r < n → q (.int r) b2
  | _, _ => False
def parD (is : List Nat) (ss : List Sv) (ρ : Rho) (k : Rho → Prop) : Prop := is.length = ss.length ∧ k (puts ρ is ss)
def joinD (a : Str) (d : Dt) (q : Dt → Prop) : Prop := match itemsOf d with
  | some ds => (match strsO ds with
    | some ys => ((ys.map (·.length)).sum + ys.length * a.length ≤ 100000 ∧ (PySem.Txt.join a ys).length ≤ 100000) ∧ q (.str (PySem.Txt.join a ys))
    | Option.none => False)
  | Option.none => False
def dispD (ps : List (Dt × Dt)) (q : Dt → Prop) : Prop := match keysD ps with
  | some kvs => q (.dict (mergeD [] kvs))
  | Option.none => False
def seqD (d : Dt) (q : List Dt → Prop) : Prop := match walkOf d with
  | some ds => q ds
  | Option.none => False
def rng1D (ds : List Dt) (q : List Dt → Prop) : Prop := match ds with
  | [.int n] => (-100000 ≤ n ∧ n ≤ 100000) ∧ q (natD 0 n.toNat)
  | _ => False
def rng2D (ds : List Dt) (q : List Dt → Prop) : Prop := match ds with
  | [.int m, .int n] => ((-(2 ^ 62) ≤ m ∧ m < 2 ^ 62 ∧ -(2 ^ 62) ≤ n ∧ n < 2 ^ 62) ∧ n - m ≤ 100000) ∧ q (natD m (n - m).toNat)
  | _ => False
def enumsAD (ds : List Dt) (q : List Dt → Prop) : Prop := match ds with
  | [.list xs] => q (enumD xs)
  | [.tuple xs] => q (enumD xs)
  | _ => False
def enumsD (ds : List Dt) (q : List Dt → Prop) : Prop := match ds with
  | [.list xs] => q (enumD xs)
  | _ => False
def zipsD (ds : List Dt) (q : List Dt → Prop) : Prop := match ds with
  | [.list xs, .list ys] => q (zipD xs ys)
  | _ => False
def setLD (ds : List Dt) (k d : Dt) (q : List Dt → Prop) : Prop := match k with
  | .int n => (match setAt ds n d with
    | some ds2 => q ds2
    | Option.none => False)
  | _ => False
theorem i_draw {n : Int} {b : Nat} {q : QD} (h0 : 0 < n) (h1 : n < 1000000000) (hb : 1 ≤ b) (h : ∀ r, 0 ≤ r → r < n → q (.int r) (b - 1)) : drawD (.int n) b q := by
  cases b with
  | zero => omega
  | succ b => exact ⟨h0, h1, h⟩
/-- one statement, then the rest -/
theorem seq_mk {w u : WS} {D : WEnds} {ρ : Rho} {b : Nat} (h : ∀ N : Rho → Nat → Prop, (∀ ρ b, u D ρ b → N ρ b) → w { D with nx := N } ρ b) : wSeq w u D ρ b := h _ fun _ _ h => h
theorem e_var {i : Nat} {ρ : Rho} {b : Nat} {q : QD} {qx : QX} : wVar i ρ b q qx = (match at_ ρ i with | some (.sh d) => q d b | _ => False) := (rfl)
theorem e_varB {i : Nat} {ρ : Rho} {b : Nat} {q : QD} {qx : QX} : wVarB i ρ b q qx = (match at_ ρ i with | some (.sh d) => q d b | some (.ow d) => q d b | _ => False) := (rfl)
theorem e_c {d : Dt} {ρ : Rho} {b : Nat} {q : QD} {qx : QX} : wC d ρ b q qx = (q d b) := (rfl)
theorem e_op {f : Op2} {wa wb : WE} {ρ : Rho} {b : Nat} {q : QD} {qx : QX} : wOp f wa wb ρ b q qx = (wa ρ b (fun x b1 => wb ρ b1 (fun y b2 => f x y fun z => q z b2) qx) qx) := (rfl)
theorem e_un {f : Op1} {wa : WE} {ρ : Rho} {b : Nat} {q : QD} {qx : QX} : wUn f wa ρ b q qx = (wa ρ b (fun x b1 => f x fun z => q z b1) qx) := (rfl)
theorem e_isB {k : Bool} {p : Bool → Prop} : isB (.bool k) p = (p k) := (rfl)
theorem e_test {w : WE} {ρ : Rho} {b : Nat} {q : Bool → Nat → Prop} {qx : QX} : wTest w ρ b q qx = (w ρ b (fun d b1 => isB d fun k => q k b1) qx) := (rfl)
theorem e_not {w : WT} {ρ : Rho} {b : Nat} {q : Bool → Nat → Prop} {qx : QX} : wNot w ρ b q qx = (w ρ b (fun k b1 => q (!k) b1) qx) := (rfl)
theorem e_and {w u : WT} {ρ : Rho} {b : Nat} {q : Bool → Nat → Prop} {qx : QX} : wAnd w u ρ b q qx = (w ρ b (fun k b1 => br k (u ρ b1 q qx) (q false b1)) qx) := (rfl)
theorem e_or {w u : WT} {ρ : Rho} {b : Nat} {q : Bool → Nat → Prop} {qx : QX} : wOr w u ρ b q qx = (w ρ b (fun k b1 => br k (q true b1) (u ρ b1 q qx)) qx) := (rfl)
theorem e_yes {ρ : Rho} {b : Nat} {q : Bool → Nat → Prop} {qx : QX} : wYes ρ b q qx = (q true b) := (rfl)
theorem e_notV {w : WE} {ρ : Rho} {b : Nat} {q : QD} {qx : QX} : wNotV w ρ b q qx = (w ρ b (fun d b1 => isB d fun k => q (.bool (!k)) b1) qx) := (rfl)
theorem e_andV {w u : WE} {ρ : Rho} {b : Nat} {q : QD} {qx : QX} : wAndV w u ρ b q qx = (w ρ b (fun d b1 => isB d fun k => br k (u ρ b1 q qx) (q (.bool false) b1)) qx) := (rfl)
theorem e_orV {w u : WE} {ρ : Rho} {b : Nat} {q : QD} {qx : QX} : wOrV w u ρ b q qx = (w ρ b (fun d b1 => isB d fun k => br k (q (.bool true) b1) (u ρ b1 q qx)) qx) := (rfl)
theorem e_if {wt : WT} {wa wb : WE} {ρ : Rho} {b : Nat} {q : QD} {qx : QX} : wIf wt wa wb ρ b q qx = (wt ρ b (fun k b1 => br k (wa ρ b1 q qx) (wb ρ b1 q qx)) qx) := (rfl)
theorem e_chain {f g : Op2} {wa wb wc : WE} {ρ : Rho} {b : Nat} {q : QD} {qx : QX} : wChain f g wa wb wc ρ b q qx = (wa ρ b (fun x b1 => wb ρ b1 (fun y b2 => f x y fun z => isB z fun k => br k (wc ρ b2 (fun w b3 => g y w fun z => q z b3) qx) (q (.bool false) b2)) qx) qx) := (rfl)
theorem e_nil {ρ : Rho} {b : Nat} {q : List Dt → Nat → Prop} {qx : QX} : wNil ρ b q qx = (q [] b) := (rfl)
theorem e_cons {w : WE} {ws : WA} {ρ : Rho} {b : Nat} {q : List Dt → Nat → Prop} {qx : QX} : wCons w ws ρ b q qx = (w ρ b (fun d b1 => ws ρ b1 (fun ds b2 => q (d :: ds) b2) qx) qx) := (rfl)
theorem e_cb {f : List Dt → (Dt → Prop) → Prop} {ws : WA} {ρ : Rho} {b : Nat} {q : QD} {qx : QX} : wCB f ws ρ b q qx = (ws ρ b (fun ds b1 => f ds fun z => q z b1) qx) := (rfl)
theorem e_tup {ws : WA} {ρ : Rho} {b : Nat} {q : QD} {qx : QX} : wTup ws ρ b q qx = (ws ρ b (fun ds b1 => q (.tuple ds) b1) qx) := (rfl)
theorem e_lst {ws : WA} {ρ : Rho} {b : Nat} {q : QD} {qx : QX} : wLst ws ρ b q qx = (ws ρ b (fun ds b1 => q (.list ds) b1) qx) := (rfl)
theorem e_d0 {ρ : Rho} {b : Nat} {q : QD} {qx : QX} : wD0 ρ b q qx = (q (.dict []) b) := (rfl)
theorem e_lc {wi : WA} {g : WG} {wt : WT} {we : WE} {vs : List Nat} {ρ : Rho} {b : Nat} {q : QD} {qx : QX} : wLc wi g wt we vs ρ b q qx = (wi ρ b (fun ds b1 => lcW g wt we (wipeR ρ vs) ds b1 fun r b2 => q (.list r) b2) qx) := (rfl)
theorem e_dget {wd wk : WE} {ρ : Rho} {b : Nat} {q : QD} {qx : QX} : wDGet wd wk ρ b q qx = (wd ρ b (fun x b1 => wk ρ b1 (fun y b2 => dgetD x y fun z => q z b2) qx) qx) := (rfl)
theorem e_dget1 {wd wk : WE} {ρ : Rho} {b : Nat} {q : QD} {qx : QX} : wDGet1 wd wk ρ b q qx = (wd ρ b (fun d b1 => match d with | .dict kvs => wk ρ b1 (fun k b2 => match keyD k with | some key => q ((kvGet kvs key).getD .none) b2 | Option.none => False) qx | _ => False) qx) := (rfl)
theorem e_dget2 {wd wk we : WE} {ρ : Rho} {b : Nat} {q : QD} {qx : QX} : wDGet2 wd wk we ρ b q qx = (wd ρ b (fun d b1 => match d with | .dict kvs => wk ρ b1 (fun k b2 => we ρ b2 (fun x b3 => match keyD k with | some key => q ((kvGet kvs key).getD x) b3 | Option.none => False) qx) qx | _ => False) qx) := (rfl)
theorem e_isi {T : Bt} {w : WE} {ρ : Rho} {b : Nat} {q : QD} {qx : QX} : wIsi T w ρ b q qx = (w ρ b (fun d b1 => match isiD T d with | some k => q (.bool k) b1 | Option.none => False) qx) := (rfl)
theorem e_isi2 {T S : Bt} {w : WE} {ρ : Rho} {b : Nat} {q : QD} {qx : QX} : wIsi2 T S w ρ b q qx = (w ρ b (fun d b1 => match isiD T d, isiD S d with | some k, some j => q (.bool (k || j)) b1 | _, _ => False) qx) := (rfl)
theorem e_m0 {g : Str → Bool} {w : WE} {ρ : Rho} {b : Nat} {q : QD} {qx : QX} : wM0 g w ρ b q qx = (w ρ b (fun d b1 => match d with | .str x => q (.bool (g x)) b1 | _ => False) qx) := (rfl)
theorem e_call {W : WF} {ws : WA} {ρ : Rho} {b : Nat} {q : QD} {qx : QX} : wCall W ws ρ b q qx = (ws ρ b (fun ds b1 => W ds (fun d => q d b1) fun x => qx x b1) qx) := (rfl)
theorem e_call0 {W : WF} {ws : WA} {ρ : Rho} {b : Nat} {q : QD} {qx : QX} : wCall0 W ws ρ b q qx = (ws ρ b (fun ds b1 => W ds (fun d => q d b1) fun _ => False) qx) := (rfl)
theorem e_callS {i : Nat} {W : WFS} {ws : WA} {ρ : Rho} {b : Nat} {q : QD} {qx : QX} : wCallS i W ws ρ b q qx = (match at_ ρ i with | some .st => ws ρ b (fun ds b1 => W ds b1 q qx) qx | _ => False) := (rfl)
theorem e_callS0 {i : Nat} {W : WFS} {ws : WA} {ρ : Rho} {b : Nat} {q : QD} {qx : QX} : wCallS0 i W ws ρ b q qx = (match at_ ρ i with | some .st => ws ρ b (fun ds b1 => W ds b1 q fun _ _ => False) qx | _ => False) := (rfl)
theorem e_draw {i : Nat} {w : WE} {ρ : Rho} {b : Nat} {q : QD} {qx : QX} : wDraw i w ρ b q qx = (match at_ ρ i with | some .st => w ρ b (fun d b1 => drawD d b1 q) qx | _ => False) := (rfl)
theorem e_sl {f : SlOp} {we : WE} {wl wh : WO} {ρ : Rho} {b : Nat} {q : QD} {qx : QX} : wSl f we wl wh ρ b q qx = (we ρ b (fun d b1 => wl ρ b1 (fun l b2 => wh ρ b2 (fun u b3 => f d l u fun z => q z b3) qx) qx) qx) := (rfl)
theorem e_noPart {ρ : Rho} {b : Nat} {q : Option Int → Nat → Prop} {qx : QX} : wNoPart ρ b q qx = (q none b) := (rfl)
theorem e_part {w : WE} {ρ : Rho} {b : Nat} {q : Option Int → Nat → Prop} {qx : QX} : wPart w ρ b q qx = (w ρ b (fun d b1 => match d with | .int i => q (some i) b1 | _ => False) qx) := (rfl)
theorem e_join {wo we : WE} {ρ : Rho} {b : Nat} {q : QD} {qx : QX} : wJoin wo we ρ b q qx = (wo ρ b (fun x b1 => match x with | .str a => we ρ b1 (fun d b2 => joinD a d fun z => q z b2) qx | _ => False) qx) := (rfl)
theorem e_sortIt {w : WE} {ρ : Rho} {b : Nat} {q : QD} {qx : QX} : wSortIt w ρ b q qx = (w ρ b (fun d b1 => sortItD d fun z => q z b1) qx) := (rfl)
theorem e_upper {w : WE} {ρ : Rho} {b : Nat} {q : QD} {qx : QX} : wUpper w ρ b q qx = (w ρ b (fun d b1 => match d with | .str x => x.length ≤ 30000 ∧ q (.str (PySem.Txt.upper x)) b1 | _ => False) qx) := (rfl)
theorem e_sset {w : WE} {ρ : Rho} {b : Nat} {q : QD} {qx : QX} : wSSet w ρ b q qx = (w ρ b (fun d b1 => ssetD d fun z => q z b1) qx) := (rfl)
theorem e_lset {w : WE} {ρ : Rho} {b : Nat} {q : QD} {qx : QX} : wLSet w ρ b q qx = (w ρ b (fun d b1 => lsetD d fun z => q z b1) qx) := (rfl)
theorem e_errP {x : Str} {w : WE} {ρ : Rho} {b : Nat} {q : QD} {qx : QX} : wErrP x w ρ b q qx = (w ρ b (fun _ b1 => q (.err x []) b1) qx) := (rfl)
theorem e_errJ {x f : Str} {w : WE} {ρ : Rho} {b : Nat} {q : QD} {qx : QX} : wErrJ x f w ρ b q qx = (w ρ b (fun d b1 => q (.err x [(f, d)]) b1) qx) := (rfl)
theorem e_isE {sub : Str → Str → Option Bool} {t : Str} {w : WE} {ρ : Rho} {b : Nat} {q : QD} {qx : QX} : wIsE sub t w ρ b q qx = (w ρ b (fun d b1 => match d with | .err x _ => (match sub x t with | some k => q (.bool k) b1 | Option.none => False) | _ => False) qx) := (rfl)
theorem e_fld {fl : Str → Option Str} {f : Str} {w : WE} {ρ : Rho} {b : Nat} {q : QD} {qx : QX} : wFld fl f w ρ b q qx = (w ρ b (fun d b1 => match d with | .err x [(g, v)] => (fl x = some f ∧ g = f) ∧ q v b1 | _ => False) qx) := (rfl)
theorem e_err {es : List Str} {w : WE} {ρ : Rho} {b : Nat} {q : QD} {qx : QX} : wErr es w ρ b q qx = (w (noOw ρ) b (fun _ b1 => q .none b1) fun x b1 => es.contains x.c = true ∧ q (.err x.c x.fs) b1) := (rfl)
theorem e_kw {is : List Nat} {w wk : WA} {ρ : Rho} {b : Nat} {q : List Dt → Nat → Prop} {qx : QX} : wKw is w wk ρ b q qx = (w ρ b (fun xs b1 => wk ρ b1 (fun ys b2 => q (permL is (xs ++ ys)) b2) qx) qx) := (rfl)
theorem e_noOw0  : noOw [] = ([]) := (rfl)
theorem e_noOwO {d : Dt} {ρ : Rho} : noOw (some (.ow d) :: ρ) = (none :: noOw ρ) := (rfl)
theorem e_noOwS {d : Dt} {ρ : Rho} : noOw (some (.sh d) :: ρ) = (some (.sh d) :: noOw ρ) := (rfl)
theorem e_noOwT {ρ : Rho} : noOw (some .st :: ρ) = (some .st :: noOw ρ) := (rfl)
theorem e_noOwC {n : Nat} {ρ : Rho} : noOw (some (.sc n) :: ρ) = (some (.sc n) :: noOw ρ) := (rfl)
theorem e_noOwN {ρ : Rho} : noOw (none :: ρ) = (none :: noOw ρ) := (rfl)
theorem e_wpNil {ρ : Rho} {b : Nat} {q : QP} {qx : QX} : wpNil ρ b q qx = (q [] b) := (rfl)
theorem e_wpCons {k v : WE} {r : WP} {ρ : Rho} {b : Nat} {q : QP} {qx : QX} : wpCons k v r ρ b q qx = (k ρ b (fun x b1 => v ρ b1 (fun y b2 => r ρ b2 (fun ps b3 => q ((x, y) :: ps) b3) qx) qx) qx) := (rfl)
theorem e_disp {w : WP} {ρ : Rho} {b : Nat} {q : QD} {qx : QX} : wDisp w ρ b q qx = (w ρ b (fun ps b1 => dispD ps fun z => q z b1) qx) := (rfl)
theorem e_disp1 {x : Str} {d : Dt} {q : Dt → Prop} : dispD [(.str x, d)] q = (q (.dict [(.inr x, d)])) := (rfl)
theorem e_inS {k : Nat} {z : Str} {q : Dt → Prop} : inSD false (.str ⟨#[k]⟩) (.str z) q = (q (.bool (decide (k ∈ z.cps.toList)))) := (rfl)
theorem e_notInS {k : Nat} {z : Str} {q : Dt → Prop} : inSD true (.str ⟨#[k]⟩) (.str z) q = (q (.bool (!decide (k ∈ z.cps.toList)))) := (rfl)
theorem e_lenSc {i : Nat} {ρ : Rho} {b : Nat} {q : QD} {qx : QX} : wLenSc i ρ b q qx = (match at_ ρ i with | some (.sc n) => q (.int (n : Nat)) b | _ => False) := (rfl)
theorem e_iSeq {w : WE} {ρ : Rho} {b : Nat} {q : List Dt → Nat → Prop} {qx : QX} : wiSeq w ρ b q qx = (w ρ b (fun d b1 => seqD d fun ds => q ds b1) qx) := (rfl)
theorem e_iR1 {ws : WA} {ρ : Rho} {b : Nat} {q : List Dt → Nat → Prop} {qx : QX} : wiR1 ws ρ b q qx = (ws ρ b (fun ds b1 => rng1D ds fun es => q es b1) qx) := (rfl)
theorem e_iR2 {ws : WA} {ρ : Rho} {b : Nat} {q : List Dt → Nat → Prop} {qx : QX} : wiR2 ws ρ b q qx = (ws ρ b (fun ds b1 => rng2D ds fun es => q es b1) qx) := (rfl)
theorem e_iEnum {ws : WA} {ρ : Rho} {b : Nat} {q : List Dt → Nat → Prop} {qx : QX} : wiEnum ws ρ b q qx = (ws ρ b (fun ds b1 => enumsD ds fun es => q es b1) qx) := (rfl)
theorem e_iEnumA {ws : WA} {ρ : Rho} {b : Nat} {q : List Dt → Nat → Prop} {qx : QX} : wiEnumA ws ρ b q qx = (ws ρ b (fun ds b1 => enumsAD ds fun es => q es b1) qx) := (rfl)
theorem e_iZip {ws : WA} {ρ : Rho} {b : Nat} {q : List Dt → Nat → Prop} {qx : QX} : wiZip ws ρ b q qx = (ws ρ b (fun ds b1 => zipsD ds fun es => q es b1) qx) := (rfl)
theorem e_gName {i : Nat} {d : Dt} {ρ : Rho} {k : Rho → Prop} : wgName i d ρ k = (k (put ρ i (some (.sh d)))) := (rfl)
theorem e_gNil {ds : List Dt} {ρ : Rho} {k : Rho → Prop} : wgNil ds ρ k = (match ds with | [] => k ρ | _ => False) := (rfl)
theorem e_gCons {g : WG} {gs : WGs} {ds : List Dt} {ρ : Rho} {k : Rho → Prop} : wgCons g gs ds ρ k = (match ds with | d :: ds => g d ρ fun ρ2 => gs ds ρ2 k | [] => False) := (rfl)
theorem e_gTup1 {gs : WGs} {d0 : Dt} {ρ : Rho} {k : Rho → Prop} : wgTup 1 gs (.tuple [d0]) ρ k = (gs [d0] ρ k) := (rfl)
theorem e_gLst1 {gs : WGs} {d0 : Dt} {ρ : Rho} {k : Rho → Prop} : wgLst 1 gs (.list [d0]) ρ k = (gs [d0] ρ k) := (rfl)
theorem e_gTup2 {gs : WGs} {d0 d1 : Dt} {ρ : Rho} {k : Rho → Prop} : wgTup 2 gs (.tuple [d0, d1]) ρ k = (gs [d0, d1] ρ k) := (rfl)
theorem e_gLst2 {gs : WGs} {d0 d1 : Dt} {ρ : Rho} {k : Rho → Prop} : wgLst 2 gs (.list [d0, d1]) ρ k = (gs [d0, d1] ρ k) := (rfl)
theorem e_gTup3 {gs : WGs} {d0 d1 d2 : Dt} {ρ : Rho} {k : Rho → Prop} : wgTup 3 gs (.tuple [d0, d1, d2]) ρ k = (gs [d0, d1, d2] ρ k) := (rfl)
theorem e_gLst3 {gs : WGs} {d0 d1 d2 : Dt} {ρ : Rho} {k : Rho → Prop} : wgLst 3 gs (.list [d0, d1, d2]) ρ k = (gs [d0, d1, d2] ρ k) := (rfl)
theorem e_gTup4 {gs : WGs} {d0 d1 d2 d3 : Dt} {ρ : Rho} {k : Rho → Prop} : wgTup 4 gs (.tuple [d0, d1, d2, d3]) ρ k = (gs [d0, d1, d2, d3] ρ k) := (rfl)
theorem e_gLst4 {gs : WGs} {d0 d1 d2 d3 : Dt} {ρ : Rho} {k : Rho → Prop} : wgLst 4 gs (.list [d0, d1, d2, d3]) ρ k = (gs [d0, d1, d2, d3] ρ k) := (rfl)
theorem e_gTup5 {gs : WGs} {d0 d1 d2 d3 d4 : Dt} {ρ : Rho} {k : Rho → Prop} : wgTup 5 gs (.tuple [d0, d1, d2, d3, d4]) ρ k = (gs [d0, d1, d2, d3, d4] ρ k) := (rfl)
theorem e_gLst5 {gs : WGs} {d0 d1 d2 d3 d4 : Dt} {ρ : Rho} {k : Rho → Prop} : wgLst 5 gs (.list [d0, d1, d2, d3, d4]) ρ k = (gs [d0, d1, d2, d3, d4] ρ k) := (rfl)
theorem e_next {D : WEnds} {ρ : Rho} {b : Nat} : wNext D ρ b = (D.nx ρ b) := (rfl)
theorem e_ret {w : WE} {D : WEnds} {ρ : Rho} {b : Nat} : wRet w D ρ b = (w ρ b D.rt D.ex) := (rfl)
theorem e_retN {D : WEnds} {ρ : Rho} {b : Nat} : wRetN D ρ b = (D.rt .none b) := (rfl)
theorem e_ifS {wt : WT} {w u : WS} {D : WEnds} {ρ : Rho} {b : Nat} : wIfS wt w u D ρ b = (wt ρ b (fun k b1 => br k (w D ρ b1) (u D ρ b1)) D.ex) := (rfl)
theorem e_drop {w : WE} {D : WEnds} {ρ : Rho} {b : Nat} : wDrop w D ρ b = (w ρ b (fun _ b1 => D.nx ρ b1) D.ex) := (rfl)
theorem e_break {D : WEnds} {ρ : Rho} {b : Nat} : wBreak D ρ b = (D.bk ρ b) := (rfl)
theorem e_cont {D : WEnds} {ρ : Rho} {b : Nat} : wCont D ρ b = (D.ct ρ b) := (rfl)
theorem e_asg {w : WE} {g : WG} {D : WEnds} {ρ : Rho} {b : Nat} : wAsg w g D ρ b = (w ρ b (fun d b1 => g d ρ fun ρ2 => D.nx ρ2 b1) D.ex) := (rfl)
theorem e_asgN {w : WE} {i : Nat} {D : WEnds} {ρ : Rho} {b : Nat} : wAsgN w i D ρ b = (w ρ b (fun d b1 => D.nx (put ρ i (some (.ow d))) b1) D.ex) := (rfl)
theorem e_frz {w : WS} {i : Nat} {D : WEnds} {ρ : Rho} {b : Nat} : wFrz i w D ρ b = (match at_ ρ i with | some (.ow d) => w D (put ρ i (some (.sh d))) b | _ => False) := (rfl)
theorem e_mNil {ρ : Rho} {b : Nat} {q : List Sv → Nat → Prop} {qx : QX} : wMNil ρ b q qx = (q [] b) := (rfl)
theorem e_mSh {w : WE} {ws : WM} {ρ : Rho} {b : Nat} {q : List Sv → Nat → Prop} {qx : QX} : wMSh w ws ρ b q qx = (w ρ b (fun d b1 => ws ρ b1 (fun ss b2 => q (.sh d :: ss) b2) qx) qx) := (rfl)
theorem e_mOw {w : WE} {ws : WM} {ρ : Rho} {b : Nat} {q : List Sv → Nat → Prop} {qx : QX} : wMOw w ws ρ b q qx = (w ρ b (fun d b1 => ws ρ b1 (fun ss b2 => q (.ow d :: ss) b2) qx) qx) := (rfl)
theorem e_parM2 {D : WEnds} {ρ : Rho} {b : Nat} {i0 i1 : Nat} {ws : WM} : wParM [i0, i1] ws D ρ b = ws ρ b (fun ss b1 => parD [i0, i1] ss ρ fun ρ2 => D.nx ρ2 b1) D.ex := (rfl)
theorem e_parE2 {i0 i1 : Nat} {x0 x1 : Sv} {ρ : Rho} {k : Rho → Prop} : parD [i0, i1] [x0, x1] ρ k = k (put (put (ρ) i0 (some x0)) i1 (some x1)) := propext ⟨fun h => h.2, fun h => ⟨rfl, h⟩⟩
theorem e_parM3 {D : WEnds} {ρ : Rho} {b : Nat} {i0 i1 i2 : Nat} {ws : WM} : wParM [i0, i1, i2] ws D ρ b = ws ρ b (fun ss b1 => parD [i0, i1, i2] ss ρ fun ρ2 => D.nx ρ2 b1) D.ex := (rfl)
theorem e_parE3 {i0 i1 i2 : Nat} {x0 x1 x2 : Sv} {ρ : Rho} {k : Rho → Prop} : parD [i0, i1, i2] [x0, x1, x2] ρ k = k (put (put (put (ρ) i0 (some x0)) i1 (some x1)) i2 (some x2)) := propext ⟨fun h => h.2, fun h => ⟨rfl, h⟩⟩
theorem e_parM4 {D : WEnds} {ρ : Rho} {b : Nat} {i0 i1 i2 i3 : Nat} {ws : WM} : wParM [i0, i1, i2, i3] ws D ρ b = ws ρ b (fun ss b1 => parD [i0, i1, i2, i3] ss ρ fun ρ2 => D.nx ρ2 b1) D.ex := (rfl)
theorem e_parE4 {i0 i1 i2 i3 : Nat} {x0 x1 x2 x3 : Sv} {ρ : Rho} {k : Rho → Prop} : parD [i0, i1, i2, i3] [x0, x1, x2, x3] ρ k = k (put (put (put (put (ρ) i0 (some x0)) i1 (some x1)) i2 (some x2)) i3 (some x3)) := propext ⟨fun h => h.2, fun h => ⟨rfl, h⟩⟩
theorem e_append {w : WE} {i : Nat} {D : WEnds} {ρ : Rho} {b : Nat} : wAppend i w D ρ b = (match at_ ρ i with | some (.ow (.list ds)) => w ρ b (fun d b1 => ds.length < 100000 ∧ D.nx (put ρ i (some (.ow (.list (ds ++ [d]))))) b1) D.ex | _ => False) := (rfl)
theorem e_for {wi : WA} {g : WG} {w : WS} {D : WEnds} {ρ : Rho} {b : Nat} : wFor wi g w D ρ b = (wi ρ b (fun ds b1 => forW g w D ds ρ b1) D.ex) := (rfl)
theorem e_dput {i : Nat} {wk we : WE} {D : WEnds} {ρ : Rho} {b : Nat} : wDPut i wk we D ρ b = (match at_ ρ i with | some (.ow (.dict ds)) => we ρ b (fun d b1 => wk ρ b1 (fun k b2 => match keyD k with | some key => ds.length < 100000 ∧ D.nx (put ρ i (some (.ow (.dict (kvPut ds key d))))) b2 | Option.none => False) D.ex) D.ex | _ => False) := (rfl)
theorem e_setL {i : Nat} {wk we : WE} {D : WEnds} {ρ : Rho} {b : Nat} : wSetL i wk we D ρ b = (match at_ ρ i with | some (.ow (.list ds)) => we ρ b (fun d b1 => wk ρ b1 (fun k b2 => setLD ds k d fun ds2 => D.nx (put ρ i (some (.ow (.list ds2)))) b2) D.ex) D.ex | _ => False) := (rfl)
theorem e_raiseP {x : Str} {D : WEnds} {ρ : Rho} {b : Nat} : wRaiseP x D ρ b = (D.ex ⟨x, []⟩ b) := (rfl)
theorem e_raiseF {x f : Str} {w : WE} {D : WEnds} {ρ : Rho} {b : Nat} : wRaiseF x f w D ρ b = (w ρ b (fun d b1 => D.ex ⟨x, [(f, d)]⟩ b1) D.ex) := (rfl)
theorem e_br1 {A B : Prop} : br true A B = (A) := (rfl)
theorem e_br0 {A B : Prop} : br false A B = (B) := (rfl)
theorem e_addI {i j : Int} {q : Dt → Prop} : addD (.int i) (.int j) q = (q (.int (i + j))) := (rfl)
theorem e_subI {i j : Int} {q : Dt → Prop} : subD (.int i) (.int j) q = (q (.int (i - j))) := (rfl)
theorem e_addS {x y : Str} {q : Dt → Prop} : addD (.str x) (.str y) q = (x.length + y.length ≤ 100000 ∧ q (.str (x ++ y))) := (rfl)
theorem e_addL {x y : List Dt} {q : Dt → Prop} : addD (.list x) (.list y) q = (x.length + y.length ≤ 100000 ∧ q (.list (x ++ y))) := (rfl)
theorem e_addT {x y : List Dt} {q : Dt → Prop} : addD (.tuple x) (.tuple y) q = (x.length + y.length ≤ 100000 ∧ q (.tuple (x ++ y))) := (rfl)
theorem e_mulI {i j : Int} {q : Dt → Prop} : mulD (.int i) (.int j) q = (CMul i j ∧ q (.int (i * j))) := (rfl)
theorem e_modI {i j : Int} {q : Dt → Prop} : modD (.int i) (.int j) q = (0 < j ∧ q (.int (i % j))) := (rfl)
theorem e_fdivI {i j : Int} {q : Dt → Prop} : fdivD (.int i) (.int j) q = (CDiv i j ∧ q (.int (i / j))) := (rfl)
theorem e_powI {i j : Int} {q : Dt → Prop} : powD (.int i) (.int j) q = (CPow i j ∧ q (.int (i ^ j.toNat))) := (rfl)
theorem e_revL {x : List Dt} {q : Dt → Prop} : revD (.list x) q = (q (.list x.reverse)) := (rfl)
theorem e_revT {x : List Dt} {q : Dt → Prop} : revD (.tuple x) q = (q (.tuple x.reverse)) := (rfl)
theorem e_negI {i : Int} {q : Dt → Prop} : negD (.int i) q = (q (.int (-i))) := (rfl)
theorem e_ltI {i j : Int} {q : Dt → Prop} : ltD (.int i) (.int j) q = (q (.bool (decide (i < j)))) := (rfl)
theorem e_ltS {x y : Str} {q : Dt → Prop} : ltD (.str x) (.str y) q = (q (.bool (strLt x y))) := (rfl)
theorem e_leI {i j : Int} {q : Dt → Prop} : leD (.int i) (.int j) q = (q (.bool (decide (i ≤ j)))) := (rfl)
theorem e_leS {x y : Str} {q : Dt → Prop} : leD (.str x) (.str y) q = (q (.bool (!strLt y x))) := (rfl)
theorem e_gtI {i j : Int} {q : Dt → Prop} : gtD (.int i) (.int j) q = (q (.bool (decide (j < i)))) := (rfl)
theorem e_gtS {x y : Str} {q : Dt → Prop} : gtD (.str x) (.str y) q = (q (.bool (strLt y x))) := (rfl)
theorem e_geI {i j : Int} {q : Dt → Prop} : geD (.int i) (.int j) q = (q (.bool (decide (j ≤ i)))) := (rfl)
theorem e_geS {x y : Str} {q : Dt → Prop} : geD (.str x) (.str y) q = (q (.bool (!strLt x y))) := (rfl)
theorem e_isN {d : Dt} {q : Dt → Prop} : isND d .none q = (q (.bool (isNone d))) := (rfl)
theorem e_notN {d : Dt} {q : Dt → Prop} : notND d .none q = (q (.bool (!isNone d))) := (rfl)
theorem e_lenS {x : Str} {q : Dt → Prop} : lenD [.str x] q = (x.length ≤ 100000 → q (.int (x.length : Nat))) := (rfl)
theorem e_lenL {x : List Dt} {q : Dt → Prop} : lenD [.list x] q = (x.length ≤ 100000 → q (.int (x.length : Nat))) := (rfl)
theorem e_lenT {x : List Dt} {q : Dt → Prop} : lenD [.tuple x] q = (x.length ≤ 100000 → q (.int (x.length : Nat))) := (rfl)
theorem e_max2 {i j : Int} {q : Dt → Prop} : max2D [.int i, .int j] q = (q (.int (if j > i then j else i))) := (rfl)
theorem e_min2 {i j : Int} {q : Dt → Prop} : min2D [.int i, .int j] q = (q (.int (if j < i then j else i))) := (rfl)
theorem e_tupL {x : List Dt} {q : Dt → Prop} : tupleD [.list x] q = (q (.tuple x)) := (rfl)
theorem e_tupT {x : List Dt} {q : Dt → Prop} : tupleD [.tuple x] q = (q (.tuple x)) := (rfl)
theorem e_lstL {x : List Dt} {q : Dt → Prop} : listD [.list x] q = (q (.list x)) := (rfl)
theorem e_lstT {x : List Dt} {q : Dt → Prop} : listD [.tuple x] q = (q (.list x)) := (rfl)
theorem e_slS {x : Str} {lo hi : Option Int} {q : Dt → Prop} : slA (.str x) lo hi q = (q (.str (cutS x lo hi))) := (rfl)
theorem e_slL {x : List Dt} {lo hi : Option Int} {q : Dt → Prop} : slA (.list x) lo hi q = (q (.list (cutD x lo hi))) := (rfl)
theorem e_slT {x : List Dt} {lo hi : Option Int} {q : Dt → Prop} : slA (.tuple x) lo hi q = (q (.tuple (cutD x lo hi))) := (rfl)
theorem e_int1I {i : Int} {q : Dt → Prop} : int1D [.int i] q = (q (.int i)) := (rfl)
theorem e_absI {i : Int} {q : Dt → Prop} : absD [.int i] q = (q (.int (absI i))) := (rfl)
theorem e_seqL {x : List Dt} {q : List Dt → Prop} : seqD (.list x) q = (q x) := (rfl)
theorem e_seqT {x : List Dt} {q : List Dt → Prop} : seqD (.tuple x) q = (q x) := (rfl)
theorem e_seqS {x : Str} {q : List Dt → Prop} : seqD (.str x) q = (q (signs x)) := (rfl)
theorem e_rng1 {n : Int} {q : List Dt → Prop} : rng1D [.int n] q = ((-100000 ≤ n ∧ n ≤ 100000) ∧ q (natD 0 n.toNat)) := (rfl)
theorem e_rng2 {m n : Int} {q : List Dt → Prop} : rng2D [.int m, .int n] q = (((-(2 ^ 62) ≤ m ∧ m < 2 ^ 62 ∧ -(2 ^ 62) ≤ n ∧ n < 2 ^ 62) ∧ n - m ≤ 100000) ∧ q (natD m (n - m).toNat)) := (rfl)
theorem e_enumL {x : List Dt} {q : List Dt → Prop} : enumsD [.list x] q = (q (enumD x)) := (rfl)
theorem e_enumAL {x : List Dt} {q : List Dt → Prop} : enumsAD [.list x] q = (q (enumD x)) := (rfl)
theorem e_enumAT {x : List Dt} {q : List Dt → Prop} : enumsAD [.tuple x] q = (q (enumD x)) := (rfl)
theorem e_zipL {x y : List Dt} {q : List Dt → Prop} : zipsD [.list x, .list y] q = (q (zipD x y)) := (rfl)
theorem e_none1  : isNone .none = (true) := (rfl)
theorem e_none2 {i : Int} : isNone (.int i) = (false) := (rfl)
theorem e_none3 {x : Str} : isNone (.str x) = (false) := (rfl)
theorem e_none4 {x : List Dt} : isNone (.tuple x) = (false) := (rfl)
theorem e_none5 {x : List Dt} : isNone (.list x) = (false) := (rfl)
theorem e_none6 {x : Bool} : isNone (.bool x) = (false) := (rfl)
theorem e_none7 {x : List (Key × Dt)} : isNone (.dict x) = (false) := (rfl)
theorem e_keyS {x : Str} : keyD (.str x) = (some (.inr x)) := (rfl)
theorem e_keyI {x : Int} : keyD (.int x) = (some (.inl x)) := (rfl)
theorem e_at0 { s : Option Sv} {ρ : Rho} : at_ (s :: ρ) 0 = (s) := (rfl)
theorem e_put0 { s x : Option Sv} {ρ : Rho} : put (s :: ρ) 0 x = (x :: ρ) := (rfl)
theorem e_at1 {s0 s : Option Sv} {ρ : Rho} : at_ (s0 :: s :: ρ) 1 = (s) := (rfl)
theorem e_put1 {s0 s x : Option Sv} {ρ : Rho} : put (s0 :: s :: ρ) 1 x = (s0 :: x :: ρ) := (rfl)
theorem e_at2 {s0 s1 s : Option Sv} {ρ : Rho} : at_ (s0 :: s1 :: s :: ρ) 2 = (s) := (rfl)
theorem e_put2 {s0 s1 s x : Option Sv} {ρ : Rho} : put (s0 :: s1 :: s :: ρ) 2 x = (s0 :: s1 :: x :: ρ) := (rfl)
theorem e_at3 {s0 s1 s2 s : Option Sv} {ρ : Rho} : at_ (s0 :: s1 :: s2 :: s :: ρ) 3 = (s) := (rfl)
theorem e_put3 {s0 s1 s2 s x : Option Sv} {ρ : Rho} : put (s0 :: s1 :: s2 :: s :: ρ) 3 x = (s0 :: s1 :: s2 :: x :: ρ) := (rfl)
theorem e_at4 {s0 s1 s2 s3 s : Option Sv} {ρ : Rho} : at_ (s0 :: s1 :: s2 :: s3 :: s :: ρ) 4 = (s) := (rfl)
theorem e_put4 {s0 s1 s2 s3 s x : Option Sv} {ρ : Rho} : put (s0 :: s1 :: s2 :: s3 :: s :: ρ) 4 x = (s0 :: s1 :: s2 :: s3 :: x :: ρ) := (rfl)
theorem e_at5 {s0 s1 s2 s3 s4 s : Option Sv} {ρ : Rho} : at_ (s0 :: s1 :: s2 :: s3 :: s4 :: s :: ρ) 5 = (s) := (rfl)
theorem e_put5 {s0 s1 s2 s3 s4 s x : Option Sv} {ρ : Rho} : put (s0 :: s1 :: s2 :: s3 :: s4 :: s :: ρ) 5 x = (s0 :: s1 :: s2 :: s3 :: s4 :: x :: ρ) := (rfl)
theorem e_at6 {s0 s1 s2 s3 s4 s5 s : Option Sv} {ρ : Rho} : at_ (s0 :: s1 :: s2 :: s3 :: s4 :: s5 :: s :: ρ) 6 = (s) := (rfl)
theorem e_put6 {s0 s1 s2 s3 s4 s5 s x : Option Sv} {ρ : Rho} : put (s0 :: s1 :: s2 :: s3 :: s4 :: s5 :: s :: ρ) 6 x = (s0 :: s1 :: s2 :: s3 :: s4 :: s5 :: x :: ρ) := (rfl)
theorem e_at7 {s0 s1 s2 s3 s4 s5 s6 s : Option Sv} {ρ : Rho} : at_ (s0 :: s1 :: s2 :: s3 :: s4 :: s5 :: s6 :: s :: ρ) 7 = (s) := (rfl)
theorem e_put7 {s0 s1 s2 s3 s4 s5 s6 s x : Option Sv} {ρ : Rho} : put (s0 :: s1 :: s2 :: s3 :: s4 :: s5 :: s6 :: s :: ρ) 7 x = (s0 :: s1 :: s2 :: s3 :: s4 :: s5 :: s6 :: x :: ρ) := (rfl)
theorem e_at8 {s0 s1 s2 s3 s4 s5 s6 s7 s : Option Sv} {ρ : Rho} : at_ (s0 :: s1 :: s2 :: s3 :: s4 :: s5 :: s6 :: s7 :: s :: ρ) 8 = (s) := (rfl)
theorem e_put8 {s0 s1 s2 s3 s4 s5 s6 s7 s x : Option Sv} {ρ : Rho} : put (s0 :: s1 :: s2 :: s3 :: s4 :: s5 :: s6 :: s7 :: s :: ρ) 8 x = (s0 :: s1 :: s2 :: s3 :: s4 :: s5 :: s6 :: s7 :: x :: ρ) := (rfl)
theorem e_at9 {s0 s1 s2 s3 s4 s5 s6 s7 s8 s : Option Sv} {ρ : Rho} : at_ (s0 :: s1 :: s2 :: s3 :: s4 :: s5 :: s6 :: s7 :: s8 :: s :: ρ) 9 = (s) := (rfl)
theorem e_put9 {s0 s1 s2 s3 s4 s5 s6 s7 s8 s x : Option Sv} {ρ : Rho} : put (s0 :: s1 :: s2 :: s3 :: s4 :: s5 :: s6 :: s7 :: s8 :: s :: ρ) 9 x = (s0 :: s1 :: s2 :: s3 :: s4 :: s5 :: s6 :: s7 :: s8 :: x :: ρ) := (rfl)
theorem e_at10 {s0 s1 s2 s3 s4 s5 s6 s7 s8 s9 s : Option Sv} {ρ : Rho} : at_ (s0 :: s1 :: s2 :: s3 :: s4 :: s5 :: s6 :: s7 :: s8 :: s9 :: s :: ρ) 10 = (s) := (rfl)
theorem e_put10 {s0 s1 s2 s3 s4 s5 s6 s7 s8 s9 s x : Option Sv} {ρ : Rho} : put (s0 :: s1 :: s2 :: s3 :: s4 :: s5 :: s6 :: s7 :: s8 :: s9 :: s :: ρ) 10 x = (s0 :: s1 :: s2 :: s3 :: s4 :: s5 :: s6 :: s7 :: s8 :: s9 :: x :: ρ) := (rfl)
theorem e_at11 {s0 s1 s2 s3 s4 s5 s6 s7 s8 s9 s10 s : Option Sv} {ρ : Rho} : at_ (s0 :: s1 :: s2 :: s3 :: s4 :: s5 :: s6 :: s7 :: s8 :: s9 :: s10 :: s :: ρ) 11 = (s) := (rfl)
theorem e_put11 {s0 s1 s2 s3 s4 s5 s6 s7 s8 s9 s10 s x : Option Sv} {ρ : Rho} : put (s0 :: s1 :: s2 :: s3 :: s4 :: s5 :: s6 :: s7 :: s8 :: s9 :: s10 :: s :: ρ) 11 x = (s0 :: s1 :: s2 :: s3 :: s4 :: s5 :: s6 :: s7 :: s8 :: s9 :: s10 :: x :: ρ) := (rfl)
theorem e_at12 {s0 s1 s2 s3 s4 s5 s6 s7 s8 s9 s10 s11 s : Option Sv} {ρ : Rho} : at_ (s0 :: s1 :: s2 :: s3 :: s4 :: s5 :: s6 :: s7 :: s8 :: s9 :: s10 :: s11 :: s :: ρ) 12 = (s) := (rfl)
theorem e_put12 {s0 s1 s2 s3 s4 s5 s6 s7 s8 s9 s10 s11 s x : Option Sv} {ρ : Rho} : put (s0 :: s1 :: s2 :: s3 :: s4 :: s5 :: s6 :: s7 :: s8 :: s9 :: s10 :: s11 :: s :: ρ) 12 x = (s0 :: s1 :: s2 :: s3 :: s4 :: s5 :: s6 :: s7 :: s8 :: s9 :: s10 :: s11 :: x :: ρ) := (rfl)
theorem e_at13 {s0 s1 s2 s3 s4 s5 s6 s7 s8 s9 s10 s11 s12 s : Option Sv} {ρ : Rho} : at_ (s0 :: s1 :: s2 :: s3 :: s4 :: s5 :: s6 :: s7 :: s8 :: s9 :: s10 :: s11 :: s12 :: s :: ρ) 13 = (s) := (rfl)
theorem e_put13 {s0 s1 s2 s3 s4 s5 s6 s7 s8 s9 s10 s11 s12 s x : Option Sv} {ρ : Rho} : put (s0 :: s1 :: s2 :: s3 :: s4 :: s5 :: s6 :: s7 :: s8 :: s9 :: s10 :: s11 :: s12 :: s :: ρ) 13 x = (s0 :: s1 :: s2 :: s3 :: s4 :: s5 :: s6 :: s7 :: s8 :: s9 :: s10 :: s11 :: s12 :: x :: ρ) := (rfl)
theorem e_at14 {s0 s1 s2 s3 s4 s5 s6 s7 s8 s9 s10 s11 s12 s13 s : Option Sv} {ρ : Rho} : at_ (s0 :: s1 :: s2 :: s3 :: s4 :: s5 :: s6 :: s7 :: s8 :: s9 :: s10 :: s11 :: s12 :: s13 :: s :: ρ) 14 = (s) := (rfl)
theorem e_put14 {s0 s1 s2 s3 s4 s5 s6 s7 s8 s9 s10 s11 s12 s13 s x : Option Sv} {ρ : Rho} : put (s0 :: s1 :: s2 :: s3 :: s4 :: s5 :: s6 :: s7 :: s8 :: s9 :: s10 :: s11 :: s12 :: s13 :: s :: ρ) 14 x = (s0 :: s1 :: s2 :: s3 :: s4 :: s5 :: s6 :: s7 :: s8 :: s9 :: s10 :: s11 :: s12 :: s13 :: x :: ρ) := (rfl)
theorem e_at15 {s0 s1 s2 s3 s4 s5 s6 s7 s8 s9 s10 s11 s12 s13 s14 s : Option Sv} {ρ : Rho} : at_ (s0 :: s1 :: s2 :: s3 :: s4 :: s5 :: s6 :: s7 :: s8 :: s9 :: s10 :: s11 :: s12 :: s13 :: s14 :: s :: ρ) 15 = (s) := (rfl)
theorem e_put15 {s0 s1 s2 s3 s4 s5 s6 s7 s8 s9 s10 s11 s12 s13 s14 s x : Option Sv} {ρ : Rho} : put (s0 :: s1 :: s2 :: s3 :: s4 :: s5 :: s6 :: s7 :: s8 :: s9 :: s10 :: s11 :: s12 :: s13 :: s14 :: s :: ρ) 15 x = (s0 :: s1 :: s2 :: s3 :: s4 :: s5 :: s6 :: s7 :: s8 :: s9 :: s10 :: s11 :: s12 :: s13 :: s14 :: x :: ρ) := (rfl)
theorem e_at16 {s0 s1 s2 s3 s4 s5 s6 s7 s8 s9 s10 s11 s12 s13 s14 s15 s : Option Sv} {ρ : Rho} : at_ (s0 :: s1 :: s2 :: s3 :: s4 :: s5 :: s6 :: s7 :: s8 :: s9 :: s10 :: s11 :: s12 :: s13 :: s14 :: s15 :: s :: ρ) 16 = (s) := (rfl)
theorem e_put16 {s0 s1 s2 s3 s4 s5 s6 s7 s8 s9 s10 s11 s12 s13 s14 s15 s x : Option Sv} {ρ : Rho} : put (s0 :: s1 :: s2 :: s3 :: s4 :: s5 :: s6 :: s7 :: s8 :: s9 :: s10 :: s11 :: s12 :: s13 :: s14 :: s15 :: s :: ρ) 16 x = (s0 :: s1 :: s2 :: s3 :: s4 :: s5 :: s6 :: s7 :: s8 :: s9 :: s10 :: s11 :: s12 :: s13 :: s14 :: s15 :: x :: ρ) := (rfl)
theorem e_at17 {s0 s1 s2 s3 s4 s5 s6 s7 s8 s9 s10 s11 s12 s13 s14 s15 s16 s : Option Sv} {ρ : Rho} : at_ (s0 :: s1 :: s2 :: s3 :: s4 :: s5 :: s6 :: s7 :: s8 :: s9 :: s10 :: s11 :: s12 :: s13 :: s14 :: s15 :: s16 :: s :: ρ) 17 = (s) := (rfl)
theorem e_put17 {s0 s1 s2 s3 s4 s5 s6 s7 s8 s9 s10 s11 s12 s13 s14 s15 s16 s x : Option Sv} {ρ : Rho} : put (s0 :: s1 :: s2 :: s3 :: s4 :: s5 :: s6 :: s7 :: s8 :: s9 :: s10 :: s11 :: s12 :: s13 :: s14 :: s15 :: s16 :: s :: ρ) 17 x = (s0 :: s1 :: s2 :: s3 :: s4 :: s5 :: s6 :: s7 :: s8 :: s9 :: s10 :: s11 :: s12 :: s13 :: s14 :: s15 :: s16 :: x :: ρ) := (rfl)
theorem e_at18 {s0 s1 s2 s3 s4 s5 s6 s7 s8 s9 s10 s11 s12 s13 s14 s15 s16 s17 s : Option Sv} {ρ : Rho} : at_ (s0 :: s1 :: s2 :: s3 :: s4 :: s5 :: s6 :: s7 :: s8 :: s9 :: s10 :: s11 :: s12 :: s13 :: s14 :: s15 :: s16 :: s17 :: s :: ρ) 18 = (s) := (rfl)
theorem e_put18 {s0 s1 s2 s3 s4 s5 s6 s7 s8 s9 s10 s11 s12 s13 s14 s15 s16 s17 s x : Option Sv} {ρ : Rho} : put (s0 :: s1 :: s2 :: s3 :: s4 :: s5 :: s6 :: s7 :: s8 :: s9 :: s10 :: s11 :: s12 :: s13 :: s14 :: s15 :: s16 :: s17 :: s :: ρ) 18 x = (s0 :: s1 :: s2 :: s3 :: s4 :: s5 :: s6 :: s7 :: s8 :: s9 :: s10 :: s11 :: s12 :: s13 :: s14 :: s15 :: s16 :: s17 :: x :: ρ) := (rfl)
theorem e_at19 {s0 s1 s2 s3 s4 s5 s6 s7 s8 s9 s10 s11 s12 s13 s14 s15 s16 s17 s18 s : Option Sv} {ρ : Rho} : at_ (s0 :: s1 :: s2 :: s3 :: s4 :: s5 :: s6 :: s7 :: s8 :: s9 :: s10 :: s11 :: s12 :: s13 :: s14 :: s15 :: s16 :: s17 :: s18 :: s :: ρ) 19 = (s) := (rfl)
theorem e_put19 {s0 s1 s2 s3 s4 s5 s6 s7 s8 s9 s10 s11 s12 s13 s14 s15 s16 s17 s18 s x : Option Sv} {ρ : Rho} : put (s0 :: s1 :: s2 :: s3 :: s4 :: s5 :: s6 :: s7 :: s8 :: s9 :: s10 :: s11 :: s12 :: s13 :: s14 :: s15 :: s16 :: s17 :: s18 :: s :: ρ) 19 x = (s0 :: s1 :: s2 :: s3 :: s4 :: s5 :: s6 :: s7 :: s8 :: s9 :: s10 :: s11 :: s12 :: s13 :: s14 :: s15 :: s16 :: s17 :: s18 :: x :: ρ) := (rfl)
theorem e_at20 {s0 s1 s2 s3 s4 s5 s6 s7 s8 s9 s10 s11 s12 s13 s14 s15 s16 s17 s18 s19 s : Option Sv} {ρ : Rho} : at_ (s0 :: s1 :: s2 :: s3 :: s4 :: s5 :: s6 :: s7 :: s8 :: s9 :: s10 :: s11 :: s12 :: s13 :: s14 :: s15 :: s16 :: s17 :: s18 :: s19 :: s :: ρ) 20 = (s) := (rfl)
theorem e_put20 {s0 s1 s2 s3 s4 s5 s6 s7 s8 s9 s10 s11 s12 s13 s14 s15 s16 s17 s18 s19 s x : Option Sv} {ρ : Rho} : put (s0 :: s1 :: s2 :: s3 :: s4 :: s5 :: s6 :: s7 :: s8 :: s9 :: s10 :: s11 :: s12 :: s13 :: s14 :: s15 :: s16 :: s17 :: s18 :: s19 :: s :: ρ) 20 x = (s0 :: s1 :: s2 :: s3 :: s4 :: s5 :: s6 :: s7 :: s8 :: s9 :: s10 :: s11 :: s12 :: s13 :: s14 :: s15 :: s16 :: s17 :: s18 :: s19 :: x :: ρ) := (rfl)
theorem e_at21 {s0 s1 s2 s3 s4 s5 s6 s7 s8 s9 s10 s11 s12 s13 s14 s15 s16 s17 s18 s19 s20 s : Option Sv} {ρ : Rho} : at_ (s0 :: s1 :: s2 :: s3 :: s4 :: s5 :: s6 :: s7 :: s8 :: s9 :: s10 :: s11 :: s12 :: s13 :: s14 :: s15 :: s16 :: s17 :: s18 :: s19 :: s20 :: s :: ρ) 21 = (s) := (rfl)
theorem e_put21 {s0 s1 s2 s3 s4 s5 s6 s7 s8 s9 s10 s11 s12 s13 s14 s15 s16 s17 s18 s19 s20 s x : Option Sv} {ρ : Rho} : put (s0 :: s1 :: s2 :: s3 :: s4 :: s5 :: s6 :: s7 :: s8 :: s9 :: s10 :: s11 :: s12 :: s13 :: s14 :: s15 :: s16 :: s17 :: s18 :: s19 :: s20 :: s :: ρ) 21 x = (s0 :: s1 :: s2 :: s3 :: s4 :: s5 :: s6 :: s7 :: s8 :: s9 :: s10 :: s11 :: s12 :: s13 :: s14 :: s15 :: s16 :: s17 :: s18 :: s19 :: s20 :: x :: ρ) := (rfl)
theorem e_at22 {s0 s1 s2 s3 s4 s5 s6 s7 s8 s9 s10 s11 s12 s13 s14 s15 s16 s17 s18 s19 s20 s21 s : Option Sv} {ρ : Rho} : at_ (s0 :: s1 :: s2 :: s3 :: s4 :: s5 :: s6 :: s7 :: s8 :: s9 :: s10 :: s11 :: s12 :: s13 :: s14 :: s15 :: s16 :: s17 :: s18 :: s19 :: s20 :: s21 :: s :: ρ) 22 = (s) := (rfl)
theorem e_put22 {s0 s1 s2 s3 s4 s5 s6 s7 s8 s9 s10 s11 s12 s13 s14 s15 s16 s17 s18 s19 s20 s21 s x : Option Sv} {ρ : Rho} : put (s0 :: s1 :: s2 :: s3 :: s4 :: s5 :: s6 :: s7 :: s8 :: s9 :: s10 :: s11 :: s12 :: s13 :: s14 :: s15 :: s16 :: s17 :: s18 :: s19 :: s20 :: s21 :: s :: ρ) 22 x = (s0 :: s1 :: s2 :: s3 :: s4 :: s5 :: s6 :: s7 :: s8 :: s9 :: s10 :: s11 :: s12 :: s13 :: s14 :: s15 :: s16 :: s17 :: s18 :: s19 :: s20 :: s21 :: x :: ρ) := (rfl)
theorem e_at23 {s0 s1 s2 s3 s4 s5 s6 s7 s8 s9 s10 s11 s12 s13 s14 s15 s16 s17 s18 s19 s20 s21 s22 s : Option Sv} {ρ : Rho} : at_ (s0 :: s1 :: s2 :: s3 :: s4 :: s5 :: s6 :: s7 :: s8 :: s9 :: s10 :: s11 :: s12 :: s13 :: s14 :: s15 :: s16 :: s17 :: s18 :: s19 :: s20 :: s21 :: s22 :: s :: ρ) 23 = (s) := (rfl)
theorem e_put23 {s0 s1 s2 s3 s4 s5 s6 s7 s8 s9 s10 s11 s12 s13 s14 s15 s16 s17 s18 s19 s20 s21 s22 s x : Option Sv} {ρ : Rho} : put (s0 :: s1 :: s2 :: s3 :: s4 :: s5 :: s6 :: s7 :: s8 :: s9 :: s10 :: s11 :: s12 :: s13 :: s14 :: s15 :: s16 :: s17 :: s18 :: s19 :: s20 :: s21 :: s22 :: s :: ρ) 23 x = (s0 :: s1 :: s2 :: s3 :: s4 :: s5 :: s6 :: s7 :: s8 :: s9 :: s10 :: s11 :: s12 :: s13 :: s14 :: s15 :: s16 :: s17 :: s18 :: s19 :: s20 :: s21 :: s22 :: x :: ρ) := (rfl)
theorem e_at24 {s0 s1 s2 s3 s4 s5 s6 s7 s8 s9 s10 s11 s12 s13 s14 s15 s16 s17 s18 s19 s20 s21 s22 s23 s : Option Sv} {ρ : Rho} : at_ (s0 :: s1 :: s2 :: s3 :: s4 :: s5 :: s6 :: s7 :: s8 :: s9 :: s10 :: s11 :: s12 :: s13 :: s14 :: s15 :: s16 :: s17 :: s18 :: s19 :: s20 :: s21 :: s22 :: s23 :: s :: ρ) 24 = (s) := (rfl)
theorem e_put24 {s0 s1 s2 s3 s4 s5 s6 s7 s8 s9 s10 s11 s12 s13 s14 s15 s16 s17 s18 s19 s20 s21 s22 s23 s x : Option Sv} {ρ : Rho} : put (s0 :: s1 :: s2 :: s3 :: s4 :: s5 :: s6 :: s7 :: s8 :: s9 :: s10 :: s11 :: s12 :: s13 :: s14 :: s15 :: s16 :: s17 :: s18 :: s19 :: s20 :: s21 :: s22 :: s23 :: s :: ρ) 24 x = (s0 :: s1 :: s2 :: s3 :: s4 :: s5 :: s6 :: s7 :: s8 :: s9 :: s10 :: s11 :: s12 :: s13 :: s14 :: s15 :: s16 :: s17 :: s18 :: s19 :: s20 :: s21 :: s22 :: s23 :: x :: ρ) := (rfl)
theorem e_at25 {s0 s1 s2 s3 s4 s5 s6 s7 s8 s9 s10 s11 s12 s13 s14 s15 s16 s17 s18 s19 s20 s21 s22 s23 s24 s : Option Sv} {ρ : Rho} : at_ (s0 :: s1 :: s2 :: s3 :: s4 :: s5 :: s6 :: s7 :: s8 :: s9 :: s10 :: s11 :: s12 :: s13 :: s14 :: s15 :: s16 :: s17 :: s18 :: s19 :: s20 :: s21 :: s22 :: s23 :: s24 :: s :: ρ) 25 = (s) := (rfl)
theorem e_put25 {s0 s1 s2 s3 s4 s5 s6 s7 s8 s9 s10 s11 s12 s13 s14 s15 s16 s17 s18 s19 s20 s21 s22 s23 s24 s x : Option Sv} {ρ : Rho} : put (s0 :: s1 :: s2 :: s3 :: s4 :: s5 :: s6 :: s7 :: s8 :: s9 :: s10 :: s11 :: s12 :: s13 :: s14 :: s15 :: s16 :: s17 :: s18 :: s19 :: s20 :: s21 :: s22 :: s23 :: s24 :: s :: ρ) 25 x = (s0 :: s1 :: s2 :: s3 :: s4 :: s5 :: s6 :: s7 :: s8 :: s9 :: s10 :: s11 :: s12 :: s13 :: s14 :: s15 :: s16 :: s17 :: s18 :: s19 :: s20 :: s21 :: s22 :: s23 :: s24 :: x :: ρ) := (rfl)
theorem e_at26 {s0 s1 s2 s3 s4 s5 s6 s7 s8 s9 s10 s11 s12 s13 s14 s15 s16 s17 s18 s19 s20 s21 s22 s23 s24 s25 s : Option Sv} {ρ : Rho} : at_ (s0 :: s1 :: s2 :: s3 :: s4 :: s5 :: s6 :: s7 :: s8 :: s9 :: s10 :: s11 :: s12 :: s13 :: s14 :: s15 :: s16 :: s17 :: s18 :: s19 :: s20 :: s21 :: s22 :: s23 :: s24 :: s25 :: s :: ρ) 26 = (s) := (rfl)
theorem e_put26 {s0 s1 s2 s3 s4 s5 s6 s7 s8 s9 s10 s11 s12 s13 s14 s15 s16 s17 s18 s19 s20 s21 s22 s23 s24 s25 s x : Option Sv} {ρ : Rho} : put (s0 :: s1 :: s2 :: s3 :: s4 :: s5 :: s6 :: s7 :: s8 :: s9 :: s10 :: s11 :: s12 :: s13 :: s14 :: s15 :: s16 :: s17 :: s18 :: s19 :: s20 :: s21 :: s22 :: s23 :: s24 :: s25 :: s :: ρ) 26 x = (s0 :: s1 :: s2 :: s3 :: s4 :: s5 :: s6 :: s7 :: s8 :: s9 :: s10 :: s11 :: s12 :: s13 :: s14 :: s15 :: s16 :: s17 :: s18 :: s19 :: s20 :: s21 :: s22 :: s23 :: s24 :: s25 :: x :: ρ) := (rfl)
theorem e_at27 {s0 s1 s2 s3 s4 s5 s6 s7 s8 s9 s10 s11 s12 s13 s14 s15 s16 s17 s18 s19 s20 s21 s22 s23 s24 s25 s26 s : Option Sv} {ρ : Rho} : at_ (s0 :: s1 :: s2 :: s3 :: s4 :: s5 :: s6 :: s7 :: s8 :: s9 :: s10 :: s11 :: s12 :: s13 :: s14 :: s15 :: s16 :: s17 :: s18 :: s19 :: s20 :: s21 :: s22 :: s23 :: s24 :: s25 :: s26 :: s :: ρ) 27 = (s) := (rfl)
theorem e_put27 {s0 s1 s2 s3 s4 s5 s6 s7 s8 s9 s10 s11 s12 s13 s14 s15 s16 s17 s18 s19 s20 s21 s22 s23 s24 s25 s26 s x : Option Sv} {ρ : Rho} : put (s0 :: s1 :: s2 :: s3 :: s4 :: s5 :: s6 :: s7 :: s8 :: s9 :: s10 :: s11 :: s12 :: s13 :: s14 :: s15 :: s16 :: s17 :: s18 :: s19 :: s20 :: s21 :: s22 :: s23 :: s24 :: s25 :: s26 :: s :: ρ) 27 x = (s0 :: s1 :: s2 :: s3 :: s4 :: s5 :: s6 :: s7 :: s8 :: s9 :: s10 :: s11 :: s12 :: s13 :: s14 :: s15 :: s16 :: s17 :: s18 :: s19 :: s20 :: s21 :: s22 :: s23 :: s24 :: s25 :: s26 :: x :: ρ) := (rfl)
theorem e_at28 {s0 s1 s2 s3 s4 s5 s6 s7 s8 s9 s10 s11 s12 s13 s14 s15 s16 s17 s18 s19 s20 s21 s22 s23 s24 s25 s26 s27 s : Option Sv} {ρ : Rho} : at_ (s0 :: s1 :: s2 :: s3 :: s4 :: s5 :: s6 :: s7 :: s8 :: s9 :: s10 :: s11 :: s12 :: s13 :: s14 :: s15 :: s16 :: s17 :: s18 :: s19 :: s20 :: s21 :: s22 :: s23 :: s24 :: s25 :: s26 :: s27 :: s :: ρ) 28 = (s) := (rfl)
theorem e_put28 {s0 s1 s2 s3 s4 s5 s6 s7 s8 s9 s10 s11 s12 s13 s14 s15 s16 s17 s18 s19 s20 s21 s22 s23 s24 s25 s26 s27 s x : Option Sv} {ρ : Rho} : put (s0 :: s1 :: s2 :: s3 :: s4 :: s5 :: s6 :: s7 :: s8 :: s9 :: s10 :: s11 :: s12 :: s13 :: s14 :: s15 :: s16 :: s17 :: s18 :: s19 :: s20 :: s21 :: s22 :: s23 :: s24 :: s25 :: s26 :: s27 :: s :: ρ) 28 x = (s0 :: s1 :: s2 :: s3 :: s4 :: s5 :: s6 :: s7 :: s8 :: s9 :: s10 :: s11 :: s12 :: s13 :: s14 :: s15 :: s16 :: s17 :: s18 :: s19 :: s20 :: s21 :: s22 :: s23 :: s24 :: s25 :: s26 :: s27 :: x :: ρ) := (rfl)
theorem e_at29 {s0 s1 s2 s3 s4 s5 s6 s7 s8 s9 s10 s11 s12 s13 s14 s15 s16 s17 s18 s19 s20 s21 s22 s23 s24 s25 s26 s27 s28 s : Option Sv} {ρ : Rho} : at_ (s0 :: s1 :: s2 :: s3 :: s4 :: s5 :: s6 :: s7 :: s8 :: s9 :: s10 :: s11 :: s12 :: s13 :: s14 :: s15 :: s16 :: s17 :: s18 :: s19 :: s20 :: s21 :: s22 :: s23 :: s24 :: s25 :: s26 :: s27 :: s28 :: s :: ρ) 29 = (s) := (rfl)
theorem e_put29 {s0 s1 s2 s3 s4 s5 s6 s7 s8 s9 s10 s11 s12 s13 s14 s15 s16 s17 s18 s19 s20 s21 s22 s23 s24 s25 s26 s27 s28 s x : Option Sv} {ρ : Rho} : put (s0 :: s1 :: s2 :: s3 :: s4 :: s5 :: s6 :: s7 :: s8 :: s9 :: s10 :: s11 :: s12 :: s13 :: s14 :: s15 :: s16 :: s17 :: s18 :: s19 :: s20 :: s21 :: s22 :: s23 :: s24 :: s25 :: s26 :: s27 :: s28 :: s :: ρ) 29 x = (s0 :: s1 :: s2 :: s3 :: s4 :: s5 :: s6 :: s7 :: s8 :: s9 :: s10 :: s11 :: s12 :: s13 :: s14 :: s15 :: s16 :: s17 :: s18 :: s19 :: s20 :: s21 :: s22 :: s23 :: s24 :: s25 :: s26 :: s27 :: s28 :: x :: ρ) := (rfl)
theorem e_wipe0 {ρ : Rho} : wipeR ρ [] = (ρ) := (rfl)
theorem e_wipe1 {ρ : Rho} {v : Nat} {vs : List Nat} : wipeR ρ (v :: vs) = (put (wipeR ρ vs) v none) := (rfl)
theorem e_isi_int_none  : isiD .int (.none) = (some false) := (rfl)
theorem e_isi_int_bool {x : Bool} : isiD .int (.bool x) = (some true) := (rfl)
theorem e_isi_int_int {x : Int} : isiD .int (.int x) = (some true) := (rfl)
theorem e_isi_int_str {x : Str} : isiD .int (.str x) = (some false) := (rfl)
theorem e_isi_int_list {x : List Dt} : isiD .int (.list x) = (some false) := (rfl)
theorem e_isi_int_tuple {x : List Dt} : isiD .int (.tuple x) = (some false) := (rfl)
theorem e_isi_int_dict {x : List (Key × Dt)} : isiD .int (.dict x) = (some false) := (rfl)
theorem e_isi_bool_none  : isiD .bool (.none) = (some false) := (rfl)
theorem e_isi_bool_bool {x : Bool} : isiD .bool (.bool x) = (some true) := (rfl)
theorem e_isi_bool_int {x : Int} : isiD .bool (.int x) = (some false) := (rfl)
theorem e_isi_bool_str {x : Str} : isiD .bool (.str x) = (some false) := (rfl)
theorem e_isi_bool_list {x : List Dt} : isiD .bool (.list x) = (some false) := (rfl)
theorem e_isi_bool_tuple {x : List Dt} : isiD .bool (.tuple x) = (some false) := (rfl)
theorem e_isi_bool_dict {x : List (Key × Dt)} : isiD .bool (.dict x) = (some false) := (rfl)
theorem e_isi_str_none  : isiD .str (.none) = (some false) := (rfl)
theorem e_isi_str_bool {x : Bool} : isiD .str (.bool x) = (some false) := (rfl)
theorem e_isi_str_int {x : Int} : isiD .str (.int x) = (some false) := (rfl)
theorem e_isi_str_str {x : Str} : isiD .str (.str x) = (some true) := (rfl)
theorem e_isi_str_list {x : List Dt} : isiD .str (.list x) = (some false) := (rfl)
theorem e_isi_str_tuple {x : List Dt} : isiD .str (.tuple x) = (some false) := (rfl)
theorem e_isi_str_dict {x : List (Key × Dt)} : isiD .str (.dict x) = (some false) := (rfl)
theorem e_isi_list_none  : isiD .list (.none) = (some false) := (rfl)
theorem e_isi_list_bool {x : Bool} : isiD .list (.bool x) = (some false) := (rfl)
theorem e_isi_list_int {x : Int} : isiD .list (.int x) = (some false) := (rfl)
theorem e_isi_list_str {x : Str} : isiD .list (.str x) = (some false) := (rfl)
theorem e_isi_list_list {x : List Dt} : isiD .list (.list x) = (some true) := (rfl)
theorem e_isi_list_tuple {x : List Dt} : isiD .list (.tuple x) = (some false) := (rfl)
theorem e_isi_list_dict {x : List (Key × Dt)} : isiD .list (.dict x) = (some false) := (rfl)
theorem e_isi_tuple_none  : isiD .tuple (.none) = (some false) := (rfl)
theorem e_isi_tuple_bool {x : Bool} : isiD .tuple (.bool x) = (some false) := (rfl)
theorem e_isi_tuple_int {x : Int} : isiD .tuple (.int x) = (some false) := (rfl)
theorem e_isi_tuple_str {x : Str} : isiD .tuple (.str x) = (some false) := (rfl)
theorem e_isi_tuple_list {x : List Dt} : isiD .tuple (.list x) = (some false) := (rfl)
theorem e_isi_tuple_tuple {x : List Dt} : isiD .tuple (.tuple x) = (some true) := (rfl)
theorem e_isi_tuple_dict {x : List (Key × Dt)} : isiD .tuple (.dict x) = (some false) := (rfl)
theorem e_isi_dict_none  : isiD .dict (.none) = (some false) := (rfl)
theorem e_isi_dict_bool {x : Bool} : isiD .dict (.bool x) = (some false) := (rfl)
theorem e_isi_dict_int {x : Int} : isiD .dict (.int x) = (some false) := (rfl)
theorem e_isi_dict_str {x : Str} : isiD .dict (.str x) = (some false) := (rfl)
theorem e_isi_dict_list {x : List Dt} : isiD .dict (.list x) = (some false) := (rfl)
theorem e_isi_dict_tuple {x : List Dt} : isiD .dict (.tuple x) = (some false) := (rfl)
theorem e_isi_dict_dict {x : List (Key × Dt)} : isiD .dict (.dict x) = (some true) := (rfl)
end Dw
set_option Elab.async false
set_option linter.all false
set_option maxRecDepth 100000
set_option maxHeartbeats 4000000
namespace Cn
open PySem PySem.Spec PyProof.Rows L2
abbrev nlt (x y : Str) : Prop := x.cps.toList < y.cps.toList
theorem nlt_irr (x : Str) : ¬ nlt x x := List.lt_irrefl _
section
variable {α : Type}
def Asc (l : List (Str × α)) : Prop := (l.map (·.1)).Pairwise nlt
theorem Asc.nd {l : List (Str × α)} (h : Asc l) : (l.map (·.1)).Nodup := List.Pairwise.imp (fun {x y} (h : nlt x y) (e : x = y) => nlt_irr y (by rw [e] at h; exact h)) h
end
def free (a : Plan) : Lim := a.map fun q => (q.1, none)
end Cn
set_option Elab.async false
set_option linter.all false
set_option maxRecDepth 100000
set_option maxHeartbeats 4000000
namespace Dw
open PySem PySem.Spec PyProof.Rows L2 Cn LamX
section
variable {α : Type} [DecidableEq α] [PySem.W.DatumOrd α]
def leO (a b : α) : Bool := !PySem.W.DatumOrd.lt b a
theorem i_sortedA {f : α → Dt} (hf : ∀ a, (f a).pl = some (PySem.W.Datum.toD a)) {xs : List α} {q : Dt → Prop} (hd : ∀ a ∈ xs, (PySem.W.Datum.toD a).depth ≤ 60) (hs : PySem.W.Sortable (xs.map PySem.W.Datum.toD)) (h : q (.list ((xs.mergeSort leO).map f))) : sortedD [.list (xs.map f)] q := by
  have he : ∀ a, encD (f a) = PySem.W.Datum.toD a := fun a => by unfold encD; rw [hf a]; rfl
  have em : (xs.map f).map encD = xs.map PySem.W.Datum.toD := by
    rw [List.map_map]
    exact List.map_congr_left fun a _ => he a
  have e : (xs.map f).mergeSort leS = (xs.mergeSort leO).map f := by
    refine (List.map_mergeSort (fun a _ b _ => ?_)).symm
    show leO a b = !PySem.W.dataLt (encD (f b)) (encD (f a))
    rw [he, he, PySem.W.DatumOrd.lt_eq]
    rfl
  refine ⟨⟨fun d hd' => ?_, ?_, ?_⟩, ?_⟩
  · obtain ⟨a, ha, rfl⟩ := List.mem_map.mp hd'
    exact ⟨by rw [hf a]; rfl, by rw [he a]; exact hd a ha⟩
  · rw [em]
    intro d hd1 d' hd2
    obtain ⟨a, _, rfl⟩ := List.mem_map.mp hd1
    obtain ⟨b, _, rfl⟩ := List.mem_map.mp hd2
    exact PySem.W.DatumOrd.alike a b
  · rw [em]
    exact hs
  · rw [e]
    exact h
end
theorem plAll_map {α : Type} {f : α → Dt} {g : α → PyData} (h : ∀ a, (f a).pl = some (g a)) : ∀ l : List α, plAll (l.map f) = some (l.map g)
  | [] => rfl
  | a :: l => by
    show (match (f a).pl, plAll (l.map f) with | some y, some ys => some (y :: ys) | _, _ => none) = _
    rw [h a, plAll_map h l]
    rfl
theorem pl_tuple {ds : List Dt} {es : List PyData} (h : plAll ds = some es) : (Dt.tuple ds).pl = some (.tuple es) := by
  show (plAll ds).map PyData.tuple = _
  rw [h]
  rfl
theorem pl_list {ds : List Dt} {es : List PyData} (h : plAll ds = some es) : (Dt.list ds).pl = some (.list es) := by
  show (plAll ds).map PyData.list = _
  rw [h]
  rfl
end Dw
set_option Elab.async false
set_option linter.all false
set_option maxRecDepth 100000
set_option maxHeartbeats 4000000
namespace Dw
open PySem PySem.Spec PyProof.Rows L2 Cn LamX
/-- typed values as data -/
class Enc (α : Type) [DecidableEq α] [PySem.W.Datum α] where
  dt : α → Dt
  pl : ∀ a, (dt a).pl = some (PySem.W.Datum.toD a)
open PySem.W (Datum)
instance : Enc Int := ⟨.int, fun _ => rfl⟩
instance : Enc Bool := ⟨.bool, fun _ => rfl⟩
instance : Enc Str := ⟨.str, fun _ => rfl⟩
instance : Enc Unit := ⟨fun _ => .none, fun _ => rfl⟩
section
variable {α β : Type} [DecidableEq α] [Datum α] [Enc α] [DecidableEq β] [Datum β] [Enc β]
instance : Enc (List α) := ⟨fun xs => .list (xs.map Enc.dt), fun xs => pl_list (plAll_map Enc.pl xs)⟩
instance : Enc (PySem.W.Tup α) := ⟨fun xs => .tuple (xs.items.map Enc.dt), fun xs => pl_tuple (plAll_map Enc.pl xs.items)⟩
instance : Enc (α × β) := ⟨fun p => .tuple [Enc.dt p.1, Enc.dt p.2], fun p => pl_tuple (by
  have e2 : plAll [Enc.dt p.2] = some [Datum.toD p.2] := by
    unfold plAll
    rw [Enc.pl]
    rfl
  unfold plAll
  rw [Enc.pl, e2])⟩
instance [PySem.W.SomeDatum α] : Enc (Option α) := ⟨fun | none => .none | some a => Enc.dt a, fun | none => rfl | some a => Enc.pl a⟩
theorem i_neE {a b : α} {q : Dt → Prop} (hd : Datum.depth α ≤ 60) (h : q (.bool (!decide (a = b)))) : neD (Enc.dt a) (Enc.dt b) q :=
  i_ne (Enc.pl a) (Enc.pl b) (Nat.le_trans (Datum.depth_le a) hd) (by rw [Datum.eqv]; exact h)
end
theorem i_neSs {x y : Str} {q : Dt → Prop} (h : q (.bool (!decide (x = y)))) : neD (.str x) (.str y) q := i_neE (α := Str) (by decide) h
/-- data that repr may be asked of: k deep, of weight W -/
def Rp (k W : Nat) (d : Dt) : Prop := ∃ e, d.pd2 = some e ∧ e.hasDict = false ∧ e.leavesShort 20 = true ∧ e.showable = true ∧ e.depth ≤ k ∧ e.weight ≤ W
theorem Rp.mono {k W k' W' : Nat} {d : Dt} (h : Rp k W d) (h1 : k ≤ k') (h2 : W ≤ W') : Rp k' W' d := by
  obtain ⟨e, a, b, c, d, f, g⟩ := h
  exact ⟨e, a, b, c, d, by omega, by omega⟩
end Dw
set_option Elab.async false
set_option linter.all false
set_option maxRecDepth 100000
set_option maxHeartbeats 4000000
namespace Cn
open PySem PySem.Spec PyProof.Rows L2 LamX
/-- a def's promise that holds wherever it is called -/
def KpF (P : Program) (w : World) (K : PySem.W.Frag) (mg : Str → Option Value) (base : Heap) (k : Nat) (x : Str) (ps : List Str) (sp : Sp) : Prop :=
  ∃ (f : Addr) (fd : FuncData), mg x = some (.ref f) ∧ PySem.W.keepIn K (.ref f) = true ∧ Binds K fd ps [] ∧ FnOk P w K mg base (L2.CX P w) k f fd ps sp ∧ ∃ oc od osl, K.lookup f = some ⟨oc, od, .func fd, osl⟩
theorem KpF.g {P : Program} {w : World} {K : PySem.W.Frag} {mg : Str → Option Value} {base : Heap} {k : Nat} {x : Str} {ps : List Str} {sp : Sp} (h : KpF P w K mg base k x ps sp) : KpG P w K mg base (L2.CX P w) k x ps sp :=
  let ⟨f, fd, a, b, c, F, lk⟩ := h
  ⟨f, fd, a, b, c, F.len, fun A outer s H args us vs Q E _ hr => F.run A outer s H args us vs Q E hr, lk⟩
/-- an own class, as far as its instances are asked -/
structure OCls (K : PySem.W.Frag) (C : Addr) : Prop where
  cl : Cls K C
  ha : PySem.W.findIn K (.ref C) "__class__" = some (some (.builtin "object.__class__"))
  hn : PySem.W.specialIn K (.builtin "object.__class__") "__get__" = some (some (.builtin "getset_descriptor.__get__"))
  htk : PySem.W.takesIn K (.builtin "object.__class__") = some true
  hm : PySem.W.mroIn K C (.type "object") = some true
theorem OCls.ty {K : PySem.W.Frag} {C a dx : Addr} {fs : List (Str × V)} {H : Hp} (c : OCls K C) (h : H a = some (.ins C dx fs)) : TyX K H (.ref a) (.ref C) := .base (.ins h c.cl c.ha c.hn c.htk c.hm)
/-- a method, with its promise -/
structure MpF (P : Program) (w : World) (K : PySem.W.Frag) (mg : Str → Option Value) (base : Heap) (k : Nat) (C : Addr) (m : Str) (ps : List Str) (sp : Sp) (f : Addr) (fd : FuncData) : Prop where
  me : Meth K C m f
  bd : Binds K fd ps []
  ok : FnOk P w K mg base (L2.CX P w) k f fd ps sp
end Cn
set_option Elab.async false
set_option linter.all false
set_option maxRecDepth 100000
set_option maxHeartbeats 4000000
namespace PySem.W
open PySem PySem.Calls PyProof.Rows Builtin
end PySem.W
namespace Cn
open PySem PySem.Spec PyProof.Rows L2 LamX
end Cn
set_option Elab.async false
set_option linter.all false
set_option maxRecDepth 100000
set_option maxHeartbeats 4000000
namespace Dw
open PySem PySem.Spec PyProof.Rows L2 Cn LamX
section
variable {P : Program} {w : World} {K : PySem.W.Frag} {mg : Str → Option Value} {base : Heap}
/-- a method of class c -/
def Mw (P : Program) (w : World) (K : PySem.W.Frag) (mg : Str → Option Value) (base : Heap) (k : Nat) (c m : Str) (ps : List Str) (W : WF) : Prop := ∃ C f fd, mg c = some (.ref C) ∧ Cls K C ∧ MpF P w K mg base k C m ps (spW K mg ps.length W) f fd ∧ PySem.W.fnIn K f = true
/-- a property of class c -/
def Pw (P : Program) (w : World) (K : PySem.W.Frag) (mg : Str → Option Value) (base : Heap) (k : Nat) (c f : Str) (W : WF) : Prop := ∃ C p g fd ps, mg c = some (.ref C) ∧ Cls K C ∧ PropOf K C f p g ∧ Binds K fd ps [] ∧ FnOk P w K mg base (L2.CX P w) k g fd ps (spW K mg 1 W)
def Fw (K : PySem.W.Frag) (mg : Str → Option Value) (c f : Str) : Prop := ∃ C, mg c = some (.ref C) ∧ Cls K C ∧ NoAttr K C f
theorem Pw.mono {j k : Nat} {c f : Str} {W : WF} (h : Pw P w K mg base j c f W) (l : j ≤ k) : Pw P w K mg base k c f W :=
  let ⟨C, p, g, fd, ps, a, b, d, e, F⟩ := h
  ⟨C, p, g, fd, ps, a, b, d, e, ⟨F.len, fun A outer s H args us vs Q E hr => F.run A outer s H args us vs Q E (hr.mono l)⟩⟩
theorem Mw.mono {j k : Nat} {c m : Str} {ps : List Str} {W : WF} (h : Mw P w K mg base j c m ps W) (l : j ≤ k) : Mw P w K mg base k c m ps W :=
  let ⟨C, f, fd, a, b, M, e⟩ := h
  ⟨C, f, fd, a, b, ⟨M.me, M.bd, ⟨M.ok.len, fun A outer s H args us vs Q E hr => M.ok.run A outer s H args us vs Q E (hr.mono l)⟩⟩, e⟩
end
section
variable {c : Cd} {P : Program} {w : World} {base : Heap} {k : Nat} {ta tb te : TE} {tas : TA} {wa wb we : WE} {was : WA} {F H : Hp}
def wAttr (Ws : List (Str × Option WF)) (f : Str) (w : WE) : WE := fun ρ b q qx => w ρ b (fun d b1 => match d with
  | .obj n gs => (match Ws.lookup n with
    | some (some W) => W [.obj n gs] (fun v => q v b1) fun _ => False
    | some Option.none => (match gs.lookup f with
      | some v => q v b1
      | Option.none => False)
    | Option.none => False)
  | _ => False) qx
def wMth (Ws : List (Str × WF)) (m : Str) (w : WE) (ws : WA) : WE := fun ρ b q qx => w ρ b (fun d b1 => match d with
  | .obj n gs => (match Ws.lookup n with
    | some W => gs.lookup m = Option.none ∧ ws ρ b1 (fun ds b2 => W (.obj n gs :: ds) (fun v => q v b2) fun x => qx x b2) qx
    | Option.none => False)
  | _ => False) qx
def wSubO (Ws : List (Str × WF)) (wa wb : WE) : WE := fun ρ b q qx => wa ρ b (fun d b1 => wb ρ b1 (fun e b2 => match d with
  | .obj n gs => (match Ws.lookup n with
    | some W => W [.obj n gs, e] (fun v => q v b2) fun x => qx x b2
    | Option.none => False)
  | _ => False) qx) qx
def eqOK (cs : List Str) : Dt → Bool
  | .obj n _ => cs.contains n
  | .err _ _ => false
  | _ => true
/-- either -/
def eqAny (Wd : Op2) (Wo : Op2) : Op2 := fun d e q => match d with
  | .obj _ _ => Wo d e q
  | _ => Wd d e q
end
end Dw
set_option Elab.async false
set_option linter.all false
set_option maxRecDepth 100000
set_option maxHeartbeats 4000000
namespace Dw
open PySem PySem.Spec PyProof.Rows L2 Cn LamX
/-- H without what stands at x -/
def del (H : Hp) (x : Addr) : Hp := fun b => if b = x then none else H b
def putD (f : Str) (v : Dt) : List (Str × Dt) → List (Str × Dt)
  | [] => [(f, v)]
  | (g, x) :: r => if g = f then (g, v) :: r else (g, x) :: putD f v r
/-- the slots with frozen data -/
def shOnly : Rho → Rho
  | [] => []
  | some (.sh d) :: r => some (.sh d) :: shOnly r
  | _ :: r => none :: shOnly r
def ShOk (K : PySem.W.Frag) (mg : Str → Option Value) (F : Hp) (σ : L2.St) (ρ : Rho) : Prop := σ.length = ρ.length ∧ ∀ i s, at_ ρ i = some s → ∃ d v, s = .sh d ∧ σ[i]? = some (some v) ∧ Rz K mg F v d
theorem ShOk.ex {K : PySem.W.Frag} {mg : Str → Option Value} {F G : Hp} {σ : L2.St} {ρ : Rho} (h : ShOk K mg F σ ρ) (e : Ex F G) : ShOk K mg G σ ρ := ⟨h.1, fun i s q => let ⟨d, v, a, b, r⟩ := h.2 i s q; ⟨d, v, a, b, rz_ex e r⟩⟩
abbrev WI := (List (Str × Dt) → Prop) → Rho → List (Str × Dt) → Prop
def wfSet (n f : Str) (w : WE) : WI := fun q ρ gs => gs.length < 1000 ∧ w (put ρ 0 (some (.ow (.obj n gs)))) 0 (fun d _ => q (putD f d gs)) fun _ _ => False
def wfSeq (w1 w2 : WI) : WI := fun q ρ gs => w1 (fun gs1 => w2 q ρ gs1) ρ gs
/-- a whole __init__: checks, then fields -/
abbrev WJ := (List (Str × Dt) → Prop) → QX → Addr → Rho → Nat → Prop
def wjTail (w : WI) : WJ := fun q _ x ρ _ => at_ ρ 0 = some (.me x) ∧ w q (shOnly ρ) []
def wjSeq (w1 : WS) (w2 : WJ) : WJ := fun q qx x ρ b => w1 { nx := fun ρ1 b1 => w2 q qx x ρ1 b1, rt := fun _ _ => False, ex := qx } ρ b
/-- what an __init__ promises, over data -/
def spI (K : PySem.W.Frag) (mg : Str → Option Value) (n : Str) (j : Nat) (W : WF) : Sp := fun vs H Q E => ∃ (x C dx : Addr) (vs' : List V) (ds : List Dt) (F : Hp) (q : Dt → Prop) (qx : Xv → Prop), vs = .ref x :: vs' ∧ mg n = some (.ref C) ∧ H x = some (.ins C dx []) ∧ F x = none ∧ Ex F H ∧ RzAll K mg F vs' ds ∧ ds.length = j ∧ W ds q qx ∧
  (∀ fs gs F2 H2, q (.obj n gs) → Grow F (del H x) F2 H2 → F2 x = none → H2 x = some (.ins C dx fs) → RzFs K mg F2 fs gs → Q .non H2) ∧ ∀ xv F2 H2 cls dd, qx xv → Grow F H F2 H2 → XRel ⟨K, mg, Option.none, E⟩ H F2 H2 xv cls dd → E cls dd H2
end Dw
set_option Elab.async false
set_option linter.all false
set_option maxRecDepth 100000
set_option maxHeartbeats 4000000
namespace Dw
open PySem PySem.Spec PyProof.Rows L2 Cn LamX
/-- a class that makes objects by an own __init__ (dd: its defaults) -/
def Iw (P : Program) (w : World) (K : PySem.W.Frag) (mg : Str → Option Value) (base : Heap) (k : Nat) (n qn : Str) (ps : List Str) (st : Stmt) (dd : List Dt) (W : WF) : Prop :=
  ∃ (C f : Addr) (fd : FuncData) (dvs : List V), mg n = some (.ref C) ∧ Mk K C f ∧ FunD K "__init__" qn (defArgs st) (defBody st) (defScope st) dvs [] f fd ∧ FnOk P w K mg base (L2.CX P w) k f fd ps (spI K mg n (ps.length - 1) W) ∧ ∀ F, RzAll K mg F dvs dd
section
variable {c : Cd} {tas tk : TA} {was wk : WA}
/-- C(..): the object made -/
def wNew (is : List Nat) (dd : List Dt) (W : WF) (ws wk : WA) : WE := fun ρ b q qx => ws ρ b (fun ds b1 => wk ρ b1 (fun es b2 => W (permL is (ds ++ (es ++ dd))) (fun d => q d b2) fun x => qx x b2) qx) qx
end
end Dw
set_option Elab.async false
set_option linter.all false
set_option maxRecDepth 100000
set_option maxHeartbeats 4000000
namespace Dw
open PySem PySem.Spec PyProof.Rows L2 Cn LamX
section
variable {c : Cd} {P : Program} {w : World} {base : Heap} {k : Nat} {ta tb te : TE} {tas tk : TA} {wa wb we : WE} {was wk : WA} {F H : Hp}
/-- what isinstance(x, C) tells, C an own class called n -/
def isOD (cs : List Str) (n : Str) : Dt → Option Bool
  | .obj m _ => if cs.contains m then some (m == n) else none
  | .err _ _ => none
  | _ => some false
/-- an own class beside the others, as isinstance sees them -/
def IsTy (K : PySem.W.Frag) (mg : Str → Option Value) (cs : List Str) (n : Str) : Prop := ∃ C, mg n = some (.ref C) ∧ (∀ T ∈ (["NoneType", "bool", "int", "str", "list", "tuple", "dict"] : List String), PySem.W.kitOne K (.type T) (.ref C) = some false) ∧ ∀ m, cs.contains m = true → ∀ C2, mg m = some (.ref C2) → OCls K C2 ∧ PySem.W.kitOne K (.ref C2) (.ref C) = some (m == n)
def wIsO (cs : List Str) (n : Str) (w : WE) : WE := fun ρ b q qx => w ρ b (fun d b1 => match isOD cs n d with
  | some k => q (.bool k) b1
  | Option.none => False) qx
def noX : QX := fun _ _ => False
def wQ (w : WE) : WE := fun ρ b q _ => w ρ b q noX
end
end Dw
namespace Dw
open PySem PySem.Spec PyProof.Rows L2 Cn LamX
section
variable {X : Cx} {P : Program} {w : World} {K : PySem.W.Frag} {mg : Str → Option Value} {base : Heap} {k : Nat} {E : XK} {f m : Str} {e o : Expr} {es : List Expr} {pos apos : Pos} {te ta tb : TE} {t : TA}
/-- self's fields, last in an __init__ -/
theorem Fw.of {c f : Str} {C : Addr} (hC : mg c = some (.ref C)) (cl : Cls K C) (na : NoAttr K C f) : Fw K mg c f := ⟨C, hC, cl, na⟩
end
end Dw
namespace Dw
open PySem PySem.Spec PyProof.Rows L2 Cn LamX
theorem Iw.cls {P : Program} {w : World} {K : PySem.W.Frag} {mg : Str → Option Value} {base : Heap} {k : Nat} {n qn : Str} {ps : List Str} {st : Stmt} {dd : List Dt} {W : WF} (h : Iw P w K mg base k n qn ps st dd W) : ∃ C, mg n = some (.ref C) := let ⟨C, _, _, _, h, _⟩ := h; ⟨C, h⟩
theorem IsTy.ex {K : PySem.W.Frag} {mg : Str → Option Value} {cs : List Str} {n : Str} (h : IsTy K mg cs n) : ∃ C, mg n = some (.ref C) := let ⟨C, h, _⟩ := h; ⟨C, h⟩
end Dw
set_option Elab.async false
set_option linter.all false
set_option maxRecDepth 100000
set_option maxHeartbeats 4000000
namespace Cn
open PySem PySem.Spec PySem.Calls PyProof.Rows L2 LamX
end Cn
namespace Dw
open PySem PySem.Spec PySem.Calls PyProof.Rows L2 Cn LamX
theorem u65 {k : Nat} {A : Around} (r : Room k A) : A.units + 65 < cLine := by have := r.un; omega
/-- the rest reads the error, or None -/
def wOn (es : List Str) (w : WE) (ρ0 : Rho) (i : Nat) (wr : WS) : WE := fun ρ b q qx => wErr es w ρ b (fun d b1 => wr { nx := fun _ _ => q .none b1, rt := fun r _ => q r b1, ex := fun _ _ => False } (put ρ0 i (some (.sh d))) 0) qx
end Dw
namespace Dw
open PySem PySem.Spec PyProof.Rows L2 Cn LamX
section
variable {X : Cx} {K : PySem.W.Frag} {k : Nat} {o e : Expr} {to te : TE} {apos cpos : Pos}
/-- l.count(x) -/
theorem pe_countL (hK : X.K = K) (hr : Room k X.A) (ho : PE X o to) (he : PE X e te) (hbase : attributeBase o "count" X.env (eval o X.env) = eval o X.env := by rfl)
    (hfew : ((backTo cpos (starEach (e :: []) X.env)).all (fun x => !x.1) && (backToKw cpos (keywordEach [] X.env)).all (fun x => x.1.isSome) && decide ((e :: ([] : List Expr)).length + ([] : List Keyword).length + (if ([] : List Keyword).isEmpty then 0 else 1) < 30)) = true := by rfl)
    (hline : (apos.endLine == cpos.line) = true := by rfl) (hs : starEach (e :: []) X.env = (false, eval e X.env) :: starEach [] X.env := by rfl) : PE X (.Call (.Attribute o "count" apos) [e] [] cpos) (tBM K "list" (rCountD K) to (tCons te tNil)) := by
  subst hK
  exact pe_bm PySem.F.plainAttrs_list PySem.F.slot_list_count PySem.F.type_list_count (mt_countD rfl (u65 hr)) ho (pa_cons he pa_nil hs) hbase hfew hline hs rfl
/-- l.index(x) -/
theorem pe_indexL (hK : X.K = K) (hr : Room k X.A) (ho : PE X o to) (he : PE X e te) (hbase : attributeBase o "index" X.env (eval o X.env) = eval o X.env := by rfl)
    (hfew : ((backTo cpos (starEach (e :: []) X.env)).all (fun x => !x.1) && (backToKw cpos (keywordEach [] X.env)).all (fun x => x.1.isSome) && decide ((e :: ([] : List Expr)).length + ([] : List Keyword).length + (if ([] : List Keyword).isEmpty then 0 else 1) < 30)) = true := by rfl)
    (hline : (apos.endLine == cpos.line) = true := by rfl) (hs : starEach (e :: []) X.env = (false, eval e X.env) :: starEach [] X.env := by rfl) : PE X (.Call (.Attribute o "index" apos) [e] [] cpos) (tBM K "list" (rIndexD K) to (tCons te tNil)) := by
  subst hK
  exact pe_bm PySem.F.plainAttrs_list PySem.F.slot_list_index PySem.F.type_list_index (mt_indexD (u65 hr)) ho (pa_cons he pa_nil hs) hbase hfew hline hs rfl
end
end Dw
set_option Elab.async false
set_option linter.all false
set_option maxRecDepth 100000
set_option maxHeartbeats 4000000
namespace Dw
open PySem PySem.Spec PyProof.Rows L2 Cn LamX
/-- return x, x one's own -/
def wRetO (i : Nat) : WS := fun D ρ b => match at_ ρ i with
  | some (.ow d) => D.ro d b
  | _ => False
mutual
def noL : Dt → Bool
  | .list _ => false
  | .dict _ => false
  | .dictT _ => false
  | .tuple xs => noLs xs
  | .obj _ fs => noLf fs
  | .err _ fs => noLf fs
  | _ => true
def noLs : List Dt → Bool
  | [] => true
  | x :: xs => noL x && noLs xs
def noLf : List (Str × Dt) → Bool
  | [] => true
  | (_, x) :: xs => noL x && noLf xs
end
end Dw
set_option Elab.async false
set_option linter.all false
set_option maxRecDepth 100000
set_option maxHeartbeats 4000000
namespace Dw
open PySem PySem.Spec PyProof.Rows L2 Cn LamX
def topOk : Dt → Bool
  | .obj _ _ => false
  | .dictT _ => false
  | _ => true
section
variable {c : Cd} {tas tk : TA} {was wk : WA} {F H : Hp}
/-- C(..): lists of one's own among the arguments -/
def wNewT (a m : Nat) (is : List Nat) (dd : List Dt) (W : WF) (ws wk : WA) : WE := fun ρ b q qx => ws ρ b (fun ds b1 => wk ρ b1 (fun es b2 => (ds.length = a ∧ es.length = m ∧ ds.all topOk = true ∧ es.all topOk = true) ∧ W (permL is (ds ++ (es ++ dd))) (fun d => noL d = true ∧ q d b2) fun x => noLf x.fs = true ∧ qx x b2) qx) qx
end
end Dw
set_option Elab.async false
set_option linter.all false
set_option maxRecDepth 100000
set_option maxHeartbeats 4000000
namespace Dw
open PySem PySem.Spec PyProof.Rows L2 Cn LamX
def one1 : Dt → Bool
  | .int _ => true
  | .str _ => true
  | _ => false
section
variable {K : PySem.W.Frag} {mg : Str → Option Value}
def rSortU (K : PySem.W.Frag) (mg : Str → Option Value) : List V → Hp → VK → Prop := fun vs H Q => ∃ (a : Addr) (xs : List V) (ds : List Dt) (F : Hp), vs = [.ref a] ∧ SqT K H a xs ∧ RzAll K mg F xs ds ∧ ds.length ≤ 100000 ∧ ds.all one1 = true ∧ SortOk ds ∧
  ∀ (ys : List V) (p : Addr), RzAll K mg F ys (ds.mergeSort leS) → H p = Option.none → Q (.ref p) (upd H p (.lst ys))
theorem cr_sortedU {X : Cx} (hK : X.K = K) (hu : X.A.units + 64 < cLine) : CallR X (.builtin "sorted") (rSortU K mg) := by
  subst hK
  intro pins s σ H vs us Q I r h
  obtain ⟨a, xs, ds, F, rfl, ha, rz, hl, hone, ⟨h1, h2, h3⟩, q⟩ := h
  obtain ⟨its, rv, ⟨o, ho, hc, n, hd⟩, hz⟩ := I.tuple ha
  rw [Vals.ref1 r]
  have E := each_of (us := us) rz rv
  have hits : its.length ≤ sizeLine := by rw [← rv.length]; exact hz
  refine Calls.call_function_entry kind_sorted plain_sorted entry_sorted (args_sorted1 _) ?_
  unfold Builtin.«sorted»
  refine wpAny_bind (m := checkCount "sorted" 1 1 _) (wpAny_pure ?_)
  refine wpAny_bind (wpAny_collect_seq a (.inr rfl) ho hc hd (fun h' keep => ?_) (by simpa using hits))
  refine wpAny_bind (wpAny_newList ?_ (by simpa using hits))
  have eL : its.toArray.toList = its := rfl
  rw [eL]
  have hoL : (h'.push (seqObj "list" its.toArray 0)).get? h'.objs.size = some (seqObj "list" its.toArray 0) := Heap.get?_push_size _ rfl
  refine wpAny_bind (wpAny_holding (PySem.W.list_sort_data (s := { s with heap := h'.push (seqObj "list" its.toArray 0) }) (R := fun (u : Value) (d : Dt) => ∃ v, RelV v u ∧ Rz X.K mg F v d) (enc := encD) hoL E (each_imp E fun u d hd ⟨v, hv, r⟩ => ?_) h2 h3 (Evl.sz_of hl) (fun d hd => ?_) fun out ho2 eo => ?_))
  · have := List.all_eq_true.mp hone d hd
    cases d with
    | int i =>
      cases r
      obtain ⟨t, rfl⟩ := hv
      exact ⟨[], .int .., List.not_mem_nil⟩
    | str x =>
      cases r
      obtain ⟨t, rfl⟩ := hv
      exact ⟨[], .str .., List.not_mem_nil⟩
    | _ => cases this
  · have := (h1 d hd).2
    have h1 : X.A.in1.units = X.A.units + 1 := rfl
    omega
  obtain ⟨c, hc2⟩ := sortedHeap_at (vs := its) (out := out.toArray) hoL
  obtain ⟨ys, r1, r2⟩ := of_each eo
  have k2 : ∀ b u, s.heap.get? b = some u → (sortedHeap (h'.push (seqObj "list" its.toArray 0)) h'.objs.size its out.toArray).get? b = some u := fun b u e => by
    have q := keep b u e
    have hlt := Heap.lt_size q
    rw [sortedHeap_old (Nat.ne_of_lt hlt) (by rw [size_push']; exact Nat.lt_succ_of_lt hlt)]
    exact Heap.get?_push_of_some _ q
  have hp : H h'.objs.size = none := (I.hok.kept keep).fresh (Nat.le_refl _)
  have hs : s.heap.get? h'.objs.size = none := by
    cases e : s.heap.get? h'.objs.size with
    | none => rfl
    | some u => exact absurd (Heap.lt_size (keep _ _ e)) (Nat.lt_irrefl _)
  refine wpAny_pure ⟨_, rfl, ?_⟩
  have hlen : ys.length ≤ sizeLine := by
    rw [rza_len r1]
    exact Evl.sz_of (by rw [List.length_mergeSort]; exact hl)
  exact ⟨.ref _, upd H h'.objs.size (.lst ys), I.laidN (t' := s.toks) k2 hs hp ⟨hlen, out, c, r2, hc2⟩, rfl, q ys _ r1 hp⟩
/-- of lists of anything that sorts, of tuples of whole numbers or texts -/
def sortedA : List Dt → (Dt → Prop) → Prop := fun ds q => match ds with
  | [.tuple es] => (es.all one1 = true ∧ SortOk es) ∧ q (.list (es.mergeSort leS))
  | ds => sortedD ds q
theorem cr_sortedA {X : Cx} (hK : X.K = K) (hm : X.mg = X.mg) (hu : X.A.units + 64 < cLine) : CallR X (.builtin "sorted") (fun vs H Q => rSortG K mg vs H Q ∨ rSortU K mg vs H Q) := by
  intro pins s σ H vs us Q I r h
  rcases h with h | h
  · exact cr_sortedG (mg := mg) hK hm hu pins s σ H vs us Q I r h
  · exact cr_sortedU (mg := mg) hK hu pins s σ H vs us Q I r h
theorem cn_sortedA {c : Cd} : CNOk c (fun vs H Q => rSortG c.K c.mg vs H Q ∨ rSortU c.K c.mg vs H Q) sortedA := fun xs ds F H z p q Q hq k => by
  unfold sortedA at hq
  split at hq
  · rename_i es
    cases p with
    | cons p t =>
      cases t
      obtain ⟨a, vs, rfl, hx, r, l1⟩ := pb_tup p z
      exact .inr ⟨a, vs, es, F, rfl, (hx.ex z).sq, r, l1, hq.1.1, hq.1.2, fun ys pp hr hp => k pp _ F _ hq.2 (Grow.tmp z hp) hp (Evl.fresh_back z hp) ⟨by rw [List.length_mergeSort]; exact l1, ys, upd_same, hr⟩⟩
  · exact .inl (cn_sorted xs _ F H z p q Q hq k)
end
end Dw
set_option Elab.async false
set_option linter.all false
namespace Dw
open PySem PySem.Spec PyProof.Rows L2 Cn LamX
theorem e_attr {Ws : List (Str × Option WF)} {f : Str} {w : WE} {ρ : Rho} {b : Nat} {q : QD} {qx : QX} : wAttr Ws f w ρ b q qx = (w ρ b (fun d b1 => match d with | .obj n gs => (match Ws.lookup n with | some (some W) => W [.obj n gs] (fun v => q v b1) fun _ => False | some Option.none => (match gs.lookup f with | some v => q v b1 | Option.none => False) | Option.none => False) | _ => False) qx) := (rfl)
theorem e_mth {Ws : List (Str × WF)} {m : Str} {w : WE} {ws : WA} {ρ : Rho} {b : Nat} {q : QD} {qx : QX} : wMth Ws m w ws ρ b q qx = (w ρ b (fun d b1 => match d with | .obj n gs => (match Ws.lookup n with | some W => gs.lookup m = Option.none ∧ ws ρ b1 (fun ds b2 => W (.obj n gs :: ds) (fun v => q v b2) fun x => qx x b2) qx | Option.none => False) | _ => False) qx) := (rfl)
theorem e_subO {Ws : List (Str × WF)} {wa wb : WE} {ρ : Rho} {b : Nat} {q : QD} {qx : QX} : wSubO Ws wa wb ρ b q qx = (wa ρ b (fun d b1 => wb ρ b1 (fun e b2 => match d with | .obj n gs => (match Ws.lookup n with | some W => W [.obj n gs, e] (fun v => q v b2) fun x => qx x b2 | Option.none => False) | _ => False) qx) qx) := (rfl)
theorem e_new {is : List Nat} {dd : List Dt} {W : WF} {ws wk : WA} {ρ : Rho} {b : Nat} {q : QD} {qx : QX} : wNew is dd W ws wk ρ b q qx = (ws ρ b (fun ds b1 => wk ρ b1 (fun es b2 => W (permL is (ds ++ (es ++ dd))) (fun d => q d b2) fun x => qx x b2) qx) qx) := (rfl)
theorem e_isO {cs : List Str} {n : Str} {w : WE} {ρ : Rho} {b : Nat} {q : QD} {qx : QX} : wIsO cs n w ρ b q qx = (w ρ b (fun d b1 => match isOD cs n d with | some k => q (.bool k) b1 | Option.none => False) qx) := (rfl)
theorem e_quiet {w : WE} {ρ : Rho} {b : Nat} {q : QD} {qx : QX} : wQ w ρ b q qx = (w ρ b q noX) := (rfl)
theorem e_jtail {w : WI} {q : List (Str × Dt) → Prop} {qx : QX} {x : Addr} {ρ : Rho} {b : Nat} : wjTail w q qx x ρ b = (at_ ρ 0 = some (.me x) ∧ w q (shOnly ρ) []) := (rfl)
theorem e_jseq {w1 : WS} {w2 : WJ} {q : List (Str × Dt) → Prop} {qx : QX} {x : Addr} {ρ : Rho} {b : Nat} : wjSeq w1 w2 q qx x ρ b = (w1 { nx := fun ρ1 b1 => w2 q qx x ρ1 b1, rt := fun _ _ => False, ex := qx } ρ b) := (rfl)
theorem e_fseq {w1 w2 : WI} {q : List (Str × Dt) → Prop} {ρ : Rho} {gs : List (Str × Dt)} : wfSeq w1 w2 q ρ gs = (w1 (fun gs1 => w2 q ρ gs1) ρ gs) := (rfl)
theorem e_fset {n f : Str} {w : WE} {q : List (Str × Dt) → Prop} {ρ : Rho} {gs : List (Str × Dt)} : wfSet n f w q ρ gs = (gs.length < 1000 ∧ w (put ρ 0 (some (.ow (.obj n gs)))) 0 (fun d _ => q (putD f d gs)) fun _ _ => False) := (rfl)
theorem e_shO0  : shOnly [] = ([]) := (rfl)
theorem e_shOs {d : Dt} {ρ : Rho} : shOnly (some (.sh d) :: ρ) = (some (.sh d) :: shOnly ρ) := (rfl)
theorem e_shOo {d : Dt} {ρ : Rho} : shOnly (some (.ow d) :: ρ) = (none :: shOnly ρ) := (rfl)
theorem e_shOm {a : Addr} {ρ : Rho} : shOnly (some (.me a) :: ρ) = (none :: shOnly ρ) := (rfl)
theorem e_shOn {ρ : Rho} : shOnly (none :: ρ) = (none :: shOnly ρ) := (rfl)
theorem e_on {es : List Str} {w : WE} {ρ0 : Rho} {i : Nat} {wr : WS} {ρ : Rho} {b : Nat} {q : QD} {qx : QX} : wOn es w ρ0 i wr ρ b q qx = (wErr es w ρ b (fun d b1 => wr { nx := fun _ _ => q .none b1, rt := fun r _ => q r b1, ex := fun _ _ => False } (put ρ0 i (some (.sh d))) 0) qx) := (rfl)
theorem e_newT {a m : Nat} {is : List Nat} {dd : List Dt} {W : WF} {ws wk : WA} {ρ : Rho} {b : Nat} {q : QD} {qx : QX} : wNewT a m is dd W ws wk ρ b q qx = (ws ρ b (fun ds b1 => wk ρ b1 (fun es b2 => (ds.length = a ∧ es.length = m ∧ ds.all topOk = true ∧ es.all topOk = true) ∧ W (permL is (ds ++ (es ++ dd))) (fun d => noL d = true ∧ q d b2) fun x => noLf x.fs = true ∧ qx x b2) qx) qx) := (rfl)
theorem e_retO {i : Nat} {D : WEnds} {ρ : Rho} {b : Nat} : wRetO i D ρ b = (match at_ ρ i with | some (.ow d) => D.ro d b | _ => False) := (rfl)
theorem e_sortedAL {es : List Dt} {q : Dt → Prop} : sortedA [.list es] q = (sortedD [.list es] q) := (rfl)
theorem e_sortedAT {es : List Dt} {q : Dt → Prop} : sortedA [.tuple es] q = ((es.all one1 = true ∧ SortOk es) ∧ q (.list (es.mergeSort leS))) := (rfl)
theorem e_isO_none {cs : List Str} {n : Str}  : isOD cs n (.none) = (some false) := (rfl)
theorem e_eqOK_none {cs : List Str}  : eqOK cs (.none) = (true) := (rfl)
theorem e_isO_bool {cs : List Str} {n : Str} {x : Bool} : isOD cs n (.bool x) = (some false) := (rfl)
theorem e_eqOK_bool {cs : List Str} {x : Bool} : eqOK cs (.bool x) = (true) := (rfl)
theorem e_isO_int {cs : List Str} {n : Str} {x : Int} : isOD cs n (.int x) = (some false) := (rfl)
theorem e_eqOK_int {cs : List Str} {x : Int} : eqOK cs (.int x) = (true) := (rfl)
theorem e_isO_str {cs : List Str} {n : Str} {x : Str} : isOD cs n (.str x) = (some false) := (rfl)
theorem e_eqOK_str {cs : List Str} {x : Str} : eqOK cs (.str x) = (true) := (rfl)
theorem e_isO_list {cs : List Str} {n : Str} {x : List Dt} : isOD cs n (.list x) = (some false) := (rfl)
theorem e_eqOK_list {cs : List Str} {x : List Dt} : eqOK cs (.list x) = (true) := (rfl)
theorem e_isO_tuple {cs : List Str} {n : Str} {x : List Dt} : isOD cs n (.tuple x) = (some false) := (rfl)
theorem e_eqOK_tuple {cs : List Str} {x : List Dt} : eqOK cs (.tuple x) = (true) := (rfl)
theorem e_isO_dict {cs : List Str} {n : Str} {x : List (Key × Dt)} : isOD cs n (.dict x) = (some false) := (rfl)
theorem e_eqOK_dict {cs : List Str} {x : List (Key × Dt)} : eqOK cs (.dict x) = (true) := (rfl)
theorem e_eqOK_obj {cs : List Str} {m : Str} {gs : List (Str × Dt)} : eqOK cs (.obj m gs) = (cs.contains m) := (rfl)
end Dw
set_option Elab.async false
set_option linter.all false
set_option maxRecDepth 100000
set_option maxHeartbeats 4000000
namespace Dw
open PySem PySem.Spec PyProof.Rows L2 Cn LamX
/-- plain data, n deep -/
def Pk (n : Nat) (d : Dt) : Prop := ∃ x, d.pl = some x ∧ x.plain = true ∧ x.depth ≤ n
theorem Pk.mono {n m : Nat} {d : Dt} (h : Pk n d) (l : n ≤ m) : Pk m d := by
  obtain ⟨x, a, b, c⟩ := h
  exact ⟨x, a, b, by omega⟩
end Dw
set_option Elab.async false
set_option linter.all false
set_option maxRecDepth 100000
set_option maxHeartbeats 4000000
namespace Dw
open PySem PySem.Spec PyProof.Rows L2 Cn LamX
def intsL : List Dt → Option (List Int)
  | [] => some []
  | .int i :: ds => (intsL ds).map (i :: ·)
  | _ => Option.none
/-- the greatest, the least -/
def bestL (mx : Bool) : List Int → Option Int
  | [] => Option.none
  | n :: ns => some (if mx = true then ns.foldl max n else ns.foldl min n)
/-- .. or what stands for none -/
def bestOr (mx : Bool) (ns : List Int) (d : Dt) : Dt := match bestL mx ns with
  | some m => .int m
  | Option.none => d
def wBestK (mx : Bool) (was wk : WA) : WE := fun ρ b q qx => was ρ b (fun ds b1 => wk ρ b1 (fun es b2 => match ds, es with
  | [.list xs], [d] => (match intsL xs with
    | some ns => q (bestOr mx ns d) b2
    | Option.none => False)
  | _, _ => False) qx) qx
theorem e_bestK {mx : Bool} {was wk : WA} {ρ : Rho} {b : Nat} {q : QD} {qx : QX} : wBestK mx was wk ρ b q qx = (was ρ b (fun ds b1 => wk ρ b1 (fun es b2 => match ds, es with
  | [.list xs], [d] => (match intsL xs with
    | some ns => q (bestOr mx ns d) b2
    | Option.none => False)
  | _, _ => False) qx) qx) := (rfl)
def isBD (neg : Bool) : Op2 := fun d e q => match d, e with
  | .bool a, .bool b => q (.bool (if neg = true then !decide (a = b) else decide (a = b)))
  | _, _ => False
theorem e_isB1 {a b : Bool} {q : Dt → Prop} : isBD false (.bool a) (.bool b) q = (q (.bool (decide (a = b)))) := (rfl)
theorem e_isB2 {a b : Bool} {q : Dt → Prop} : isBD true (.bool a) (.bool b) q = (q (.bool (!decide (a = b)))) := (rfl)
theorem e_ixT10 {a : Dt} {q : Dt → Prop} : ixD (.tuple [a]) (.int 0) q = q a := (rfl)
theorem e_ixL10 {a : Dt} {q : Dt → Prop} : ixD (.list [a]) (.int 0) q = q a := (rfl)
theorem e_ixT20 {a b : Dt} {q : Dt → Prop} : ixD (.tuple [a, b]) (.int 0) q = q a := (rfl)
theorem e_ixL20 {a b : Dt} {q : Dt → Prop} : ixD (.list [a, b]) (.int 0) q = q a := (rfl)
theorem e_ixT21 {a b : Dt} {q : Dt → Prop} : ixD (.tuple [a, b]) (.int 1) q = q b := (rfl)
theorem e_ixL21 {a b : Dt} {q : Dt → Prop} : ixD (.list [a, b]) (.int 1) q = q b := (rfl)
theorem e_ixT30 {a b c : Dt} {q : Dt → Prop} : ixD (.tuple [a, b, c]) (.int 0) q = q a := (rfl)
theorem e_ixL30 {a b c : Dt} {q : Dt → Prop} : ixD (.list [a, b, c]) (.int 0) q = q a := (rfl)
theorem e_ixT31 {a b c : Dt} {q : Dt → Prop} : ixD (.tuple [a, b, c]) (.int 1) q = q b := (rfl)
theorem e_ixL31 {a b c : Dt} {q : Dt → Prop} : ixD (.list [a, b, c]) (.int 1) q = q b := (rfl)
theorem e_ixT32 {a b c : Dt} {q : Dt → Prop} : ixD (.tuple [a, b, c]) (.int 2) q = q c := (rfl)
theorem e_ixL32 {a b c : Dt} {q : Dt → Prop} : ixD (.list [a, b, c]) (.int 2) q = q c := (rfl)
theorem e_isN1 {x : Int} : isNone (.int x) = false := (rfl)
theorem e_isN2 {x : Str} : isNone (.str x) = false := (rfl)
theorem e_isN0 : isNone .none = true := (rfl)
end Dw
set_option Elab.async false
set_option linter.all false
set_option maxRecDepth 100000
set_option maxHeartbeats 4000000
namespace PySem.W
open PySem PySem.Calls PyProof.Rows Builtin
end PySem.W
namespace Cn
open PySem PySem.Spec PyProof.Rows L2 LamX
section
variable {X : Cx} {k n : Nat} {C : Addr} {m f : Str} {ps ks : List Str} {sp : Sp} {g p : Addr} {fd : FuncData} {E : XK} {e o : Expr} {es : List Expr} {kws : List Keyword} {pos apos : Pos} {ta tb te : TE} {t tk : TA}
/-- a method m of class C with its promise, and how it takes arguments by name -/
def MtK (P : Program) (w : World) (K : PySem.W.Frag) (mg : Str → Option Value) (base : Heap) (k : Nat) (m : Str) (ks : List Str) (is : List Nat) (b : Nat) (C : Addr) (sp : Sp) : Prop := Cls K C ∧ ∃ f fd ps, MpF P w K mg base k C m ps sp f fd ∧ ps.length = is.length ∧
  ∀ us ws : List Value, us.length = 1 → ws.length = b → bindArgs fd ⟨us, ks.zip ws⟩ = pure (ps.zip (permL is (us ++ ws)))
end
end Cn
set_option Elab.async false
set_option linter.all false
set_option maxRecDepth 100000
set_option maxHeartbeats 4000000
namespace Dw
open PySem PySem.Spec PyProof.Rows L2 Cn LamX
section
variable {P : Program} {w : World} {K : PySem.W.Frag} {mg : Str → Option Value} {base : Heap}
/-- a method of class c, called with arguments by name -/
def MwK (P : Program) (w : World) (K : PySem.W.Frag) (mg : Str → Option Value) (base : Heap) (k : Nat) (c m : Str) (ps ks : List Str) (is : List Nat) (b : Nat) (W : WF) : Prop := ∃ C, mg c = some (.ref C) ∧ MtK P w K mg base k m ks is b C (spW K mg ps.length W)
theorem MwK.mono {j k : Nat} {c m : Str} {ps ks : List Str} {is : List Nat} {b : Nat} {W : WF} (h : MwK P w K mg base j c m ps ks is b W) (l : j ≤ k) : MwK P w K mg base k c m ps ks is b W :=
  let ⟨C, a, cl, f, fd, ps2, M, hl, hb⟩ := h
  ⟨C, a, cl, f, fd, ps2, ⟨M.me, M.bd, ⟨M.ok.len, fun A outer s H args us vs Q E hr => M.ok.run A outer s H args us vs Q E (hr.mono l)⟩⟩, hl, hb⟩
end
section
variable {c : Cd} {P : Program} {w : World} {base : Heap} {k : Nat} {ta tb te tk : TE} {tas tks : TA} {wa wb we : WE} {was wks : WA} {F H : Hp}
def wAndO (Ws : List (Str × WF)) (wa wb : WE) : WE := fun ρ b q qx => wa ρ b (fun d b1 => wb ρ b1 (fun e b2 => match d, e with
  | .obj n gs, .obj n2 gs2 => (match Ws.lookup n with
    | some W => n = n2 ∧ W [.obj n gs, .obj n2 gs2] (fun v => q v b2) fun _ => False
    | Option.none => False)
  | _, _ => False) qx) qx
theorem e_andO {Ws : List (Str × WF)} {ρ : Rho} {b : Nat} {q : QD} {qx : QX} : wAndO Ws wa wb ρ b q qx = (wa ρ b (fun d b1 => wb ρ b1 (fun e b2 => match d, e with
  | .obj n gs, .obj n2 gs2 => (match Ws.lookup n with
    | some W => n = n2 ∧ W [.obj n gs, .obj n2 gs2] (fun v => q v b2) fun _ => False
    | Option.none => False)
  | _, _ => False) qx) qx) := (rfl)
def Ow (P : Program) (w : World) (K : PySem.W.Frag) (mg : Str → Option Value) (base : Heap) (k : Nat) (c : Str) (ps : List Str) (W : WF) : Prop := Mw P w K mg base k c "__eq__" ps W ∧ ∀ C, mg c = some (.ref C) → PySem.W.subIn K (.ref C) (.type "NoneType") = some false
/-- of data, or None and an object -/
def eqDN (Wd Wn : Op2) : Op2 := fun d e q => match d, e with
  | .none, .obj n gs => Wn .none (.obj n gs) q
  | d, e => Wd d e q
def wMthK (Ws : List (Str × WF)) (m : Str) (is : List Nat) (w : WE) (ws : WA) : WE := fun ρ b q qx => w ρ b (fun d b1 => match d with
  | .obj n gs => (match Ws.lookup n with
    | some W => gs.lookup m = Option.none ∧ ws ρ b1 (fun ds b2 => W (permL is (.obj n gs :: ds)) (fun v => q v b2) fun x => qx x b2) qx
    | Option.none => False)
  | _ => False) qx
theorem e_mthK {Ws : List (Str × WF)} {m : Str} {is : List Nat} {ρ : Rho} {b : Nat} {q : QD} {qx : QX} : wMthK Ws m is we was ρ b q qx = (we ρ b (fun d b1 => match d with
  | .obj n gs => (match Ws.lookup n with
    | some W => gs.lookup m = Option.none ∧ was ρ b1 (fun ds b2 => W (permL is (.obj n gs :: ds)) (fun v => q v b2) fun x => qx x b2) qx
    | Option.none => False)
  | _ => False) qx) := (rfl)
end
theorem e_anyO {n : Str} {gs : List (Str × Dt)} {e : Dt} {Wd Wo : Op2} {q : Dt → Prop} : eqAny Wd Wo (.obj n gs) e q = Wo (.obj n gs) e q := (rfl)
theorem e_anyN {e : Dt} {Wd Wo : Op2} {q : Dt → Prop} : eqAny Wd Wo .none e q = Wd .none e q := (rfl)
theorem e_dnO {n : Str} {gs : List (Str × Dt)} {Wd Wn : Op2} {q : Dt → Prop} : eqDN Wd Wn .none (.obj n gs) q = Wn .none (.obj n gs) q := (rfl)
theorem e_dnN {Wd Wn : Op2} {q : Dt → Prop} : eqDN Wd Wn .none .none q = Wd .none .none q := (rfl)
structure EKN (K : PySem.W.Frag) (mg : Str → Option Value) (sub : Str → Str → Option Bool) (es : List Str) : Prop where
  E : EKn K mg sub
  N : ∀ t ∈ es, ∀ T, mg t = some (.ref T) → PySem.W.kitOne K (.type "NoneType") (.ref T) = some false
  V : PySem.W.kitOne K (.type "NoneType") (.type "ValueError") = some false
def rIsEN (K : PySem.W.Frag) : List V → Hp → VK → Prop := fun xs H Q => rIsErr K xs H Q ∨ rIsi K xs H Q
theorem call_isErrN {X : Cx} {K : PySem.W.Frag} (hK : X.K = K) : CallR X (.builtin "isinstance") (rIsEN K) := by
  intro pins s σ H xs us Q I r h
  rcases h with h | h
  · exact call_isErr hK pins s σ H xs us Q I r h
  · exact call_isi1K hK pins s σ H xs us Q I r h
def wIsEN (sub : Str → Str → Option Bool) (t : Str) (w : WE) : WE := fun ρ b q qx => w ρ b (fun d b1 => match d with
  | .none => q (.bool false) b1
  | .err x _ => (match sub x t with
    | some k => q (.bool k) b1
    | Option.none => False)
  | _ => False) qx
theorem e_isEN {sub : Str → Str → Option Bool} {t : Str} {w : WE} {ρ : Rho} {b : Nat} {q : QD} {qx : QX} : wIsEN sub t w ρ b q qx = (w ρ b (fun d b1 => match d with
  | .none => q (.bool false) b1
  | .err x _ => (match sub x t with
    | some k => q (.bool k) b1
    | Option.none => False)
  | _ => False) qx) := (rfl)
section
variable {c : Cd} {te : TE} {we : WE}
theorem sn_isEN {sub : Str → Str → Option Bool} {es : List Str} {t : Str} {T : Addr} (E : EKN c.K c.mg sub es) (ht : t ≠ "ValueError") (hm : t ∈ es) (hT : c.mg t = some (.ref T)) (h : SndE c te we) : SndE c (tCB (rIsEN c.K) (tCons te (tCons (tC (.ref T)) tNil))) (wIsEN sub t we) := fun F0 H0 ρ b F H σ W q qx Q hw lx l => h F0 H0 ρ b F H σ W _ qx _ hw lx fun v d b1 F1 H1 h1 g1 W1 r1 => by
  split at h1
  · exact .inr ⟨v, .ref T, .type "NoneType", .ref T, false, rfl, .own T, pb_ty (T := .int) (.inl r1) W1.z (show isiD .int .none = some false from rfl), E.N t hm T hT, l _ _ b1 F1 H1 h1 g1 W1 (.bl _)⟩
  · split at h1
    · rename_i k hk
      obtain ⟨a, D, rfl, hD, ha⟩ := err_at (rz_ex W1.z r1)
      obtain ⟨hc, _, e2⟩ := E.E.own _ _ _ _ hk hD
      obtain ⟨T2, hT2, e3⟩ := e2 ht
      rw [hT] at hT2
      cases hT2
      exact .inl ⟨a, D, .ref T, .ref T, k, rfl, ha, hc, fun u hu => hu, e3, l _ _ b1 F1 H1 h1 g1 W1 (.bl k)⟩
    · exact h1.elim
  · exact h1.elim
theorem sn_isVN {sub : Str → Str → Option Bool} {es : List Str} (E : EKN c.K c.mg sub es) (h : SndE c te we) : SndE c (tCB (rIsEN c.K) (tCons te (tCons (tC (.ty "ValueError")) tNil))) (wIsEN sub "ValueError" we) := fun F0 H0 ρ b F H σ W q qx Q hw lx l => h F0 H0 ρ b F H σ W _ qx _ hw lx fun v d b1 F1 H1 h1 g1 W1 r1 => by
  split at h1
  · exact .inr ⟨v, .ty "ValueError", .type "NoneType", .type "ValueError", false, rfl, .ty _, pb_ty (T := .int) (.inl r1) W1.z (show isiD .int .none = some false from rfl), E.V, l _ _ b1 F1 H1 h1 g1 W1 (.bl _)⟩
  · split at h1
    · rename_i k hk
      obtain ⟨a, D, rfl, hD, ha⟩ := err_at (rz_ex W1.z r1)
      obtain ⟨hc, e2, _⟩ := E.E.own _ _ _ _ hk hD
      obtain ⟨rfl, e3⟩ := e2 rfl
      exact .inl ⟨a, D, .ty "ValueError", .type "ValueError", true, rfl, ha, hc, fun u hu => hu, e3, l _ _ b1 F1 H1 h1 g1 W1 (.bl _)⟩
    · exact h1.elim
  · exact h1.elim
end
end Dw
set_option Elab.async false
set_option linter.all false
set_option maxRecDepth 100000
set_option maxHeartbeats 4000000
namespace Dw
open PySem PySem.Spec PyProof.Rows L2 Cn
section
variable {c : Cd} {te : TE} {tt tt1 : TT} {we : WE} {wt wt1 : WT} {F H F0 H0 : Hp} {ρ : Rho} {b : Nat} {σ : L2.St} {a : Addr}
def SubO (ρ2 ρ : Rho) : Prop := ∀ j e, at_ ρ2 j = some (.ow e) → at_ ρ j = some (.ow e)
theorem SubO.trans {ρ1 ρ2 ρ3 : Rho} (h : SubO ρ1 ρ2) (k : SubO ρ2 ρ3) : SubO ρ1 ρ3 := fun j e q => k j e (h j e q)
def lcW2 (g : WG) (wt : WT) (wi1 : WA) (g1 : WG) (wt1 : WT) (we : WE) (vs1 : List Nat) (ρ : Rho) : List Dt → Nat → Nat → (List Dt → Nat → Prop) → Prop
  | [], _, b, q => q [] b
  | d :: ds, m, b, q => g d ρ fun ρ2 => wt ρ2 b (fun k b1 => br k (wi1 ρ2 b1 (fun es b2 => m + es.length ≤ 100000 ∧ lcW g1 wt1 we (wipeR ρ2 vs1) es b2 fun r b3 => lcW2 g wt wi1 g1 wt1 we vs1 ρ ds (m + es.length) b3 fun r2 b4 => q (r ++ r2) b4) fun _ _ => False) (lcW2 g wt wi1 g1 wt1 we vs1 ρ ds m b1 q)) fun _ _ => False
def wLc2 (wi : WA) (g : WG) (wt : WT) (wi1 : WA) (g1 : WG) (wt1 : WT) (we : WE) (vs vs1 : List Nat) : WE := fun ρ b q qx => wi ρ b (fun ds b1 => lcW2 g wt wi1 g1 wt1 we vs1 (wipeR ρ vs) ds 0 b1 fun r b2 => q (.list r) b2) qx
end
theorem e_lc2 {wi wi1 : WA} {g g1 : WG} {wt wt1 : WT} {we : WE} {vs vs1 : List Nat} {ρ : Rho} {b : Nat} {q : QD} {qx : QX} : wLc2 wi g wt wi1 g1 wt1 we vs vs1 ρ b q qx = (wi ρ b (fun ds b1 => lcW2 g wt wi1 g1 wt1 we vs1 (wipeR ρ vs) ds 0 b1 fun r b2 => q (.list r) b2) qx) := (rfl)
end Dw
set_option Elab.async false
set_option linter.all false
set_option maxRecDepth 100000
set_option maxHeartbeats 4000000
namespace Dw
open PySem PySem.Spec PyProof.Rows L2 Cn LamX
section
variable {c : Cd}
def truD : Dt → Option Bool
  | .none => some false
  | .bool b => some b
  | .int i => some (i != 0)
  | .list xs => some (!xs.isEmpty)
  | .tuple xs => some (!xs.isEmpty)
  | .dict xs => some (!xs.isEmpty)
  | _ => Option.none
def truQ (o : Option Bool) (q : Bool → Prop) : Prop := match o with
  | some k => q k
  | Option.none => False
def wTru (w : WE) : WT := fun ρ b q qx => w ρ b (fun d b1 => truQ (truD d) fun k => q k b1) qx
theorem e_tru {w : WE} {ρ : Rho} {b : Nat} {q : Bool → Nat → Prop} {qx : QX} : wTru w ρ b q qx = (w ρ b (fun d b1 => truQ (truD d) fun k => q k b1) qx) := (rfl)
end
end Dw
set_option Elab.async false
set_option linter.all false
set_option maxRecDepth 100000
set_option maxHeartbeats 4000000
namespace Cn
open PySem PySem.Spec PyProof.Rows L2 LamX
end Cn
set_option Elab.async false
set_option linter.all false
set_option maxRecDepth 100000
set_option maxHeartbeats 4000000
namespace Dw
open PySem PySem.Spec PyProof.Rows L2 Cn LamX
section
variable {P : Program} {w : World} {base : Heap} {k : Nat} {c : Cd} {te : TE} {we : WE}
def iOwnD (Ws : List (Str × Str)) (d : Dt) (q : List Dt → Prop) : Prop := match d with
  | .obj n gs => (match Ws.lookup n with
    | some fl => (match gs.lookup fl with
      | some (.tuple ds) => q ds
      | _ => False)
    | Option.none => False)
  | _ => False
def wiOwn (Ws : List (Str × Str)) (w : WE) : WA := fun ρ b q qx => w ρ b (fun d b1 => iOwnD Ws d fun ds => q ds b1) qx
theorem e_iOwn {Ws : List (Str × Str)} {w : WE} {ρ : Rho} {b : Nat} {q : List Dt → Nat → Prop} {qx : QX} : wiOwn Ws w ρ b q qx = w ρ b (fun d b1 => iOwnD Ws d fun ds => q ds b1) qx := (rfl)
def wAppP (Ws : List (Str × Str)) (wo : WE) : WS := fun D ρ b => wo ρ b (fun d b1 => iOwnD Ws d fun ds => ds.length < 100000 ∧ D.nx ρ b1) D.ex
theorem e_appP {Ws : List (Str × Str)} {wo : WE} {D : WEnds} {ρ : Rho} {b : Nat} : wAppP Ws wo D ρ b = wo ρ b (fun d b1 => iOwnD Ws d fun ds => ds.length < 100000 ∧ D.nx ρ b1) D.ex := (rfl)
end
end Dw
set_option Elab.async false
set_option linter.all false
set_option maxRecDepth 100000
set_option maxHeartbeats 4000000
namespace Dw
open PySem PySem.Spec PyProof.Rows L2 Cn LamX
section
variable {c : Cd} {te : TE} {we : WE} {tas : TA} {was : WA}
def starD (d : Dt) (q : List Dt → Prop) : Prop := match itemsOf d with
  | some es => q es
  | Option.none => False
theorem e_starL {xs : List Dt} {q : List Dt → Prop} : starD (.list xs) q = q xs := (rfl)
theorem e_starT {xs : List Dt} {q : List Dt → Prop} : starD (.tuple xs) q = q xs := (rfl)
def wStar (w : WE) (ws : WA) : WA := fun ρ b q qx => w ρ b (fun d b1 => starD d fun es => ws ρ b1 (fun ds b2 => q (es ++ ds) b2) qx) qx
theorem e_star {w : WE} {ws : WA} {ρ : Rho} {b : Nat} {q : List Dt → Nat → Prop} {qx : QX} : wStar w ws ρ b q qx = w ρ b (fun d b1 => starD d fun es => ws ρ b1 (fun ds b2 => q (es ++ ds) b2) qx) qx := (rfl)
def wTupV (ws : WA) : WE := fun ρ b q qx => ws ρ b (fun ds b1 => ds.length ≤ 100000 ∧ q (.tuple ds) b1) qx
def wLstV (ws : WA) : WE := fun ρ b q qx => ws ρ b (fun ds b1 => ds.length ≤ 100000 ∧ q (.list ds) b1) qx
theorem e_tupV {ws : WA} {ρ : Rho} {b : Nat} {q : QD} {qx : QX} : wTupV ws ρ b q qx = ws ρ b (fun ds b1 => ds.length ≤ 100000 ∧ q (.tuple ds) b1) qx := (rfl)
theorem e_lstV {ws : WA} {ρ : Rho} {b : Nat} {q : QD} {qx : QX} : wLstV ws ρ b q qx = ws ρ b (fun ds b1 => ds.length ≤ 100000 ∧ q (.list ds) b1) qx := (rfl)
end
end Dw
set_option Elab.async false
set_option linter.all false
set_option maxRecDepth 100000
set_option maxHeartbeats 4000000
set_option Elab.async false
set_option linter.all false
set_option maxRecDepth 100000
set_option maxHeartbeats 4000000
namespace Cn
open PySem PySem.Spec PyProof.Rows L2 LamX
def EntT (e : DictEntry) (p : Str × Str) : Prop := (∃ t, e.key = .str p.1 t) ∧ ∃ t, e.val = .str p.2 t
structure KTx (K : PySem.W.Frag) (w : World) (d : Addr) (kd : List (Str × Str)) : Prop where
  low : (d == sysModules) = false
  ent : ∃ es n, K.lookup d = some ⟨.type "dict", none, .dict es n, #[]⟩ ∧ PySem.W.KeysLit w.params es.toList ∧ Paired EntT es.toList kd
theorem find_tx {z : Str} : ∀ {l : List DictEntry} {kd : List (Str × Str)}, Paired EntT l kd → (∀ v, kd.lookup z = some v → ∃ e t, l.find? (·.key.isStr z) = some e ∧ e.val = .str v t) ∧ (kd.lookup z = none → l.find? (·.key.isStr z) = none) ∧ l.any (·.refKey) = false
  | _, _, .nil => ⟨fun v h => (nomatch h), fun _ => rfl, rfl⟩
  | e :: l, p :: kd, .cons ⟨⟨t1, h1⟩, t2, h2⟩ t => by
    obtain ⟨a, b, c⟩ := find_tx (z := z) t
    have ek : e.key.isStr z = (p.1 == z) := by rw [h1]; rfl
    have er : e.refKey = false := by unfold DictEntry.refKey; rw [h1]
    by_cases q : p.1 = z
    · have e1 : (p.1 == z) = true := beq_iff_eq.mpr q
      have e2 : (z == p.1) = true := beq_iff_eq.mpr q.symm
      refine ⟨fun v hv => ⟨e, t2, ?_, ?_⟩, fun hv => ?_, by rw [List.any_cons, er, c]; rfl⟩
      · rw [List.find?_cons_of_pos (by rw [ek]; exact e1)]
      · rw [List.lookup_cons, e2] at hv
        rw [h2, Option.some.inj hv]
      · rw [List.lookup_cons, e2] at hv
        cases hv
    · have e1 : (p.1 == z) = false := beq_eq_false_iff_ne.mpr q
      have e2 : (z == p.1) = false := beq_eq_false_iff_ne.mpr fun h => q h.symm
      refine ⟨fun v hv => ?_, fun hv => ?_, by rw [List.any_cons, er, c]; rfl⟩
      · rw [List.lookup_cons, e2] at hv
        obtain ⟨e', t', h3, h4⟩ := a v hv
        exact ⟨e', t', by rw [List.find?_cons_of_neg (by rw [ek, e1]; decide), h3], h4⟩
      · rw [List.lookup_cons, e2] at hv
        rw [List.find?_cons_of_neg (by rw [ek, e1]; decide)]
        exact b hv
theorem KTx.at_ {K : PySem.W.Frag} {w : World} {d : Addr} {kd : List (Str × Str)} (h : KTx K w d kd) (z : Str) : ∃ r, PySem.W.nsIn K d z = some r ∧ (∀ v, kd.lookup z = some v → ∃ t, r = some (.str v t)) ∧ (kd.lookup z = none → r = none) := by
  obtain ⟨es, n, lk, _, pr⟩ := h.ent
  obtain ⟨a, b, c⟩ := find_tx (z := z) pr
  unfold PySem.W.nsIn
  rw [lk]
  cases hv : kd.lookup z with
  | none =>
    dsimp only
    rw [b hv, c]
    exact ⟨none, rfl, fun v h => (nomatch h), fun _ => rfl⟩
  | some v =>
    obtain ⟨e, t, h1, h2⟩ := a v hv
    dsimp only
    rw [h1]
    exact ⟨_, rfl, fun v2 h => ⟨t, by rw [h2, Option.some.inj h]⟩, fun h => (nomatch h)⟩
end Cn
set_option Elab.async false
set_option linter.all false
set_option maxRecDepth 100000
set_option maxHeartbeats 4000000
namespace Dw
open PySem PySem.Spec PyProof.Rows L2 Cn LamX
section
variable {c : Cd} {te : TE} {we : WE} {d : Addr} {kd : List (Str × Str)}
def inTxD (kd : List (Str × Str)) (neg : Bool) (x : Dt) (q : Dt → Prop) : Prop := match x with
  | .str z => q (.bool (if neg = true then !(kd.lookup z).isSome else (kd.lookup z).isSome))
  | _ => False
theorem e_inTxS {neg : Bool} {z : Str} {q : Dt → Prop} : inTxD kd neg (.str z) q = q (.bool (if neg = true then !(kd.lookup z).isSome else (kd.lookup z).isSome)) := (rfl)
def wInTx (kd : List (Str × Str)) (neg : Bool) (w : WE) : WE := fun ρ b q qx => w ρ b (fun x b1 => inTxD kd neg x fun v => q v b1) qx
theorem e_inTx {neg : Bool} {w : WE} {ρ : Rho} {b : Nat} {q : QD} {qx : QX} : wInTx kd neg w ρ b q qx = w ρ b (fun x b1 => inTxD kd neg x fun v => q v b1) qx := (rfl)
def ixTxD (kd : List (Str × Str)) (x : Dt) (q : Dt → Prop) : Prop := match x with
  | .str z => (match kd.lookup z with
    | some v => v.length ≤ 100000 ∧ q (.str v)
    | Option.none => False)
  | _ => False
def wIxTx (kd : List (Str × Str)) (w : WE) : WE := fun ρ b q qx => w ρ b (fun x b1 => ixTxD kd x fun v => q v b1) qx
theorem e_ixTx {w : WE} {ρ : Rho} {b : Nat} {q : QD} {qx : QX} : wIxTx kd w ρ b q qx = w ρ b (fun x b1 => ixTxD kd x fun v => q v b1) qx := (rfl)
def wiTx (kd : List (Str × Str)) : WA := fun ρ b q qx => (kd.length ≤ 100000 ∧ ∀ p ∈ kd, p.1.length ≤ 100000) ∧ q (kd.map fun p => .str p.1) b
theorem e_iTx {ρ : Rho} {b : Nat} {q : List Dt → Nat → Prop} {qx : QX} : wiTx kd ρ b q qx = ((kd.length ≤ 100000 ∧ ∀ p ∈ kd, p.1.length ≤ 100000) ∧ q (kd.map fun p => .str p.1) b) := (rfl)
end
end Dw
set_option Elab.async false
set_option linter.all false
set_option maxRecDepth 100000
set_option maxHeartbeats 4000000
namespace Dw
open PySem PySem.Spec PyProof.Rows L2 Cn LamX
/-- x.extend(e), x one's own, e a list -/
def extD (ds : List Dt) (d : Dt) (q : List Dt → Prop) : Prop := match d with
  | .list es => ds.length + es.length ≤ 100000 ∧ q (ds ++ es)
  | _ => False
theorem e_extD {ds es : List Dt} {q : List Dt → Prop} : extD ds (.list es) q = (ds.length + es.length ≤ 100000 ∧ q (ds ++ es)) := (rfl)
end Dw
set_option Elab.async false
set_option linter.all false
set_option maxRecDepth 100000
set_option maxHeartbeats 4000000
namespace Dw
open PySem PySem.Spec PyProof.Rows L2 Cn LamX
def addLD : Op2
  | .list x, .list y, q => x.length + y.length ≤ 100000 ∧ q (.list (x ++ y))
  | _, _, _ => False
theorem e_addN {x y : List Dt} {q : Dt → Prop} : addLD (.list x) (.list y) q = (x.length + y.length ≤ 100000 ∧ q (.list (x ++ y))) := (rfl)
end Dw
set_option Elab.async false
set_option linter.all false
set_option maxRecDepth 100000
set_option maxHeartbeats 4000000
namespace Cn
open PySem PySem.Spec PyProof.Rows L2 PySem.Calls PyProof.V
/-- a zip of two lists, k pairs told, while the list S is filled -/
structure ZNow (h : Heap) (z TI TO i1 i2 l1 l2 S : Addr) (xs ys : Array Value) (k : Nat) : Prop where
  ti : IsPair h TI (.ref i1) (.ref i2)
  a1 : h.IsListIter i1 l1 k
  a2 : h.IsListIter i2 l2 k
  b1 : h.IsList l1 xs
  b2 : h.IsList l2 ys
  now : (IsZip h z TI TO .none ∧ ∃ a b, IsPair h TO a b) ∨ ∃ T f oT, IsZipHeld h z TI TO T f ∧ h.get? T = some oT ∧ S < T
structure ZLow (z TI TO i1 i2 l1 l2 S : Addr) : Prop where
  z : z < S
  ti : TI < S
  to : TO < S
  i1 : i1 < S
  i2 : i2 < S
  l1 : l1 < S
  l2 : l2 < S
theorem ZNow.keep {h h' : Heap} {z TI TO i1 i2 l1 l2 S : Addr} {xs ys : Array Value} {k : Nat} (Z : ZNow h z TI TO i1 i2 l1 l2 S xs ys k) (L : ZLow z TI TO i1 i2 l1 l2 S) (up : ∀ b o, b ≠ S → h.get? b = some o → h'.get? b = some o) : ZNow h' z TI TO i1 i2 l1 l2 S xs ys k := by
  refine ⟨up _ _ (Nat.ne_of_lt L.ti) Z.ti, Z.a1.at fun o e => up _ o (Nat.ne_of_lt L.i1) e, Z.a2.at fun o e => up _ o (Nat.ne_of_lt L.i2) e, Z.b1.at fun o e => up _ o (Nat.ne_of_lt L.l1) e, Z.b2.at fun o e => up _ o (Nat.ne_of_lt L.l2) e, ?_⟩
  rcases Z.now with ⟨e1, a, b, e2⟩ | ⟨T, f, oT, e1, e2, e3⟩
  · exact .inl ⟨up _ _ (Nat.ne_of_lt L.z) e1, a, b, up _ _ (Nat.ne_of_lt L.to) e2⟩
  · exact .inr ⟨T, f, oT, up _ _ (Nat.ne_of_lt L.z) e1, up _ _ (Nat.ne_of_gt e3) e2, e3⟩
end Cn
set_option Elab.async false
set_option linter.all false
set_option maxRecDepth 100000
set_option maxHeartbeats 4000000
namespace Dw
open PySem PySem.Spec PyProof.Rows L2 Cn LamX
def pairD (x y : Dt) : Dt := .tuple [x, y]
def zipLD (ds : List Dt) (q : Dt → Prop) : Prop := match ds with
  | [.list xs, .list ys] => xs.length ≤ 100000 ∧ q (.list (List.zipWith pairD xs ys))
  | _ => False
theorem e_zipLD {xs ys : List Dt} {q : Dt → Prop} : zipLD [.list xs, .list ys] q = (xs.length ≤ 100000 ∧ q (.list (List.zipWith pairD xs ys))) := (rfl)
def wZipL (was : WA) : WE := fun ρ b q qx => was ρ b (fun ds b1 => zipLD ds fun z => q z b1) qx
theorem e_listZip {was : WA} {ρ : Rho} {b : Nat} {q : QD} {qx : QX} : wZipL was ρ b q qx = was ρ b (fun ds b1 => zipLD ds fun z => q z b1) qx := (rfl)
end Dw
set_option Elab.async false
set_option linter.all false
set_option maxRecDepth 100000
set_option maxHeartbeats 4000000
namespace Dw
open PySem PySem.Spec PyProof.Rows L2 Cn LamX
section
variable {c : Cd} {te : TE} {we : WE} {tas : TA} {was : WA}
/-- return e, e a new object -/
def wRetF (w : WE) : WS := fun D ρ b => w ρ b D.ro D.ex
theorem e_retF {w : WE} {D : WEnds} {ρ : Rho} {b : Nat} : wRetF w D ρ b = w ρ b D.ro D.ex := (rfl)
def roomL : Dt → Bool
  | .list xs => decide (xs.length < 100000)
  | _ => false
/-- t = [new lists]; if repr(t) != e: return False; for x in t: x.append(None) -/
def wTold (i j : Nat) (was : WA) (wX : WE) (wr : WS) : WS := fun D ρ b => (i < ρ.length ∧ j < ρ.length ∧ i ≠ j) ∧ was ρ b (fun ds b1 => (ds.length ≤ 100000 ∧ ds.all roomL = true) ∧ reprX [.list ds] fun s1 =>
  wX (put ρ i none) b1 (fun s2 b2 => neD s1 s2 fun z => isB z fun k => br k (D.rt (.bool false) b2) (wr D (put (put ρ i none) j none) b2)) D.ex) D.ex
theorem e_told {i j : Nat} {was : WA} {wX : WE} {wr : WS} {D : WEnds} {ρ : Rho} {b : Nat} : wTold i j was wX wr D ρ b = ((i < ρ.length ∧ j < ρ.length ∧ i ≠ j) ∧ was ρ b (fun ds b1 => (ds.length ≤ 100000 ∧ ds.all roomL = true) ∧ reprX [.list ds] fun s1 =>
  wX (put ρ i none) b1 (fun s2 b2 => neD s1 s2 fun z => isB z fun k => br k (D.rt (.bool false) b2) (wr D (put (put ρ i none) j none) b2)) D.ex) D.ex) := (rfl)
end
/-- what returns a new object returns a value -/
theorem KpG.sub {P : Program} {w : World} {K : PySem.W.Frag} {mg : Str → Option Value} {base : Heap} {CX : CXT} {k : Nat} {x : Str} {ps : List Str} {sp sp2 : Sp} (h : KpG P w K mg base CX k x ps sp) (l : ∀ vs H Q E, sp2 vs H Q E → sp vs H Q E) : KpG P w K mg base CX k x ps sp2 := by
  obtain ⟨f, fd, h1, h2, h3, h4, h5, h6⟩ := h
  exact ⟨f, fd, h1, h2, h3, fun vs H Q E q => h4 vs H Q E (l vs H Q E q), fun A outer s H args us vs Q E g r e b v q => h5 A outer s H args us vs Q E g r e b v (l vs H Q E q), h6⟩
end Dw
set_option Elab.async false
set_option linter.all false
set_option maxRecDepth 100000
set_option maxHeartbeats 4000000
namespace Cn
open PySem PySem.Spec PyProof.Rows L2 LamX
section
variable {X : Cx} {k : Nat}
/-- what stands at an address as a tuple is one tuple -/
def Det (K : PySem.W.Frag) (H : Hp) : Prop := ∀ a xs ys, SqT K H a xs → SqT K H a ys → xs = ys
end
end Cn
set_option Elab.async false
set_option linter.all false
set_option maxRecDepth 100000
set_option maxHeartbeats 4000000
namespace Dw
open PySem PySem.Spec PyProof.Rows L2 Cn LamX
/-- item by item, as f tells -/
def allEq (f : Dt → Dt → Bool) : List Dt → List Dt → Bool
  | [], [] => true
  | x :: xs, y :: ys => f x y && allEq f xs ys
  | _, _ => false
/-- nothing stands for both -/
def NoSame (x y : Dt) : Prop := ∀ (K : PySem.W.Frag) (mg : Str → Option Value) (F : Hp) (v : V), Det K F → Rz K mg F v x → Rz K mg F v y → False
def OPair (cs : List Str) (Ws : List (Str × WF)) (f : Dt → Dt → Bool) (x y : Dt) : Prop := match x, y with
  | .obj n gs, .obj n2 gs2 => (match Ws.lookup n with
    | some W => cs.contains n2 = true ∧ W [.obj n gs, .obj n2 gs2] (fun r => r = .bool (f (.obj n gs) (.obj n2 gs2))) (fun _ => False) ∧ (f (.obj n gs) (.obj n2 gs2) = false → NoSame (.obj n gs) (.obj n2 gs2))
    | Option.none => False)
  | _, _ => False
def eqTD (cs : List Str) (Ws : List (Str × WF)) : Op2 := fun d e q => match d, e with
  | .tuple xs, .tuple ys => ∃ f : Dt → Dt → Bool, (∀ x ∈ xs, ∀ y ∈ ys, OPair cs Ws f x y) ∧ q (.bool (allEq f xs ys))
  | _, _ => False
theorem e_eqTD {cs : List Str} {Ws : List (Str × WF)} {xs ys : List Dt} {q : Dt → Prop} : eqTD cs Ws (.tuple xs) (.tuple ys) q = ∃ f : Dt → Dt → Bool, (∀ x ∈ xs, ∀ y ∈ ys, OPair cs Ws f x y) ∧ q (.bool (allEq f xs ys)) := (rfl)
end Dw
namespace Cn
open PySem PySem.Spec PyProof.Rows L2
end Cn
namespace Dw
open PySem PySem.Spec PyProof.Rows L2 Cn LamX
def wIsLT (cs : List Str) (w : WE) : WE := fun ρ b q qx => w ρ b (fun d b1 => match d with
  | .obj m _ => cs.contains m = true ∧ q (.bool false) b1
  | d => (match isiD .list d, isiD .tuple d with
    | some k, some j => q (.bool (k || j)) b1
    | _, _ => False)) qx
theorem e_isLT {cs : List Str} {w : WE} {ρ : Rho} {b : Nat} {q : QD} {qx : QX} : wIsLT cs w ρ b q qx = (w ρ b (fun d b1 => match d with
  | .obj m _ => cs.contains m = true ∧ q (.bool false) b1
  | d => (match isiD .list d, isiD .tuple d with
    | some k, some j => q (.bool (k || j)) b1
    | _, _ => False)) qx) := (rfl)
end Dw
namespace Dw
open PySem PySem.Spec PyProof.Rows L2 Cn LamX
section
variable {c : Cd} {F0 H0 F H F2 H2 : Hp} {ρ : Rho} {b b2 : Nat} {σ : L2.St} {a : Addr} {o : HO} {te : TE} {we : WE}
/-- an own list lent for an expression, whose value holds no list -/
def wLend (i : Nat) (w : WE) : WE := fun ρ b q qx => match at_ ρ i with
  | some (.ow (.list ds)) => w (put ρ i (some (.sh (.list ds)))) b (fun v b1 => noL v = true ∧ q v b1) fun _ _ => False
  | _ => False
theorem e_lend {i : Nat} {w : WE} {ρ : Rho} {q : QD} {qx : QX} : wLend i w ρ b q qx = (match at_ ρ i with
  | some (.ow (.list ds)) => w (put ρ i (some (.sh (.list ds)))) b (fun v b1 => noL v = true ∧ q v b1) fun _ _ => False
  | _ => False) := (rfl)
end
end Dw
namespace Cn
open PySem PySem.Spec PyProof.Rows L2
end Cn
namespace Dw
open PySem PySem.Spec PyProof.Rows L2 Cn LamX
section
variable {c : Cd} {ta tb : TE} {wa wb : WE}
def wOrN (wa wb : WE) : WE := fun ρ b q qx => wa ρ b (fun x b1 => match x with
  | .none => wb ρ b1 q qx
  | .int i => br (decide (i = 0)) (wb ρ b1 q qx) (q (.int i) b1)
  | _ => False) qx
theorem e_orN {ρ : Rho} {b : Nat} {q : QD} {qx : QX} : wOrN wa wb ρ b q qx = (wa ρ b (fun x b1 => match x with
  | .none => wb ρ b1 q qx
  | .int i => br (decide (i = 0)) (wb ρ b1 q qx) (q (.int i) b1)
  | _ => False) qx) := (rfl)
end
end Dw
set_option Elab.async false
set_option linter.all false
set_option maxRecDepth 100000
set_option maxHeartbeats 4000000
namespace L2
open PySem PySem.Spec PyProof.Rows
end L2
set_option Elab.async false
set_option linter.all false
set_option maxRecDepth 100000
set_option maxHeartbeats 4000000
namespace L2
open PySem PySem.Spec PyProof.Rows
end L2
set_option Elab.async false
set_option linter.all false
set_option maxRecDepth 100000
set_option maxHeartbeats 4000000
namespace Dw
open PySem PySem.Spec PyProof.Rows L2 Cn LamX L2
abbrev KvT := List (List Key × Dt)
def kvtGet (kvs : KvT) (k : List Key) : Option Dt := (kvs.find? fun kv => decide (kv.1 = k)).map (·.2)
def kvtPut (kvs : KvT) (k : List Key) (v : Dt) : KvT :=
  if (kvs.any fun kv => decide (kv.1 = k)) = true then kvs.map (fun kv => if kv.1 = k then (kv.1, v) else kv) else kvs ++ [(k, v)]
def keysT : List Dt → Option (List Key)
  | [] => some []
  | d :: ds => match keyD d, keysT ds with
    | some k, some ks => some (k :: ks)
    | _, _ => Option.none
structure Pg (c : Cd) (F0 H0 : Hp) (D : Addr) (F H : Hp) (b : Nat) (F2 H2 : Hp) (b2 : Nat) : Prop where
  x : Ex F F2
  w : ∀ ρ σ, Wd c F0 H0 ρ b F H σ → Far c H0 ρ F σ D → Wd c F0 H0 ρ b2 F2 H2 σ ∧ Far c H0 ρ F2 σ D
  r : ∀ F1 H1, FrRel c.fr F1 H1 F H → N0 c.fr H1 D → FrRel c.fr F1 H1 F2 H2
section
variable {c : Cd} {F0 H0 F H F2 H2 F3 H3 : Hp} {D : Addr} {b b2 b3 : Nat} {o : HO}
theorem Pg.refl : Pg c F0 H0 D F H b F H b := ⟨Evl.Ex.refl _, fun _ _ w f => ⟨w, f⟩, fun _ _ r _ => r⟩
theorem Pg.trans (p : Pg c F0 H0 D F H b F2 H2 b2) (q : Pg c F0 H0 D F2 H2 b2 F3 H3 b3) : Pg c F0 H0 D F H b F3 H3 b3 :=
  ⟨p.x.trans q.x, fun ρ σ w f => let ⟨w2, f2⟩ := p.w ρ σ w f; q.w ρ σ w2 f2, fun F1 H1 r n => q.r F1 H1 (p.r F1 H1 r n) n⟩
theorem Pg.step (g : FrRel c.fr F H F2 H2) (ok : FrOk c.fr b2 F2 H2) (t : ¬ IsTbl o) (h : H D = some o) : Pg c F0 H0 D F H b F2 H2 b2 :=
  ⟨g.ff, fun _ _ w f => ⟨w.step g ok, f.step g t h⟩, fun _ _ r _ => r.trans g⟩
theorem Pg.mut {ρ : Rho} {σ : L2.St} (f : Far c H0 ρ F σ D) (hc : ∀ q, H D ≠ some (LamX.CodeO D q)) : Pg c F0 H0 D F H b F (upd H D o) b :=
  ⟨Evl.Ex.refl _, fun _ _ w f => ⟨w.mutX f hc, f⟩, fun _ _ r n => r.mut f.own.ap f.own.nf n⟩
structure DtP (c : Cd) (F0 H0 : Hp) (D : Addr) (ρ : Rho) (σ : L2.St) (b : Nat) (F H : Hp) (acc : List (List Key × V)) (accd : KvT) : Prop where
  w : Wd c F0 H0 ρ b F H σ
  f : Far c H0 ρ F σ D
  at_ : H D = some (.dT acc)
  r : RzKT c.K c.mg F acc accd
  l : accd.length ≤ 100000
theorem DtP.step {ρ : Rho} {σ : L2.St} {acc : List (List Key × V)} {accd : KvT} (p : DtP c F0 H0 D ρ σ b F H acc accd) (g : FrRel c.fr F H F2 H2) (ok : FrOk c.fr b2 F2 H2) : DtP c F0 H0 D ρ σ b2 F2 H2 acc accd ∧ Pg c F0 H0 D F H b F2 H2 b2 :=
  have q : Pg c F0 H0 D F H b F2 H2 b2 := Pg.step g ok tbl_dT p.at_
  ⟨⟨(q.w _ _ p.w p.f).1, (q.w _ _ p.w p.f).2, g.own tbl_dT p.f.own.ap p.at_, rzt_ex g.ff p.r, p.l⟩, q⟩
end
structure WLv where
  wi : WA
  g : WG
  wt : WT
  vs : List Nat
abbrev WBd := Rho → Nat → KvT → (KvT → Nat → Prop) → Prop
def emW (wks : WA) (wv : WE) : WBd := fun ρ b acc k => wks ρ b (fun ds b1 => wv ρ b1 (fun y b2 => match keysT ds with
  | some ks => acc.length < 100000 ∧ k (kvtPut acc ks y) b2
  | Option.none => False) fun _ _ => False) fun _ _ => False
def lpW (g : WG) (wt : WT) (ρ : Rho) (body : WBd) : List Dt → Nat → KvT → (KvT → Nat → Prop) → Prop
  | [], b, acc, k => k acc b
  | d :: ds, b, acc, k => g d ρ fun ρ2 => wt ρ2 b (fun t b1 => br t (body ρ2 b1 acc fun acc2 b2 => lpW g wt ρ body ds b2 acc2 k) (lpW g wt ρ body ds b1 acc k)) fun _ _ => False
def lvW (wks : WA) (wv : WE) : List WLv → WBd
  | [], ρ, b, acc, k => emW wks wv ρ b acc k
  | l :: ls, ρ, b, acc, k => l.wi ρ b (fun ds b1 => lpW l.g l.wt (wipeR ρ l.vs) (lvW wks wv ls) ds b1 acc k) fun _ _ => False
def wDcN (wi : WA) (g : WG) (wt : WT) (ls : List WLv) (wks : WA) (wv : WE) (vs : List Nat) : WE := fun ρ b q qx => wi ρ b (fun ds b1 => lpW g wt (wipeR ρ vs) (lvW wks wv ls) ds b1 [] fun r b2 => q (.dictT r) b2) qx
section
variable {c : Cd} {F0 H0 : Hp} {D : Addr}
def wInT (neg : Bool) (wks : WA) (wd : WE) : WE := fun ρ b q qx => wks ρ b (fun ds b1 => wd ρ b1 (fun d b2 => match d, keysT ds with
  | .dictT kvs, some ks => q (.bool (if neg then !(kvtGet kvs ks).isSome else (kvtGet kvs ks).isSome)) b2
  | _, _ => False) qx) qx
def lr1D (d : Dt) (q : Dt → Prop) : Prop := match d with
  | .int n => (-100000 ≤ n ∧ n ≤ 100000) ∧ q (.list (natD 0 n.toNat))
  | _ => False
theorem e_lr1D {n : Int} {q : Dt → Prop} : lr1D (.int n) q = ((-100000 ≤ n ∧ n ≤ 100000) ∧ q (.list (natD 0 n.toNat))) := (rfl)
def wLR1 (w : WE) : WE := fun ρ b q qx => w ρ b (fun d b1 => lr1D d fun r => q r b1) qx
theorem e_lr1 {w : WE} {ρ : Rho} {b : Nat} {q : QD} {qx : QX} : wLR1 w ρ b q qx = w ρ b (fun d b1 => lr1D d fun r => q r b1) qx := (rfl)
theorem rz_rg {K : PySem.W.Frag} {mg : Str → Option Value} {F : Hp} : ∀ (n : Nat) (i : Nat), RzAll K mg F (((List.range' i n).map fun (j : Nat) => V.int (0 + (j : Int)))) ((List.range' i n).map fun (j : Nat) => Dt.int (0 + (j : Int)))
  | 0, _ => .nil
  | n + 1, i => .cons (.int _) (rz_rg n (i + 1))
theorem snn_lr1 {te : TE} {we : WE} (h : SndB c te we) : SndN c (tLstRg (tRg1 te)) (wLR1 we) := fun F0 H0 ρ b F H σ W q qx Q hw lx l => h F0 H0 ρ b F H σ W _ qx _ hw lx fun v d b1 F1 H1 h1 g1 W1 p => by
  unfold lr1D at h1
  dsimp only at h1
  split at h1
  · rename_i n
    have e := pb_int p W1.z
    subst e
    refine ⟨n, rfl, ⟨by omega, by omega, by omega, by omega, by omega⟩, fun p hp => ?_⟩
    have f := W1.far hp
    have G : Grow F1 H1 F1 (upd H1 p (.lst (rgV 0 n))) := Grow.tmp W1.z hp
    have el : (natD 0 n.toNat).length = n.toNat := by unfold natD; rw [List.length_map, List.length_range]
    refine l p _ b1 F1 _ h1.2 (g1.trans (FrRel.of G)) (W1.grow G) (g1.back (N0.of hp)) f ⟨by rw [el]; omega, rgV 0 n, upd_same, ?_⟩
    have e1 : rgV 0 n = (List.range' 0 n.toNat).map fun (j : Nat) => V.int (0 + (j : Int)) := by
      unfold rgV
      rw [Int.sub_zero, List.range_eq_range']
    have e2 : natD 0 n.toNat = (List.range' 0 n.toNat).map fun (j : Nat) => Dt.int (0 + (j : Int)) := by
      unfold natD
      rw [List.range_eq_range']
    rw [e1, e2]
    exact rz_rg _ _
  · exact h1.elim
end
theorem e_dcN {wi : WA} {g : WG} {wt : WT} {ls : List WLv} {wks : WA} {wv : WE} {vs : List Nat} {ρ : Rho} {b : Nat} {q : QD} {qx : QX} : wDcN wi g wt ls wks wv vs ρ b q qx = wi ρ b (fun ds b1 => lpW g wt (wipeR ρ vs) (lvW wks wv ls) ds b1 [] fun r b2 => q (.dictT r) b2) qx := (rfl)
theorem e_lvN {wks : WA} {wv : WE} {ρ : Rho} {b : Nat} {acc : KvT} {k : KvT → Nat → Prop} : lvW wks wv [] ρ b acc k = emW wks wv ρ b acc k := (rfl)
theorem e_lvC {wks : WA} {wv : WE} {wi : WA} {g : WG} {wt : WT} {vs : List Nat} {ls : List WLv} {ρ : Rho} {b : Nat} {acc : KvT} {k : KvT → Nat → Prop} : lvW wks wv (⟨wi, g, wt, vs⟩ :: ls) ρ b acc k = wi ρ b (fun ds b1 => lpW g wt (wipeR ρ vs) (lvW wks wv ls) ds b1 acc k) FX := (rfl)
def emD3 (acc : KvT) (ds : List Dt) (y : Dt) (k : KvT → Prop) : Prop := match keysT ds with
  | some ks => acc.length < 100000 ∧ k (kvtPut acc ks y)
  | Option.none => False
theorem e_emW {wks : WA} {wv : WE} {ρ : Rho} {b : Nat} {acc : KvT} {k : KvT → Nat → Prop} : emW wks wv ρ b acc k = wks ρ b (fun ds b1 => wv ρ b1 (fun y b2 => emD3 acc ds y fun r => k r b2) FX) FX := (rfl)
def inTD (neg : Bool) (ds : List Dt) (d : Dt) (q : Dt → Prop) : Prop := match d, keysT ds with
  | .dictT kvs, some ks => q (.bool (if neg then !(kvtGet kvs ks).isSome else (kvtGet kvs ks).isSome))
  | _, _ => False
theorem e_inT {neg : Bool} {wks : WA} {wd : WE} {ρ : Rho} {b : Nat} {q : QD} {qx : QX} : wInT neg wks wd ρ b q qx = wks ρ b (fun ds b1 => wd ρ b1 (fun d b2 => inTD neg ds d fun r => q r b2) qx) qx := (rfl)
end Dw
set_option Elab.async false
set_option linter.all false
set_option maxRecDepth 100000
set_option maxHeartbeats 4000000
namespace PySem.W
open PySem PySem.Calls PyProof.Rows Builtin PySem.SeqAt
section
variable {prog : Program} {w : World} {A : Around} {E : Value → Shared → Prop} {s : Shared} {K : Frag} {x C L f : Addr} {h₀ : Heap} {m : Str → Option Value} {ox : Obj} {od : Option Obj} {v : Value}
/-- a plain value beside an own object -/
inductive LeftP (h : Heap) : Value → String → Prop
  | non : LeftP h .none "NoneType"
  | str (y : Str) (t : Tok) : LeftP h (.str y t) "str"
  | list {l : Addr} {its : Array Value} : h.IsList l its → LeftP h (.ref l) "list"
  | tuple {l : Addr} {its : Array Value} : h.IsTuple l its → LeftP h (.ref l) "tuple"
theorem LeftP.ty {T : String} (p : LeftP s.heap v T) : s.TypeIs v T := by
  cases p with
  | non => exact rfl
  | str y t => exact typeIs_str s y t
  | list h => obtain ⟨o, h1, h2, _⟩ := h; exact ⟨o, h1, h2⟩
  | tuple h => obtain ⟨o, h1, h2, _⟩ := h; exact ⟨o, h1, h2⟩
end
end PySem.W
namespace Cn
open PySem PySem.Spec PyProof.Rows L2 LamX
end Cn
set_option Elab.async false
set_option linter.all false
set_option maxRecDepth 100000
set_option maxHeartbeats 4000000
set_option Elab.async false
set_option linter.all false
set_option maxRecDepth 100000
set_option maxHeartbeats 4000000
namespace Dw
open PySem PySem.Spec PyProof.Rows L2 Cn LamX
def slLD : SlOp := fun d lo hi q => match d with
  | .list ds => q (.list (cutD ds lo hi))
  | _ => False
theorem e_slLD {x : List Dt} {lo hi : Option Int} {q : Dt → Prop} : slLD (.list x) lo hi q = q (.list (cutD x lo hi)) := (rfl)
end Dw
set_option Elab.async false
set_option linter.all false
set_option maxRecDepth 100000
set_option maxHeartbeats 4000000
namespace Cn
open PySem PySem.Spec PyProof.Rows L2 LamX
end Cn
namespace Dw
open PySem PySem.Spec PyProof.Rows L2 Cn LamX
def neED : Op2 := fun d e q => match d, e with
  | .list ds, .list [] => q (.bool (!ds.isEmpty))
  | _, _ => False
theorem e_neED {ds : List Dt} {q : Dt → Prop} : neED (.list ds) (.list []) q = q (.bool (!ds.isEmpty)) := (rfl)
end Dw
set_option Elab.async false
set_option linter.all false
set_option maxRecDepth 100000
set_option maxHeartbeats 4000000
namespace Cn
open PySem PySem.Spec PyProof PyProof.Rows L2
end Cn
set_option Elab.async false
set_option linter.all false
set_option maxRecDepth 100000
set_option maxHeartbeats 4000000
namespace Dw
open PySem PySem.Spec PyProof.Rows L2 Cn LamX
def evenD (n : Nat) : List Dt := (List.range ((n + 1) / 2)).map fun i => Dt.int (0 + (i : Nat) * 2)
def tr3D (x y z : Dt) (q : Dt → Prop) : Prop := match x, y, z with
  | .int 0, .int n, .int 2 => (0 ≤ n ∧ n ≤ 100000) ∧ q (.tuple (evenD n.toNat))
  | _, _, _ => False
theorem e_tr3D {n : Int} {q : Dt → Prop} : tr3D (.int 0) (.int n) (.int 2) q = ((0 ≤ n ∧ n ≤ 100000) ∧ q (.tuple (evenD n.toNat))) := (rfl)
def wTR3 (wa wb wc : WE) : WE := fun ρ b q qx => wa ρ b (fun x b1 => wb ρ b1 (fun y b2 => wc ρ b2 (fun z b3 => tr3D x y z fun r => q r b3) qx) qx) qx
theorem e_tr3 {wa wb wc : WE} {ρ : Rho} {b : Nat} {q : QD} {qx : QX} : wTR3 wa wb wc ρ b q qx = wa ρ b (fun x b1 => wb ρ b1 (fun y b2 => wc ρ b2 (fun z b3 => tr3D x y z fun r => q r b3) qx) qx) qx := (rfl)
end Dw
set_option Elab.async false
set_option linter.all false
set_option maxRecDepth 100000
set_option maxHeartbeats 4000000
namespace Cn
open PySem PySem.Spec PyProof.Rows L2
end Cn
set_option Elab.async false
set_option linter.all false
set_option maxRecDepth 100000
set_option maxHeartbeats 4000000
namespace Dw
open PySem PySem.Spec PyProof.Rows L2 Cn LamX
mutual
def noD : Dt → Bool
  | .list xs => noDs xs
  | .tuple xs => noDs xs
  | .dict _ => false
  | .dictT _ => false
  | .obj _ fs => noDf fs
  | .err _ fs => noDf fs
  | _ => true
def noDs : List Dt → Bool
  | [] => true
  | x :: xs => noD x && noDs xs
def noDf : List (Str × Dt) → Bool
  | [] => true
  | (_, x) :: xs => noD x && noDf xs
end
/-- F2 holds what F holds, but dicts -/
def NoDx (F F2 : Hp) : Prop := ∀ a o, F a = some o → F2 a = some o ∨ ∃ kv, o = .dK kv
mutual
theorem rz_off {K : PySem.W.Frag} {mg : Str → Option Value} {F F2 : Hp} (e : NoDx F F2) : ∀ {v : V} {d : Dt}, Rz K mg F v d → noD d = true → Rz K mg F2 v d
  | _, _, .non, _ => .non
  | _, _, .bl b, _ => .bl b
  | _, _, .int i, _ => .int i
  | _, _, .str x l, _ => .str x l
  | _, _, .lst l h t, n => by
      rcases e _ _ h with h | ⟨_, h⟩
      · exact .lst l h (rza_off e t (by unfold noD at n; exact n))
      · cases h
  | _, _, .tup l h t, n => .tup l (by
      rcases h with ⟨o, h, k⟩ | h
      · rcases e _ _ h with h | ⟨_, h⟩
        · exact .inl ⟨o, h, k⟩
        · cases h
      · exact .inr h) (rza_off e t (by unfold noD at n; exact n))
  | _, _, .dct _ _ _, h => by unfold noD at h; cases h
  | _, _, .dcT _ _ _, h => by unfold noD at h; cases h
  | _, _, .obj m h t, n => by
      rcases e _ _ h with h | ⟨_, h⟩
      · exact .obj m h (rzf_off e t (by unfold noD at n; exact n))
      · cases h
  | _, _, .errP m h, n => by
      rcases e _ _ h with h | ⟨_, h⟩
      · exact .errP m h
      · cases h
  | _, _, .errN m h k t, n => by
      rcases e _ _ h with h | ⟨_, h⟩
      · rcases e _ _ k with k | ⟨_, k⟩
        · exact .errN m h k (rzf_off e t (by unfold noD at n; exact n))
        · cases k
      · cases h
  | _, _, .errC m h, n => by
      rcases e _ _ h with h | ⟨_, h⟩
      · exact .errC m h
      · cases h
  | _, _, .errD m h k t, n => by
      rcases e _ _ h with h | ⟨_, h⟩
      · rcases e _ _ k with k | ⟨_, k⟩
        · exact .errD m h k (rzf_off e t (by unfold noD at n; exact n))
        · cases k
      · cases h
theorem rza_off {K : PySem.W.Frag} {mg : Str → Option Value} {F F2 : Hp} (e : NoDx F F2) : ∀ {v : List V} {d : List Dt}, RzAll K mg F v d → noDs d = true → RzAll K mg F2 v d
  | _, _, .nil, _ => .nil
  | _, _, .cons h t, n => by
      unfold noDs at n
      obtain ⟨n1, n2⟩ := Bool.and_eq_true_iff.mp n
      exact .cons (rz_off e h n1) (rza_off e t n2)
theorem rzf_off {K : PySem.W.Frag} {mg : Str → Option Value} {F F2 : Hp} (e : NoDx F F2) : ∀ {v : List (Str × V)} {d : List (Str × Dt)}, RzFs K mg F v d → noDf d = true → RzFs K mg F2 v d
  | _, _, .nil, _ => .nil
  | _, _, .cons h t, n => by
      unfold noDf at n
      obtain ⟨n1, n2⟩ := Bool.and_eq_true_iff.mp n
      exact .cons (rz_off e h n1) (rzf_off e t n2)
end
def offF (a : Addr) (F : Hp) : Hp := fun b => if b = a then none else F b
def onF (a : Addr) (u : Option HO) (F : Hp) : Hp := fun b => if b = a then u else F b
section
variable {a : Addr} {F H F2 H2 : Hp} {od : Obj} {xs : List (Key × V)} {fr : Tri} {b : Nat}
theorem off_same : offF a F a = none := if_pos rfl
theorem off_ne {c : Addr} (n : c ≠ a) : offF a F c = F c := if_neg n
theorem on_same {u : Option HO} : onF a u F a = u := if_pos rfl
theorem on_ne {u : Option HO} {c : Addr} (n : c ≠ a) : onF a u F c = F c := if_neg n
theorem off_ex : Ex (offF a F) F := fun c o e => by
  by_cases n : c = a
  · subst n
    rw [off_same] at e
    cases e
  · rw [off_ne n] at e
    exact e
theorem frok_off (hH : H a = some (.dK xs)) (h : FrOk fr b F H) : FrOk fr b (offF a F) H := match fr, h with
  | Option.none, h => off_ex.trans h
  | some (st, lg, cl), h => by
    have h : Off st lg cl b F H := h
    have nn : ∀ c, F c = none → offF a F c = none := fun c e => by
      by_cases n : c = a
      · rw [n, off_same]
      · rw [off_ne n, e]
    exact (⟨off_ex.trans h.z, nn _ h.s, nn _ h.l, h.ok, h.tb, fun p hp => nn _ (h.tf p hp), fun c ps e => h.nt c ps (off_ex _ _ e), by
      obtain ⟨oy, hy⟩ := h.sy
      refine ⟨oy, ?_⟩
      rw [off_ne fun z => ?_]
      · exact hy
      · have := h.z _ _ hy
        rw [z, hH] at this
        cases this⟩ : Off st lg cl b (offF a F) H)
theorem lk_ok (w : Apart fr a) (hH : H a = some (.dK xs)) (h : FrOk fr b F H) : FrOk fr b (offF a F) (upd H a (.frz od (.dK xs))) :=
  (frok_off hH h).mut w off_same fun q e => by rw [hH] at e; exact plain_dK.2 q (Option.some.inj e)
theorem lk_un (w : Apart fr a) (hH : H2 a = some (.frz od (.dK xs))) (hF : F a = none ∨ F a = some (.dK xs)) (n : F2 a = none) (h : FrOk fr b F2 H2) : FrOk fr b (onF a (F a) F2) (upd H2 a (.dK xs)) := by
  have h1 : FrOk fr b F2 (upd H2 a (.dK xs)) := h.mut w n fun q e => by rw [hH] at e; exact nomatch Option.some.inj e
  have z1 : Ex (onF a (F a) F2) (upd H2 a (.dK xs)) := fun c o e => by
    by_cases q : c = a
    · subst q
      rw [on_same] at e
      rw [upd_same]
      rcases hF with hF | hF <;> rw [hF] at e <;> cases e
      rfl
    · rw [on_ne q] at e
      exact h1.z _ _ e
  match fr, w, h1 with
  | Option.none, _, _ => exact z1
  | some (st, lg, cl), w, h1 =>
    have h1 : Off st lg cl b F2 (upd H2 a (.dK xs)) := h1
    have w : Cn.Ow st lg cl a := w
    refine (⟨z1, ?_, ?_, h1.ok, h1.tb, fun p hp => ?_, fun c ps e => ?_, ?_⟩ : Off st lg cl b _ _)
    · rw [on_ne w.a.symm]; exact h1.s
    · rw [on_ne w.b.symm]; exact h1.l
    · rw [on_ne (w.d p hp).symm]; exact h1.tf p hp
    · by_cases q : c = a
      · subst q
        rw [on_same] at e
        rcases hF with hF | hF <;> rw [hF] at e <;> cases e
      · rw [on_ne q] at e
        exact h1.nt c ps e
    · obtain ⟨oy, hy⟩ := h1.sy
      refine ⟨oy, ?_⟩
      rw [on_ne fun z => ?_]
      · exact hy
      · rw [z] at hy
        rw [n] at hy
        cases hy
theorem lk_at (w : Apart fr a) (g : FrRel fr (offF a F) (upd H a (.frz od (.dK xs))) F2 H2) : H2 a = some (.frz od (.dK xs)) ∧ F2 a = none := by
  have t : ¬ IsTbl (.frz od (.dK xs)) := fun ⟨_, h⟩ => nomatch h
  exact ⟨g.own t w upd_same, g.nw t upd_same off_same⟩
theorem lk_rel (z : Ex F H) (w : Apart fr a) (hH : H a = some (.dK xs)) (hF : F a = none ∨ F a = some (.dK xs)) (z2 : Ex F2 H2) (g : FrRel fr (offF a F) (upd H a (.frz od (.dK xs))) F2 H2) : FrRel fr F H (onF a (F a) F2) (upd H2 a (.dK xs)) := by
  obtain ⟨h2, n2⟩ := lk_at w g
  have ff : Ex F (onF a (F a) F2) := fun c o e => by
    by_cases q : c = a
    · subst q
      rw [on_same]
      exact e
    · rw [on_ne q]
      exact g.ff _ _ (by rw [off_ne q]; exact e)
  have fh : Ex (onF a (F a) F2) (upd H2 a (.dK xs)) := fun c o e => by
    by_cases q : c = a
    · subst q
      rw [on_same] at e
      rw [upd_same]
      rcases hF with hF | hF <;> rw [hF] at e <;> cases e
      rfl
    · rw [on_ne q] at e
      rw [upd_ne q]
      exact z2 _ _ e
  have nt0 : (∀ c ps, F2 c ≠ some (.tbl ps)) → ∀ c ps, onF a (F a) F2 c ≠ some (.tbl ps) := fun h c ps e => by
    by_cases q : c = a
    · subst q
      rw [on_same] at e
      rcases hF with hF | hF <;> rw [hF] at e <;> cases e
    · rw [on_ne q] at e
      exact h c ps e
  have nto : (∀ c ps, F c ≠ some (.tbl ps)) → ∀ c ps, offF a F c ≠ some (.tbl ps) := fun h c ps e => h c ps (off_ex _ _ e)
  match fr, w, g with
  | Option.none, _, g =>
    have g : Grow (offF a F) (upd H a (.frz od (.dK xs))) F2 H2 := g
    refine (⟨ff, fh, fun c o e => ?_, fun c o e n => ?_, fun h => nt0 (g.nt (nto h))⟩ : Grow _ _ _ _)
    · by_cases q : c = a
      · subst q
        rw [upd_same, ← hH, e]
      · rw [upd_ne q]
        exact g.hh _ _ (by rw [upd_ne q]; exact e)
    · by_cases q : c = a
      · subst q
        rw [on_same, n]
      · rw [on_ne q]
        exact g.nw c o (by rw [upd_ne q]; exact e) (by rw [off_ne q]; exact n)
  | some (st, lg, cl), w, g =>
    have g : GM st lg (offF a F) (upd H a (.frz od (.dK xs))) F2 H2 := g
    have w : Cn.Ow st lg cl a := w
    refine (⟨ff, fh, fun c o n1 n2 t e => ?_, fun c o t e n => ?_, fun c o t e => ?_, fun p hp h => ?_, fun h => nt0 (g.nt (nto h))⟩ : GM st lg _ _ _ _)
    · by_cases q : c = a
      · subst q
        rw [upd_same, ← hH, e]
      · rw [upd_ne q]
        exact g.fr _ _ n1 n2 t (by rw [upd_ne q]; exact e)
    · by_cases q : c = a
      · subst q
        rw [on_same, n]
      · rw [on_ne q]
        exact g.nw c o t (by rw [upd_ne q]; exact e) (by rw [off_ne q]; exact n)
    · by_cases q : c = a
      · subst q
        exact ⟨_, tbl_dK, upd_same⟩
      · rw [upd_ne q]
        exact g.kp c o t (by rw [upd_ne q]; exact e)
    · have q : p.1 ≠ a := (w.d p hp).symm
      obtain ⟨h1, h3⟩ := g.tk p hp (by rw [upd_ne q]; exact h)
      exact ⟨by rw [upd_ne q]; exact h1, fun n => by rw [on_ne q]; exact h3 (by rw [off_ne q]; exact n)⟩
end
def keepR : Rho → List Bool → Rho
  | [], _ => []
  | _ :: ρ, [] => none :: keepR ρ []
  | s :: ρ, true :: m => s :: keepR ρ m
  | _ :: ρ, false :: m => none :: keepR ρ m
def okS : Option Sv → Prop
  | some (.sh d) => noD d = true
  | some (.ow _) => False
  | _ => True
def okR : Rho → List Bool → Prop
  | s :: ρ, true :: m => okS s ∧ okR ρ m
  | _ :: ρ, false :: m => okR ρ m
  | _, _ => True
theorem keep_len : ∀ (ρ : Rho) (m : List Bool), (keepR ρ m).length = ρ.length
  | [], _ => rfl
  | _ :: ρ, [] => by show (keepR ρ []).length + 1 = _; rw [keep_len ρ []]; rfl
  | _ :: ρ, true :: m => by show (keepR ρ m).length + 1 = _; rw [keep_len ρ m]; rfl
  | _ :: ρ, false :: m => by show (keepR ρ m).length + 1 = _; rw [keep_len ρ m]; rfl
theorem at_keep : ∀ {ρ : Rho} {m : List Bool} {i : Nat} {s : Sv}, at_ (keepR ρ m) i = some s → at_ ρ i = some s ∧ (okR ρ m → okS (some s))
  | [], _, _, _, h => by cases h
  | _ :: ρ, [], 0, _, h => by cases h
  | _ :: ρ, [], i + 1, s, h => ⟨(at_keep (ρ := ρ) (m := []) (i := i) h).1, fun _ => (at_keep (ρ := ρ) (m := []) (i := i) h).2 (by cases ρ <;> trivial)⟩
  | x :: ρ, true :: m, 0, s, h => ⟨h, fun k => by have h : x = some s := h; rw [← h]; exact k.1⟩
  | _ :: ρ, true :: m, i + 1, s, h => ⟨(at_keep (ρ := ρ) (m := m) (i := i) h).1, fun k => (at_keep (ρ := ρ) (m := m) (i := i) h).2 k.2⟩
  | _ :: ρ, false :: m, 0, _, h => by cases h
  | _ :: ρ, false :: m, i + 1, s, h => ⟨(at_keep (ρ := ρ) (m := m) (i := i) h).1, fun k => (at_keep (ρ := ρ) (m := m) (i := i) h).2 k⟩
section
variable {c : Cd} {F0 H0 F H F2 H2 : Hp} {ρ : Rho} {b b2 : Nat} {σ : L2.St} {a : Addr} {od : Obj} {xs : List (Key × V)} {m : List Bool}
theorem off_no (z : Ex F H) (hH : H a = some (.dK xs)) : NoDx F (offF a F) := fun b o e => by
  by_cases q : b = a
  · subst q
    have := z _ _ e
    rw [hH] at this
    exact .inr ⟨_, (Option.some.inj this).symm⟩
  · exact .inl (by rw [off_ne q]; exact e)
theorem Wd.lk (W : Wd c F0 H0 ρ b F H σ) (w : Apart c.fr a) (hH : H a = some (.dK xs)) (k : okR ρ m) : Wd c (offF a F) (upd H a (.frz od (.dK xs))) (keepR ρ m) b (offF a F) (upd H a (.frz od (.dK xs))) σ := by
  have no := off_no W.z hH
  have ok := lk_ok (od := od) w hH W.ok
  refine ⟨ok, FrRel.refl ok.z, by rw [keep_len]; exact W.len, fun i s h => ?_, fun i j d e _ h1 h2 => ?_⟩
  · obtain ⟨h1, h2⟩ := at_keep h
    have q := W.sl i s h1
    have k := h2 k
    cases s with
    | sh d => obtain ⟨v, e, r⟩ := q; exact ⟨v, e, rz_off no r k⟩
    | ow d => exact k.elim
    | st => exact q
    | sc n =>
      obtain ⟨l, ys, e1, e2, e3⟩ := q
      refine ⟨l, ys, e1, ?_, e3⟩
      rcases e2 with (e | ⟨o, e⟩) | e
      · rcases no _ _ e with e | ⟨_, e⟩
        · exact .inl (.inl e)
        · cases e
      · rcases no _ _ e with e | ⟨_, e⟩
        · exact .inl (.inr ⟨o, e⟩)
        · cases e
      · exact .inr e
    | me x => exact q
  · exact ((at_keep h1).2 k).elim
/-- what was locked is as it was -/
theorem Wd.un (W : Wd c F0 H0 ρ b F H σ) (w : Apart c.fr a) (hH : H a = some (.dK xs)) (ok : FrOk c.fr b2 F2 H2) (g : FrRel c.fr (offF a F) (upd H a (.frz od (.dK xs))) F2 H2) :
    FrRel c.fr F H (onF a (F a) F2) (upd H2 a (.dK xs)) ∧ Wd c F0 H0 ρ b2 (onF a (F a) F2) (upd H2 a (.dK xs)) σ := by
  have hF : F a = none ∨ F a = some (.dK xs) := by
    cases e : F a with
    | none => exact .inl rfl
    | some o => exact .inr (by rw [← hH]; exact (W.z _ _ e).symm)
  obtain ⟨h2, n2⟩ := lk_at w g
  have g2 := lk_rel W.z w hH hF ok.z g
  exact ⟨g2, W.step g2 (lk_un w h2 hF n2 ok)⟩
end
def kOk : Key → Prop
  | .inl _ => True
  | .inr x => x.length ≤ 100000
section
variable {c : Cd} {tt : TT} {td te tk tv : TE} {wt : WT} {wd we wk wv : WE} {g : TG} {wg : WG} {is vs : List Nat} {m : List Bool} {pr : Bool} {NF : Addr → Prop}
def itmD (d : Dt) (k : List (Key × Dt) → Prop) : Prop := match d with
  | .dict kvs => k kvs
  | _ => False
theorem e_itm {kvs : List (Key × Dt)} {k : List (Key × Dt) → Prop} : itmD (.dict kvs) k = k kvs := (rfl)
def wItm (DL : List (Key × Dt) → List Dt) (wd : WE) (m : List Bool) (k : Rho → List Dt → Nat → QD → Prop) : WE := fun ρ b q qx => wd ρ b (fun d b1 => itmD d fun kvs => (∀ p ∈ kvs, noD p.2 = true ∧ kOk p.1) ∧ okR ρ m ∧ k (keepR ρ m) (DL kvs) b1 q) qx
def wLcI (DL : List (Key × Dt) → List Dt) (wd : WE) (m : List Bool) (g : WG) (wt : WT) (we : WE) (vs : List Nat) : WE := wItm DL wd m fun ρ ds b q => lcW g wt we (wipeR ρ vs) ds b fun r b2 => q (.list r) b2
def wDcI (DL : List (Key × Dt) → List Dt) (wd : WE) (m : List Bool) (g : WG) (wt : WT) (wk wv : WE) (vs : List Nat) : WE := wItm DL wd m fun ρ ds b q => dcW g wt wk wv (wipeR ρ vs) ds b [] fun r b2 => q (.dict r) b2
theorem e_lcI {DL : List (Key × Dt) → List Dt} {g : WG} {ρ : Rho} {b : Nat} {q : QD} {qx : QX} : wLcI DL wd m g wt we vs ρ b q qx = (wd ρ b (fun d b1 => itmD d fun kvs => (∀ p ∈ kvs, noD p.2 = true ∧ kOk p.1) ∧ okR ρ m ∧ lcW g wt we (wipeR (keepR ρ m) vs) (DL kvs) b1 fun r b2 => q (.list r) b2) qx) := (rfl)
theorem e_dcI {DL : List (Key × Dt) → List Dt} {g : WG} {ρ : Rho} {b : Nat} {q : QD} {qx : QX} : wDcI DL wd m g wt wk wv vs ρ b q qx = (wd ρ b (fun d b1 => itmD d fun kvs => (∀ p ∈ kvs, noD p.2 = true ∧ kOk p.1) ∧ okR ρ m ∧ dcW g wt wk wv (wipeR (keepR ρ m) vs) (DL kvs) b1 [] fun r b2 => q (.dict r) b2) qx) := (rfl)
theorem e_kp0 {m : List Bool} : keepR [] m = [] := by cases m <;> rfl
theorem e_kpN {s : Option Sv} {ρ : Rho} : keepR (s :: ρ) [] = none :: keepR ρ [] := (rfl)
theorem e_kpT {s : Option Sv} {ρ : Rho} {m : List Bool} : keepR (s :: ρ) (true :: m) = s :: keepR ρ m := (rfl)
theorem e_kpF {s : Option Sv} {ρ : Rho} {m : List Bool} : keepR (s :: ρ) (false :: m) = none :: keepR ρ m := (rfl)
theorem e_okT {s : Option Sv} {ρ : Rho} {m : List Bool} : okR (s :: ρ) (true :: m) = (okS s ∧ okR ρ m) := (rfl)
theorem e_okF {s : Option Sv} {ρ : Rho} {m : List Bool} : okR (s :: ρ) (false :: m) = okR ρ m := (rfl)
theorem e_okN {ρ : Rho} : okR ρ [] = True := by cases ρ <;> rfl
theorem e_ok0 {m : List Bool} : okR [] m = True := by cases m <;> rfl
theorem e_okS {d : Dt} : okS (some (.sh d)) = (noD d = true) := (rfl)
theorem e_okU : okS none = True := (rfl)
theorem e_okSt : okS (some .st) = True := (rfl)
end
end Dw
set_option Elab.async false
set_option linter.all false
set_option maxRecDepth 100000
set_option maxHeartbeats 4000000
namespace Dw
open PySem PySem.Spec PyProof.Rows L2 Cn LamX
def reprS (d : Dt) (q : Dt → Prop) : Prop := match d.pd2 with
  | some e => (e.showable = true ∧ e.depth ≤ 60 ∧ e.shown.length ≤ 100000) ∧ q (.str e.shown)
  | Option.none => False
def wReprS (we : WE) : WE := fun ρ b q qx => we ρ b (fun d b1 => reprS d fun z => q z b1) qx
theorem e_reprS {we : WE} {ρ : Rho} {b : Nat} {q : QD} {qx : QX} : wReprS we ρ b q qx = we ρ b (fun d b1 => reprS d fun z => q z b1) qx := (rfl)
theorem SysF.no {F H : Hp} (h : SysF F) (z : Ex F H) : NoSysL H := fun a xs e q => by
  obtain ⟨oy, hy⟩ := h
  have := z _ _ hy
  rw [q, e] at this
  cases this
theorem sn_reprS {c : Cd} {T : List (Addr × Str)} {te : TE} {we : WE} (hfr : FrT T c.fr) (h : SndB c te we) : SndE c (tCB (rReprX c.K c.mg) (tCons te tNil)) (wReprS we) := fun F0 H0 ρ b F H σ W q qx Q hw lx lk =>
  h F0 H0 ρ b F H σ W _ qx _ hw lx fun v d b1 F1 H1 h1 g1 W1 p => by
    unfold reprS at h1
    split at h1
    · rename_i e he
      have ns : NoSysL H1 := by
        obtain ⟨st, lg, cl, e1, _⟩ := hfr
        have ok := W1.ok
        rw [e1] at ok
        exact SysF.no (Off.sy ok) W1.z
      exact ⟨v, d, e, rfl, pb_rz p W1.z, he, .inr (.inr ns), h1.1.1, h1.1.2.1, Evl.sz_of h1.1.2.2, lk _ _ _ F1 H1 h1.2 g1 W1 (.str _ h1.1.2.2)⟩
    · exact h1.elim
end Dw
set_option Elab.async false
set_option linter.all false
set_option maxRecDepth 100000
set_option maxHeartbeats 4000000
namespace PySem.HandSPX
open PySem PySem.Spec PyProof.Rows
section
variable {M : Model} {A : Around} {E : Value → Shared → Prop} {h : Heap} {g : Array GenState} {d : Drawn} {t : Nat} {os : OsState}
variable {nm q : Str} {C N : Addr} {bs bm bmB : List Value} {hdct : Bool} {sn : List Str} {sub : List Value} {ab : Bool} {col : Option Bool} {dd : Option Addr} {k0 k1 k2 k3 k5 : Option Value} {B newId initId : String}
theorem check_new_ownK (F : ExcBaseFacts B newId initId bmB) (hT : ∀ X : String, bm.contains (.type X) = bmB.contains (.type X)) {kw : List (Str × Value)} {Q : Unit → Shared → Prop}
    (hC : h.get? C = some (excClassObj nm q C N bs bm hdct sn sub ab col dd k0 k1 k2 k3 k5 newId)) (hq : Q () ⟨h, g, d, t, os⟩) : wpAny M A (checkBuiltinCall newId ⟨[.ref C], kw⟩) Q E ⟨h, g, d, t, os⟩ := by
  have hcont : (Value.ref C :: bm).contains (.type B) = true := by rw [List.contains_cons, hT, F.hasB, Bool.or_true]
  have hstar := F.noStar
  simp only [checkBuiltinCall, F.newKind, F.newSplit, F.newRow]
  repeat (first | refine wpAny_loadPart_at hC ?_ | (refine wpAny_isSubtype_exc hC ?_; rw [hcont]) | refine wpAny_staticBase_exc hC ?_ | refine wpAny_madeBy_exc hC ?_ | simp only [bne_self_eq_false, Bool.false_eq_true, if_false] | wp_step)
  exact hq
end
section
variable {prog : Program} {w : World} {A : Around} {E : Value → Shared → Prop} {R : Result → Shared → Prop} {h : Heap} {g : Array GenState} {d : Drawn} {t : Nat} {os : OsState}
variable {nm q : Str} {C N : Addr} {bs bm bmB : List Value} {hdct : Bool} {sn : List Str} {sub : List Value} {ab : Bool} {col : Option Bool} {dd : Option Addr} {k0 k1 k2 k3 k5 : Option Value} {B newId initId : String}
theorem new_ownK (F : ExcBaseFacts B newId initId bmB) (hT : ∀ X : String, bm.contains (.type X) = bmB.contains (.type X)) {kw : List (Str × Value)}
    (hC : h.get? C = some (excClassObj nm q C N bs bm hdct sn sub ab col dd k0 k1 k2 k3 k5 newId))
    (hq : R (.ok (.ret (.ref (h.objs.size + 1)))) ⟨(h.push { cls := .type "tuple", data := .seq #[] }).push
      { cls := .ref C, data := .fields #[.ref h.objs.size, .none, .none, .none, .bool false, .none] }, g, d, t, os⟩)  :
    codeAny (model prog w) A (.builtin newId ⟨[.ref C], kw⟩) R ⟨h, g, d, t, os⟩ := by
  have hends := F.ends
  have hcB : (Value.ref C :: bm).contains (.type B) = true := by rw [List.contains_cons, hT, F.hasB, Bool.or_true]
  have hcA : (Value.ref C :: bm).contains (.type "AttributeError") = false := by rw [List.contains_cons, hT, F.noAttr]; rfl
  have hcN : (Value.ref C :: bm).contains (.type "NameError") = false := by rw [List.contains_cons, hT, F.noName]; rfl
  refine codeAny_builtinAt F.entry ?_
  unfold Builtin.«BaseException.__new__»
  refine wpAt_bind ?_
  show wpAt _ _ _ (stack >>= _) _ _ _
  refine wpAt_bind (wpAt_stack fun p below => wpAt_of_wpAny ?_)
  wp_walk
  refine wpAt_of_wpAny ?_
  rw [F.owner]
  repeat (first | with_reducible refine wpAny_madeHere_exc F.canon hC ?_ | with_reducible refine wpAny_loadPart_at hC ?_ | (with_reducible refine wpAny_isSubtype_exc hC ?_; first | rw [hcB] | rw [hcA] | rw [hcN]) | wp_step)
  show R _ _
  rw [Heap.size_push]
  exact hq
theorem type_call_ownK (F : ExcBaseFacts B newId initId bmB) (hT : ∀ X : String, bm.contains (.type X) = bmB.contains (.type X)) {kw : List (Str × Value)} {fI : Addr} {Q : Fin → Shared → Prop}
    (hC : h.get? C = some (excClassObj nm q C N bs bm hdct sn sub ab col dd k0 k1 k2 k3 k5 newId))
    (hi : W.Looks (model prog w) h (typeLookup (.ref C) "__init__") (some (.ref fI))) (hb : ∀ self, W.Looks (model prog w) h (bindSpecial (.ref fI) self) (.ref fI, [self])) 
    (hq : codeAny (model prog w) A (.call (.ref fI) ⟨[.ref (h.objs.size + 1)], kw⟩)
      (fun r s' => match r with | .ok (.ret v) => v = .none ∧ Q (.done (.ret (.ref (h.objs.size + 1)))) s' | .ok _ => False | .error e => E e s')
      ⟨(h.push (W.kdv_tup [])).push (excO C h.objs.size), g, d, t, os⟩) :
    wpAny (model prog w) A (Builtin.«type.__call__» ⟨[.ref C], kw⟩) Q E ⟨h, g, d, t, os⟩ := by
  repeat (first | with_reducible refine wpAny_loadPart_at hC ?_ | with_reducible refine wpAny_madeBy_exc hC ?_ | wp_step)
  refine codeAny_call_builtin_code (Code.quiet_builtin _ F.quiet) (check_new_ownK F hT hC ?_)
  refine new_ownK F hT hC ?_ 
  show wpAny _ _ _ _ _ _
  have k : ∀ b o, h.get? b = some o → ((h.push (W.kdv_tup [])).push (excO C h.objs.size)).get? b = some o := fun b o e => Heap.get?_push_of_some _ (Heap.get?_push_of_some _ e)
  have hC₁ := k _ _ hC
  have hget : ((h.push (W.kdv_tup [])).push (excO C h.objs.size)).get? (h.objs.size + 1) = some (excO C h.objs.size) := by heap_get
  have hcC : (Value.ref C :: bm).contains (.ref C) = true := by simp
  have i1 := hi.keeps k
  have b1 := (hb (.ref (h.objs.size + 1))).keeps k
  unfold isInstance
  repeat (first | with_reducible refine wpAny_loadPart_at hget ?_ | (with_reducible refine wpAny_isSubtype_exc hC₁ ?_; rw [hcC]) | wp_step)
  show wpAny _ _ (typeLookup (.ref C) _) _ _ _
  refine i1.at ?_
  refine wpAny_holding (wpAny_bind (b1.at ?_))
  refine wpAny_bind (wpAny_call (codeAny_mono hq fun r s' z => ?_))
  rcases r with e | (v | _ | _ | _) <;> first | exact z | exact z.elim | skip
  obtain ⟨rfl, z⟩ := z
  first
    | exact wpAny_pure (wpAny_pure z)
    | (wp_walk; exact z)
theorem call_ownK (F : ExcBaseFacts B newId initId bmB) (hT : ∀ X : String, bm.contains (.type X) = bmB.contains (.type X)) {kw : List (Str × Value)} {fI : Addr}
    (hC : h.get? C = some (excClassObj nm q C N bs bm hdct sn sub ab col dd k0 k1 k2 k3 k5 newId))
    (hi : W.Looks (model prog w) h (typeLookup (.ref C) "__init__") (some (.ref fI))) (hb : ∀ self, W.Looks (model prog w) h (bindSpecial (.ref fI) self) (.ref fI, [self])) 
    (hq : codeAny (model prog w) (A.under (.builtin "type.__call__" ⟨[.ref C], kw⟩)) (.call (.ref fI) ⟨[.ref (h.objs.size + 1)], kw⟩) (W.InitBack (h.objs.size + 1) R)
      ⟨(h.push (W.kdv_tup [])).push (excO C h.objs.size), g, d, t, os⟩) :
    codeAny (model prog w) A (.call (.ref C) ⟨[], kw⟩) R ⟨h, g, d, t, os⟩ := by
  have f1 := tc_lookup
  have f2 := tc_bind (.ref C)
  have hTy : (⟨h, g, d, t, os⟩ : Shared).TypeIs (.ref C) "type" := ⟨_, hC, rfl⟩
  refine codeAny_of_tree ?_
  show wpAny _ _ (callAny (.ref C) _) _ _ _
  repeat (any_goals (first | assumption | with_reducible refine wpAny_loadPart_at hC ?_ | wp_step))
  refine ⟨rfl, ?_⟩
  refine codeAny_call_builtin_at (Code.quiet_builtin _ (by decide +kernel)) entry_typeCall (wpAny_check_type_call_sub hC (type_call_ownK F hT hC hi hb  ?_))
  refine codeAny_mono hq fun r s' z => ?_
  rcases r with e | (v | _ | _ | _) <;> exact z
end
end PySem.HandSPX
namespace Cn
open PySem PySem.Spec PyProof.Rows L2
structure ExJK (P : Program) (w : World) (K : PySem.W.Frag) (mg : Str → Option Value) (base : Heap) (x : Str) (C : Addr) (f : Str) : Prop where
  j : ExJ P w K mg base x C f
  kb : ∃ (fI : Addr) (fd : FuncData) (ps : List Str), PySem.W.findIn K (.ref C) "__init__" = some (some (.ref fI)) ∧ PySem.W.typeIn K (.ref fI) = some (.type "function") ∧ FnOk P w K mg base C8.CX0 1 fI fd ps (spIni C f) ∧ ∀ me u : Value, bindArgs fd ⟨[me], [(f, u)]⟩ = pure (ps.zip [me, u])
theorem ExJK.g {P : Program} {w : World} {K : PySem.W.Frag} {mg : Str → Option Value} {base : Heap} {x : Str} {C : Addr} {f : Str} (h : ExJK P w K mg base x C f) : mg x = some (.ref C) := h.j.g
section
variable {X : Cx}
/-- X(f = e): the reading -/
def tExJK (C : Addr) (f : Str) (tk : TA) : TE := fun σ H Q => tk σ H fun ys H1 => ∃ y, ys = [y] ∧ ∀ a dx, H1 a = none → H1 dx = none → dx ≠ a → Q (.ref a) (upd (upd (upd H1 a (exo a C none)) dx (exd dx [(f, y)])) a (exo a C (some dx)))
theorem pe_exJK {P : Program} {w : World} {K : PySem.W.Frag} {mg : Str → Option Value} {base : Heap} {x f : Str} {C : Addr} {kws : List Keyword} {tk : TA} {p pos : Pos} (hP : X.prog = P) (hw : X.w = w) (hK : X.K = K) (hm : X.mg = mg) (hb : X.base = base) (h : ExJK P w K mg base x C f) (hr : Room 2 X.A) (hg : Gl X x)
    (hkw : PK X kws tk) (hall : (backToKw pos (keywordEach kws X.env)).all (·.1.isSome) = true := by rfl) (hks : (backToKw pos (keywordEach kws X.env)).filterMap (·.1) = [f] := by rfl)
    (hd : (x == ("__debug__" : Str)) = false := by decide) (hpl : ((backTo pos (starEach [] X.env)).any (·.1) || (backToKw pos (keywordEach kws X.env)).any (·.1.isNone)) = false := by rfl) : PE X (.Call (.Name x p) [] kws pos) (tExJK C f tk) := by
  subst hP hw hK hm hb
  obtain ⟨fI, fd, ps, iC, tI, F1, B1⟩ := h.kb
  obtain ⟨nm, q, N, bs, bm, sn, sb, ab, col, dd, k0, k1, k2, k3, k5, hC, hbm⟩ := h.j.T.cls
  refine ⟨fun pins s σ H Q I hq => wpAny_Call_Name_kw (ld_glob I hg h.j.g ?_ hd)⟩
  refine PySem.W.callWith_KW0 (h₀ := X.base) I.ok.mod.kin h.j.T.kC hall (thn (hkw.run pos pins s σ H _ I hq) fun us t1 ⟨vs, H1, I1, r1, y, ey, q1⟩ => ⟨I1.kIn, ?_⟩) hpl
  subst ey
  rw [hks]
  obtain ⟨uy, rfl, ry⟩ : ∃ uy, us = [uy] ∧ RelV y uy := by
    cases r1 with
    | cons z1 z2 =>
      cases z2
      exact ⟨_, rfl, z1⟩
  show wpAny _ _ (call (.ref C) [] [(f, uy)]) _ _ _
  obtain ⟨hp, g, dr, tk, os⟩ := t1
  have lt1 : hp.objs.size ≤ hp.objs.size + 1 := Nat.le_succ _
  have new : H1 (hp.objs.size + 1) = none := I1.hok.fresh lt1
  let hp2 := (hp.push (PySem.W.kdv_tup [])).push (PySem.HandSPX.excO C hp.objs.size)
  have old : ∀ b o, hp.get? b = some o → hp2.get? b = some o := fun b o e1 => Heap.get?_push_of_some _ (Heap.get?_push_of_some _ e1)
  have at_ : hp2.get? (hp.objs.size + 1) = some (PySem.HandSPX.excO C hp.objs.size) := by
    show ((hp.push (PySem.W.kdv_tup [])).push (PySem.HandSPX.excO C hp.objs.size)).get? (hp.objs.size + 1) = _
    heap_get
  have J : Inv X pins σ (upd H1 (hp.objs.size + 1) (exo (hp.objs.size + 1) C none)) ⟨hp2, g, dr, tk, os⟩ := I1.laid (t' := tk) (a := hp.objs.size + 1) (o := exo (hp.objs.size + 1) C none) (h' := hp2) old lt1 (exo_ok at_)
  have sp_ : spIni C f [V.ref (hp.objs.size + 1), y] (upd H1 (hp.objs.size + 1) (exo (hp.objs.size + 1) C none)) (fun v H2 => v = .non ∧ Q (.ref (hp.objs.size + 1)) H2) (fun _ _ _ => False) := ⟨_, y, rfl, upd_same, fun dx n1 n2 => ⟨rfl, q1 _ dx new (by rw [upd_ne n2] at n1; exact n1) n2⟩⟩
  refine wpAny_call (PySem.HandSPX.call_ownK F.excBase_ValueError (fun Y => PySem.HandSPX.refsVE_contains Y bm hbm) (I1.kIn _ _ hC) (PySem.W.looks_findIn I1.kIn iC) (fun me => PySem.W.bind_fn I1.kIn me tI)
    (codeAny_mono (F1.run _ X.stack _ _ ⟨[Value.ref (hp.objs.size + 1)], [(f, uy)]⟩ [Value.ref (hp.objs.size + 1), uy] _ _ (fun _ _ _ => False) (hr.make C [] [(f, uy)]) (J.env0.make C [] [(f, uy)]) (.of_eq (B1 _ _)) (show Vals [V.ref (hp.objs.size + 1), y] [Value.ref (hp.objs.size + 1), uy] from .cons rfl (.cons ry .nil)) sp_) fun r s2 z => ?_))
  cases r with
  | error er => exact False.elim z
  | ok fl =>
    cases fl with
    | next => exact False.elim z
    | brk => exact False.elim z
    | cont => exact False.elim z
    | ret u =>
      obtain ⟨v, H2, w1, w2, w3, w4, rv, ev, q2⟩ := z
      subst ev
      exact ⟨rv, .ref _, H2, J.call' w1 w3 w4 w2 (fun b hb => absurd hb List.not_mem_nil), rfl, q2⟩
end
end Cn
set_option Elab.async false
set_option linter.all false
set_option maxRecDepth 100000
set_option maxHeartbeats 4000000
namespace Dw
open PySem PySem.Spec PyProof.Rows L2 Cn
def errJK (x f : Str) (ds : List Dt) (q : Dt → Prop) : Prop := match ds with
  | [d] => q (.err x [(f, d)])
  | _ => False
theorem e_errJK1 {x f : Str} {d : Dt} {q : Dt → Prop} : errJK x f [d] q = q (.err x [(f, d)]) := (rfl)
def wErrJK (x f : Str) (wk : WA) : WE := fun ρ b q qx => wk ρ b (fun ds b1 => errJK x f ds fun d => q d b1) qx
theorem e_errJK {x f : Str} {wk : WA} {ρ : Rho} {b : Nat} {q : QD} {qx : QX} : wErrJK x f wk ρ b q qx = wk ρ b (fun ds b1 => errJK x f ds fun d => q d b1) qx := (rfl)
theorem sn_errJK {c : Cd} {x f : Str} {C : Addr} {tk : TA} {wk : WA} (h : c.mg x = some (.ref C)) (he : SndR c tk wk 1) : SndE c (tExJK C f tk) (wErrJK x f wk) := fun F0 H0 ρ b F H σ W q qx Q hw lx l => he F0 H0 ρ b F H σ W _ qx _ hw lx fun vs ds b1 F1 H1 h1 hn g1 W1 r1 => by
  unfold errJK at h1
  split at h1
  · rename_i d
    cases r1 with
    | cons r1 t1 =>
    cases t1
    rename_i v
    refine ⟨v, rfl, fun a dx ha hd ne => ?_⟩
    have e0 : upd (upd (upd H1 a (exo a C none)) dx (exd dx [(f, v)])) a (exo a C (some dx)) = upd (upd H1 dx (exd dx [(f, v)])) a (exo a C (some dx)) := by
      funext y
      by_cases h1 : y = a
      · rw [h1, upd_same, upd_same]
      · rw [upd_ne h1, upd_ne h1]
        by_cases h2 : y = dx
        · rw [h2, upd_same, upd_same]
        · rw [upd_ne h2, upd_ne h2, upd_ne h1]
    rw [e0]
    have G1 := Grow.new (o := exd dx [(f, v)]) W1.z hd
    have G2 := Grow.new (p := a) (o := exo a C (some dx)) G1.fh (by rw [upd_ne (Ne.symm ne)]; exact ha)
    have G := G1.trans G2
    exact l _ _ b1 _ _ h1 (g1.trans (FrRel.of G)) (W1.grow G) (.errN h upd_same (by rw [upd_ne ne]; exact upd_same) (.cons (rz_ex G.ff r1) .nil))
  · exact h1.elim
end Dw
set_option Elab.async false
set_option linter.all false
set_option maxRecDepth 100000
set_option maxHeartbeats 4000000
namespace Dw
open PySem PySem.Spec PyProof.Rows L2 Cn LamX
variable {K : PySem.W.Frag} {mg : Str → Option Value}
def kitAll (K : PySem.W.Frag) (L : List (Str × Addr)) : Bool := L.all fun p => (PySem.W.kitOne K (.ref p.2) (.type "ValueError") == some true) && ((PySem.W.kitOne K (.type "NoneType") (.ref p.2) == some false) && L.all fun q => PySem.W.kitOne K (.ref p.2) (.ref q.2) == some (q.1 == p.1 || q.1 == "CornerError"))
theorem kitAll_at {L : List (Str × Addr)} (h : kitAll K L = true) {p : Str × Addr} (hp : p ∈ L) : PySem.W.kitOne K (.ref p.2) (.type "ValueError") = some true ∧ PySem.W.kitOne K (.type "NoneType") (.ref p.2) = some false ∧ ∀ q ∈ L, PySem.W.kitOne K (.ref p.2) (.ref q.2) = some (q.1 == p.1 || q.1 == "CornerError") := by
  have := List.all_eq_true.mp h p hp
  simp only [Bool.and_eq_true, beq_iff_eq] at this
  exact ⟨this.1, this.2.1, fun q hq => beq_iff_eq.mp (List.all_eq_true.mp this.2.2 q hq)⟩
theorem ekN_mk2 {L : List (Str × Addr)} (h : kitAll K L = true) (hm : ∀ p ∈ L, mg p.1 = some (.ref p.2) ∧ ExcC K p.2) (knV : PySem.W.kitOne K (.type "NoneType") (.type "ValueError") = some false) : EKN K mg (subF (L.map (·.1))) (L.map (·.1)) :=
  ⟨ekn_mk fun p hp => ⟨(hm p hp).1, (hm p hp).2, (kitAll_at h hp).1, (kitAll_at h hp).2.2⟩, fun t ht T hT => by
    obtain ⟨p, hp, rfl⟩ := List.mem_map.mp ht
    rw [(hm p hp).1] at hT
    cases hT
    exact (kitAll_at h hp).2.1, knV⟩
/-- what K tells of an own error class with a field and of its __init__ -/
abbrev HXof (file : Str) (K : PySem.W.Frag) (C : Addr) (i : Stmt) (q f : Str) : Prop := ∃ (nm qn : Str) (N fI cda cc : Addr) (bs bm : List Value) (sn : List Str) (su : List Value) (ab : Bool) (col : Option Bool) (dd : Option Addr) (m0 m1 m2 m3 m5 : Option Value)
    (oc kV dc pm ct : Value) (od an : Option Addr) (osl : Array (Option Value)) (ccl : Value) (cdd : Option Addr) (vs : Array Value) (ccs : Array (Option Value)) (cl : Value) (cld : Option Addr) (csl : Array (Option Value)),
    K.lookup C = some (excClassObj nm qn C N bs bm true sn su ab col dd m0 m1 m2 m3 m5 "ValueError.__new__") ∧ PySem.HandSPX.refsVE bm = true ∧ PySem.W.findIn K (.ref C) "__setattr__" = some (some (.builtin "object.__setattr__")) ∧ PySem.W.subIn K (.ref C) (.type "BaseException") = some true
    ∧ PySem.W.typeIn K (.ref C) = some (.type "type") ∧ PySem.W.keepIn K (.ref C) = true ∧ PySem.W.findIn K (.ref C) "__init__" = some (some (.ref fI)) ∧ PySem.W.typeIn K (.ref fI) = some (.type "function") ∧ PySem.W.ks_superIn K C C "__init__" = some (some (.builtin "ValueError.__init__"))
    ∧ PySem.W.subIn K (.ref C) (.type "ValueError") = some true ∧ PySem.W.mroIn K C (.ref C) = some true ∧ K.lookup fI = some ⟨oc, od, .func (PySem.W.ksFn "__init__" q (defArgs i) (defBody i) (defScope i) .none kV dc pm an (.ref cda) ct cc), osl⟩
    ∧ K.lookup cda = some ⟨ccl, cdd, .fields vs, ccs⟩ ∧ (∃ t, vs[2]? = some (.str file t)) ∧ PySem.W.codeIn K (.ref cda) q = true ∧ K.lookup cc = some ⟨cl, cld, .cell (some (.ref C)), csl⟩ ∧ PySem.W.findIn K (.ref C) f = some none
end Dw
set_option Elab.async false
set_option linter.all false
set_option maxRecDepth 100000
set_option maxHeartbeats 4000000
set_option Elab.async false
set_option linter.all false
set_option maxRecDepth 100000
set_option maxHeartbeats 4000000
set_option Elab.async false
set_option linter.all false
set_option maxRecDepth 100000
set_option maxHeartbeats 4000000
set_option Elab.async false
set_option linter.all false
set_option maxRecDepth 100000
set_option maxHeartbeats 4000000
namespace Dw
open PySem PySem.Spec PyProof.Rows L2 Cn LamX
section
variable {α : Type} [DecidableEq α] [PySem.W.DatumOrd α]
theorem leO_trans {a b c : α} (h1 : leO a b = true) (h2 : leO b c = true) : leO a c = true := by
  unfold leO at *
  rw [← PySem.W.DatumOrd.lt_eq, Bool.not_eq_true'] at h1 h2 ⊢
  rw [← Bool.not_eq_true]
  intro h
  rcases PyProof.Rows.lex_negTrans (O := itemOrd) _ (PySem.W.keyToks (PySem.W.Datum.toD b)) _ h with h | h
  · exact absurd h (by unfold PySem.W.dataLt at h2; rw [h2]; decide)
  · exact absurd h (by unfold PySem.W.dataLt at h1; rw [h1]; decide)
theorem leO_total (a b : α) : (leO a b || leO b a) = true := by
  unfold leO
  rw [← PySem.W.DatumOrd.lt_eq, ← PySem.W.DatumOrd.lt_eq]
  cases h1 : PySem.W.dataLt (PySem.W.Datum.toD b) (PySem.W.Datum.toD a) with
  | false => rfl
  | true =>
    cases h2 : PySem.W.dataLt (PySem.W.Datum.toD a) (PySem.W.Datum.toD b) with
    | false => rfl
    | true =>
      have h := PyProof.Rows.lex_trans (O := itemOrd) _ _ _ h1 h2
      rw [PyProof.Rows.lex_irrefl] at h
      cases h
end
end Dw
set_option Elab.async false
set_option linter.all false
set_option maxRecDepth 100000
set_option maxHeartbeats 4000000
namespace Dw
open PySem PySem.Spec PyProof.Rows L2 Cn LamX
def top (i : Nat) : Stmt := PySem.Challenge.pw_cornerplans_k01_errors_by_hand.main.body.getD i (.Pass ⟨0, 0, 0, 0⟩)
structure Txt (mg : Str → Option Value) : Prop where
  b_ValueError : mg "ValueError" = none
  b_abs : mg "abs" = none
  b_int : mg "int" = none
  b_isinstance : mg "isinstance" = none
  b_len : mg "len" = none
  b_list : mg "list" = none
  b_min : mg "min" = none
  b_range : mg "range" = none
  b_repr : mg "repr" = none
  b_sorted : mg "sorted" = none
def EOWN : List Str := [("CornerError" : Str), ("BadPlan" : Str), ("BadPlans" : Str), ("BadNumber" : Str), ("BadSide" : Str), ("BadRule" : Str), ("BadRules" : Str), ("BadBook" : Str), ("BadThing" : Str), ("NoPlans" : Str), ("NoRule" : Str), ("BadLot" : Str), ("BadLimit" : Str), ("BadStretch" : Str), ("BadBox" : Str), ("BadRow" : Str), ("BadRows" : Str), ("BadPrices" : Str), ("NoRow" : Str), ("BadWords" : Str), ("BadFare" : Str), ("BadOffer" : Str), ("BadCell" : Str), ("BadForecast" : Str), ("BadStrategy" : Str), ("BadReceipts" : Str), ("TooMany" : Str), ("OtherThings" : Str), ("NotNow" : Str), ("NothingDone" : Str), ("BadHouse" : Str), ("BadJournal" : Str), ("BadText" : Str), ("BadMarks" : Str), ("NotSo" : Str), ("NoRounds" : Str), ("NoTurns" : Str), ("BadTurns" : Str)]
def subE : Str → Str → Option Bool := subF [("CornerError" : Str), ("BadPlan" : Str), ("BadPlans" : Str), ("BadNumber" : Str), ("BadSide" : Str), ("BadRule" : Str), ("BadRules" : Str), ("BadBook" : Str), ("BadThing" : Str), ("NoPlans" : Str), ("NoRule" : Str), ("BadLot" : Str), ("BadLimit" : Str), ("BadStretch" : Str), ("BadBox" : Str), ("BadRow" : Str), ("BadRows" : Str), ("BadPrices" : Str), ("NoRow" : Str), ("BadWords" : Str), ("BadFare" : Str), ("BadOffer" : Str), ("BadCell" : Str), ("BadForecast" : Str), ("BadStrategy" : Str), ("BadReceipts" : Str), ("TooMany" : Str), ("OtherThings" : Str), ("NotNow" : Str), ("NothingDone" : Str), ("BadHouse" : Str), ("BadJournal" : Str), ("BadText" : Str), ("BadMarks" : Str), ("NotSo" : Str), ("NoRounds" : Str), ("NoTurns" : Str), ("BadTurns" : Str)]
def fldE : Str → Option Str := fun x => ([("BadPlans", "at"), ("BadRules", "at"), ("BadBook", "part"), ("BadThing", "thing"), ("NoRule", "at"), ("BadBox", "part"), ("BadRow", "part"), ("BadRows", "at"), ("BadPrices", "part"), ("NoRow", "at"), ("BadFare", "part"), ("BadOffer", "part"), ("BadForecast", "part"), ("BadReceipts", "at"), ("TooMany", "most"), ("NotNow", "word"), ("BadJournal", "at"), ("BadText", "line"), ("BadMarks", "at"), ("BadTurns", "part")] : List (Str × Str)).lookup x
theorem call_lenK {X : Cx} {K : PySem.W.Frag} (h : X.K = K) : CallR X (.builtin "len") (fun xs H Q => ∃ x n, xs = [x] ∧ LenV K x H n ∧ Q (.int n) H) := call_lenKK h
theorem call_isi1K {X : Cx} {K : PySem.W.Frag} (h : X.K = K) : CallR X (.builtin "isinstance") (rIsi K) := h ▸ call_isi
theorem ix_seqK {X : Cx} {K : PySem.W.Frag} (h : X.K = K) : IxR X (rIx K) := h ▸ ix_seq
section
variable {P : Program} {w : World} {K : PySem.W.Frag} {mg : Str → Option Value} {base : Heap}
abbrev s__law_draw : Stmt := top 41
abbrev N__law_draw : List Str := ["_law_state", "_law_size", "_law_found", "_law_turn", "_law_cell", "_law_mixed"]
theorem sc__law_draw : FnScope N__law_draw ["_law_state", "_law_size"] (defScope s__law_draw) := ⟨rfl, rfl, rfl, by decide +kernel, rfl, by decide +kernel, by decide +kernel⟩
theorem k__law_draw (Fx : Fg K mg "_law_draw" s__law_draw) (T : Txt mg) : Kp P w K mg base 1 "_law_draw" ["_law_state", "_law_size"] spDraw2 := by
  refine kpH Fx sc__law_draw (fun F => F.binds fun _ _ _ _ _ _ us hl => match us, hl with | [_, _], _ => rfl) (fun vs H Q E h => by obtain ⟨st, lg, cl, b, n, rfl, _⟩ := h; rfl) fun f₀ cdv A outer s H vs Q E hr h => ?_
  have hu := hu_of hr
  refine ⟨_, (pss_cons (ps_while PassesOwn.never (PW.pt (pw_and (pt_cmpR op_eq (pe_dget hu (pv 0) pe_str (fun _ _ => rfl)) pe_int (nomark _)) (pw_and1 (pt_cmpR (op_neD hr.units) (pe_dget hu (pv 0) pe_str (fun _ _ => rfl)) (pe_lst pa_nil) (nomark _)))))
  (pss_one (ps_dput hu (pv 0) pe_str (pe_bm PySem.F.plainAttrs_list PySem.F.slot_list_pop PySem.F.type_list_pop mt_popAt (pe_dget hu (pv 0) pe_str (fun _ _ => rfl)) (pa_cons pe_int pa_nil)) rfl)))
  (pss_cons (ps_if (pt_cmpR op_gt (pe_dget hu (pv 0) pe_str (fun _ _ => rfl)) pe_int (nomark _))
  (pss_cons (ps_set (i := 2) sc__law_draw.nd rfl (Or.inl rfl) (pe_op op_mod (pe_callTy call_int1 (by rfl) T.b_int (by decide +kernel) (pa_cons (pe_dget hu (pv 0) pe_str (fun _ _ => rfl)) pa_nil)) (pv 1)))
  (pss_cons (ps_dput hu (pv 0) pe_str (pe_op op_fdiv (pe_dget hu (pv 0) pe_str (fun _ _ => rfl)) (pv 1)) rfl)
  (pss_one (ps_ret (pv 2))))) pss_nil)
  (pss_cons (ps_set (i := 3) sc__law_draw.nd rfl (Or.inl rfl) (pe_op op_add (pe_dget hu (pv 0) pe_str (fun _ _ => rfl)) pe_int))
  (pss_cons (ps_dput hu (pv 0) pe_str (pv 3) rfl)
  (pss_cons (ps_set (i := 4) sc__law_draw.nd rfl (Or.inl rfl) (pe_ifExp (pt_cmpR (op_neD hr.units) (pe_dget hu (pv 0) pe_str (fun _ _ => rfl)) (pe_lst pa_nil) (nomark _)) (pe_ix ix_list (pe_dget hu (pv 0) pe_str (fun _ _ => rfl)) (pe_op op_mod (pe_callTy call_int1 (by rfl) T.b_int (by decide +kernel) (pa_cons (pv 3) pa_nil)) (pe_callB (call_lenK (K := K) rfl) (by rfl) T.b_len (by decide +kernel) (pa_cons (pe_dget hu (pv 0) pe_str (fun _ _ => rfl)) pa_nil))) (fun _ _ => rfl)) pe_int))
  (pss_cons (ps_set (i := 5) sc__law_draw.nd rfl (Or.inl rfl) (pe_op op_mod (pe_callTy call_int1 (by rfl) T.b_int (by decide +kernel) (pa_cons (pe_op op_pow (pe_op op_add (pe_op op_add (pe_op op_mod (pe_callTy call_int1 (by rfl) T.b_int (by decide +kernel) (pa_cons (pv 4) pa_nil)) pe_int) (pe_op op_mul pe_int (pv 3))) pe_int) pe_int) pa_nil)) pe_int))
  (pss_one (ps_ret (pe_op op_mod (pe_callTy call_int1 (by rfl) T.b_int (by decide +kernel) (pa_cons (pe_op op_fdiv (pe_op op_mod (pe_callTy call_int1 (by rfl) T.b_int (by decide +kernel) (pa_cons (pe_op op_pow (pe_op op_add (pv 5) (pe_op op_mul pe_int (pv 3))) pe_int) pa_nil)) pe_int) pe_int) pa_nil)) (pv 1)))))))))), ?_⟩
  obtain ⟨st, lg, cl, b, n, rfl, n0, n1, ⟨la0, ce, r0, t0, X0, hb⟩, q⟩ := h
  refine draw_loop (st := st) (lg := lg) (cl := cl) (ce0 := ce) (t0 := t0) (H0 := H) rfl (fun la r H1 X fr => ?_) X0 Fr.refl
  have dg : ∀ {H2 : Hp} {k : Str} {v : V}, Ex H1 H2 → valV (stK lg cl r t0) (Sum.inr k : Key) = some v → DGet H2 st (.str k) (some v) := fun {H2 k v} z e => by
    rw [← e]
    exact DGet.k (k := Sum.inr k) (z _ _ X.hs)
  have s4 : ∀ {r t : Int}, (stK lg cl r t).length < sizeLine := fun {r t} => small1000 (by show 4 ≤ 1000; decide)
  -- if state['rest'] > 0
  refine ⟨_, rfl, st, .int r, rfl, dg (Evl.Ex.refl _) (st_rest lg cl r t0), _, _, rfl, rfl, _, rfl, ?_⟩
  by_cases hr0 : 0 < r
  · rw [decide_eq_true hr0]
    refine iteT ⟨_, rfl, st, .int r, rfl, dg (Evl.Ex.refl _) (st_rest lg cl r t0), .inl ⟨_, rfl, _, rfl, _, _, rfl, rfl, n0, ?_⟩⟩
    refine ⟨_, rfl, st, .int r, rfl, dg (Evl.Ex.refl _) (st_rest lg cl r t0), _, rfl, _, _, rfl, rfl, ⟨n0, by omega⟩, _, rfl, st, _, rfl, DPut.k (k := Sum.inr ("rest" : Str)) X.hs s4, _, rfl, ?_⟩
    exact q _ _ (Int.emod_nonneg _ (by omega)) (Int.emod_lt_of_pos _ n0) ⟨la, ce, _, t0, X.rest (Int.ediv_nonneg X.r0 (by omega)), by omega⟩ fr.st
  · rw [decide_eq_false hr0]
    -- turn = state['turn'] + 1; state['turn'] = turn
    refine iteF ⟨_, rfl, st, .int t0, rfl, dg (Evl.Ex.refl _) (st_turn lg cl r t0), _, _, rfl, rfl, _, rfl, _, rfl, st, _, rfl, DPut.k (k := Sum.inr ("turn" : Str)) X.hs s4, ?_⟩
    have X2 := X.turn (v := t0 + 1) (by have := X.t0; omega)
    have t0' := X.t0
    have fr2 : Fr st lg H _ := fr.st (o := .dK (putK (stK lg cl r t0) (Sum.inr ("turn" : Str) : Key) (.int (t0 + 1))))
    generalize upd H1 st (.dK (putK (stK lg cl r t0) (Sum.inr ("turn" : Str) : Key) (.int (t0 + 1)))) = H2 at X2 fr2 ⊢
    have dg2 : ∀ {H3 : Hp} {k : Str} {v : V}, Ex H2 H3 → valV (stK lg cl r (t0 + 1)) (Sum.inr k : Key) = some v → DGet H3 st (.str k) (some v) := fun {H3 k v} z e => by
      rw [← e]
      exact DGet.k (k := Sum.inr k) (z _ _ X2.hs)
    -- the cell
    refine ⟨_, rfl, st, .ref cl, rfl, dg2 (Evl.Ex.refl _) (st_cells lg cl r (t0 + 1)), Nat.zero_le _, fun p hp => ne_nil X2.hc hp ⟨_, rfl, ?_⟩⟩
    have X3 := X2.ex (Evl.Ex.new (o := .lst []) hp)
    have fr3 : Fr st lg H (upd H2 p (.lst [])) := fr2.trans (Fr.of (Evl.Ex.new hp))
    have z3 : Ex H2 (upd H2 p (.lst [])) := Evl.Ex.new hp
    generalize upd H2 p (.lst []) = H3 at X3 fr3 z3 ⊢
    refine ite_int (fun hb => ?_) (fun _ => ⟨0, fun Q q => q⟩) fun c => ?_
    · cases ce with
      | nil => cases hb
      | cons c0 ce0 =>
        have hlen : (((c0 :: ce0).map V.int).length : Int) > 0 := by
          rw [List.length_map, List.length_cons]
          omega
        have hm0 := Int.emod_nonneg (t0 + 1) (show ((((c0 :: ce0).map V.int).length : Nat) : Int) ≠ 0 by omega)
        have hm1 := Int.emod_lt_of_pos (t0 + 1) hlen
        have hk : ((t0 + 1) % ((((c0 :: ce0).map V.int).length : Nat) : Int)).toNat < (c0 :: ce0).length := by
          rw [List.length_map] at hm1 hm0 ⊢
          omega
        refine ⟨(c0 :: ce0)[((t0 + 1) % ((((c0 :: ce0).map V.int).length : Nat) : Int)).toNat], fun Q q => ?_⟩
        refine ⟨_, rfl, st, .ref cl, rfl, dg2 z3 (st_cells lg cl r (t0 + 1)), _, rfl, .inl ⟨_, rfl, _, rfl, st, .ref cl, rfl, dg2 z3 (st_cells lg cl r (t0 + 1)), _, _, rfl, .inl ⟨_, SqL.of X3.hc, rfl⟩, ?_⟩⟩
        refine ⟨_, _, rfl, rfl, hlen, cl, _, _, _, rfl, rfl, SqL.of X3.hc, ?_, q⟩
        have e := atI_nat (xs := (c0 :: ce0).map V.int) (j := ((t0 + 1) % ((((c0 :: ce0).map V.int).length : Nat) : Int)).toNat) (v := .int ((c0 :: ce0)[((t0 + 1) % ((((c0 :: ce0).map V.int).length : Nat) : Int)).toNat])) (by rw [List.getElem?_map, List.getElem?_eq_getElem hk]; rfl)
        rw [Int.toNat_of_nonneg hm0] at e
        exact e
    · -- the reckoning
      have a1 := Int.emod_nonneg c (show (2147483629 : Int) ≠ 0 by decide)
      have a2 := Int.emod_lt_of_pos c (show (0 : Int) < 2147483629 by decide)
      have hb2 : t0 ≤ 1000000000 := by omega
      have b1 : (0 : Int) ≤ c % 2147483629 + 48271 * (t0 + 1) + 13579 := by omega
      have b2 : c % 2147483629 + 48271 * (t0 + 1) + 13579 < 2 ^ 64 := by omega
      refine ⟨_, rfl, .inl ⟨_, rfl, _, _, rfl, rfl, (show (0 : Int) < 2147483629 by decide), _, rfl, _, _, rfl, rfl, .inl ⟨by decide, by decide⟩, _, _, rfl, rfl, _, _, rfl, rfl, _, _, rfl, rfl, ⟨by decide, by decide, pow_lt b1 b2⟩, .inl ⟨_, rfl, _, _, rfl, rfl, (show (0 : Int) < 2147483647 by decide), ?_⟩⟩⟩
      have c1 := Int.emod_nonneg ((c % 2147483629 + 48271 * (t0 + 1) + 13579) ^ (3 : Int).toNat) (show (2147483647 : Int) ≠ 0 by decide)
      have c2 := Int.emod_lt_of_pos ((c % 2147483629 + 48271 * (t0 + 1) + 13579) ^ (3 : Int).toNat) (show (0 : Int) < 2147483647 by decide)
      have dd : ∀ m : Int, 0 ≤ m → m < 2147483647 → 0 ≤ m + 99991 * (t0 + 1) ∧ m + 99991 * (t0 + 1) < 2 ^ 64 := fun m h1 h2 => ⟨by omega, by omega⟩
      have d1 := (dd _ c1 c2).1
      have d2 := (dd _ c1 c2).2
      refine ⟨_, rfl, _, rfl, _, _, rfl, rfl, .inl ⟨by decide, by decide⟩, _, _, rfl, rfl, _, _, rfl, rfl, ⟨by decide, by decide, pow_lt d1 d2⟩, .inl ⟨_, rfl, _, _, rfl, rfl, (show (0 : Int) < 2147483587 by decide), _, _, rfl, rfl, ⟨by decide, by decide⟩, .inl ⟨_, rfl, _, rfl, _, _, rfl, rfl, n0, ?_⟩⟩⟩
      exact q _ _ (Int.emod_nonneg _ (by omega)) (Int.emod_lt_of_pos _ n0) ⟨la, ce, r, t0 + 1, X3, by omega⟩ fr3
abbrev s__law_begun : Stmt := top 40
abbrev N__law_begun : List Str := ["_law_script", "_law_cells", "_law_cell"]
theorem sc__law_begun : FnScope N__law_begun ["_law_script"] (defScope s__law_begun) := ⟨rfl, rfl, rfl, by decide +kernel, rfl, by decide +kernel, by decide +kernel⟩
theorem k__law_begun (Fx : Fg K mg "_law_begun" s__law_begun) (T : Txt mg) : Kp P w K mg base 1 "_law_begun" ["_law_script"] (spBegun2 K) := by
  refine kpH Fx sc__law_begun (fun F => F.binds fun _ _ _ _ _ _ us hl => match us, hl with | [_], _ => rfl) (fun vs H Q E h => by obtain ⟨a, ns, rfl, _⟩ := h; rfl) fun f₀ cdv A outer s H vs Q E hr h => ?_
  refine ⟨_, (pss_cons (ps_setLc (i := 1) (own := [("_law_cell", 2)]) (g := gName 2) (tt := tYes) rfl sc__law_begun.nd rfl rfl (sw_true rfl rfl rfl (by decide +kernel)) (pi_list (pv 0)) (blkOk_by (N := N__law_begun) (sc := defScope s__law_begun) (by decide +kernel)) (fun _ _ _ _ _ => (pg_name (i := 2) sc__law_begun.nd rfl (Or.inl rfl))) (fun _ _ _ _ _ => pts_nil) (fun _ _ _ _ _ => (pe_callB call_abs (by rfl) T.b_abs (by decide +kernel) (pa_cons (pv 2) pa_nil))))
  (pss_one (ps_ret (pe_disp (pps_cons pe_str (pe_lc (own := [("_law_cell", 2)]) (g := gName 2) rfl sc__law_begun.nd (pi_list (pv 1)) (blkOk_by (N := N__law_begun) (sc := defScope s__law_begun) (by decide +kernel)) (fun _ _ _ _ _ => (pg_name (i := 2) sc__law_begun.nd rfl (Or.inl rfl))) (fun _ _ _ _ _ => (pts_one (pt_cmpR op_ge (pv 2) (pe_op op_pow pe_int pe_int) (nomark _)))) (fun _ _ _ _ _ => (pe_op op_sub (pv 2) (pe_op op_pow pe_int pe_int)))) (pps_cons pe_str (pv 1) (pps_cons pe_str pe_int (pps_cons pe_str pe_int pps_nil)))) (by rfl) (by rfl) (fun z => by cases z) (by decide))))), ?_⟩
  obtain ⟨a, ns, rfl, hS, hl, q⟩ := h
  have v0 : Sl K H (start N__law_begun [.ref a]) 0 (.list (ns.map .int)) := sl rfl (.lst hS (dz_ints ns))
  -- the cells
  refine seq_N (en_lcL (fun _ => true) (fun d => match d with | .int c => .int (absI c) | _ => .none) (ed_var v0) (by rw [List.length_map]; omega) fun d hd => ?_) (Evl.Ex.refl _) fun p xs F2 H2 g2 hp h2 r2 => ?_
  · obtain ⟨c, _, rfl⟩ := List.mem_map.mp hd
    refine turn_name (fun v => rfl) (fun v G _ _ => eb_yes) fun _ v' G x r' => ed_cb (eas_one (ed_var (sl rfl r'))) fun us F1 H1 z r Q q => ?_
    cases r with
    | cons r t =>
      cases t
      cases r
      exact ⟨c, rfl, q _ F1 H1 (Grow.refl z) (.int _)⟩
  rw [filter_yes, List.map_map] at r2
  have ex : xs = (ns.map absI).map V.int := by
    refine dpa_ints (bs := ns.map absI) (F := F2) (K := K) ?_
    rw [List.map_map]
    exact r2
  subst ex
  have v1 : Sl K F2 ((start N__law_begun [.ref a]).set 1 (some (.ref p))) 1 (.list ((ns.map absI).map .int)) := sl rfl (.lst (SqL.of h2) (dz_ints _))
  -- the state
  intro d hd
  have g3 := g2.trans (Grow.tmp (o := .dK []) g2.fh hd)
  refine pairs_c ((en_lcL (fun x => match x with | .int c => decide ((10 : Int) ^ (18 : Int).toNat ≤ c) | _ => false) (fun x => match x with | .int c => .int (c - (10 : Int) ^ (18 : Int).toNat) | _ => .none) (ed_var v1) (by rw [List.length_map, List.length_map]; omega) fun y hy => ?_ : EvN K F2 _ _ _)
    F2 _ (Evl.Ex.refl _) g3.fh _ fun l ls F4 H4 g4 hl4 h4 r4 => ?_)
  · obtain ⟨c, _, rfl⟩ := List.mem_map.mp hy
    refine turn_name (fun v => rfl) (fun v G _ r => eb_test (ed_I0 (ed_var (sl rfl r)) (ed_I ed_int ed_int ⟨by decide, by decide, by decide⟩ fun G => .int _) fun G => .bl _)) fun _ v' G x r' => ed_I0 (ed_var (sl rfl r')) (ed_I ed_int ed_int ⟨by decide, by decide, by decide⟩ fun G => .int _) fun G => .int _
  have el : ∃ la : List Int, ls = la.map V.int ∧ (∀ x ∈ la, 0 ≤ x) ∧ la.length ≤ 100 := by
    refine ⟨((ns.map absI).filter fun c => decide ((10 : Int) ^ (18 : Int).toNat ≤ c)).map fun c => c - (10 : Int) ^ (18 : Int).toNat, ?_, fun x hx => ?_, ?_⟩
    · refine dpa_ints (F := F4) (K := K) ?_
      rw [List.filter_map, List.map_map] at r4
      rw [List.map_map]
      exact r4
    · obtain ⟨c, hc, rfl⟩ := List.mem_map.mp hx
      have h := of_decide_eq_true (List.mem_filter.mp hc).2
      omega
    · rw [List.length_map]
      exact Nat.le_trans (List.length_filter_le _ _) (by rw [List.length_map]; omega)
  obtain ⟨la, rfl, lnn, lln⟩ := el
  have dp : H4 d = some (.dK []) := g4.hh _ _ upd_same
  have dl : d ≠ l := ne_of_none (upd_same (H := H2) (a := d) (o := .dK [])) hl4
  have pd : p ≠ d := ne_of_none (g2.fh _ _ h2) hd
  have pH4 : H4 p = some (.lst ((ns.map absI).map V.int)) := g4.fh _ _ (g4.ff _ _ h2)
  refine pairs_c ⟨_, rfl, pairs_cc (pairs_cc (pairs_nil ?_))⟩
  refine ⟨dp, [(.inr "large", .ref l), (.inr "cells", .ref p), (.inr "rest", .int 0), (.inr "turn", .int 0)], rfl, (by show 4 ≤ 15; decide), ?_⟩
  have hH : ∀ {b : Addr}, H2 b = none → H b = none := fun {b} h => Evl.fresh_back g2.hh h
  have hlH : H l = none := hH (by
    have e := Evl.fresh_back (Evl.Ex.new (o := .dK []) hd) hl4
    exact e)
  have mk : mergeK [] [(.inr "large", .ref l), (.inr "cells", .ref p), (.inr "rest", .int 0), (.inr "turn", .int 0)] = stK l p 0 0 := by
    rw [mergeK_nd _ _ (by
      show ([.inr "large", .inr "cells", .inr "rest", .inr "turn"] : List Key).Nodup
      decide +kernel)]
    rfl
  rw [mk]
  refine q d l p _ (fun b o e => ?_) (hH hd) hlH hp ⟨la, ns.map absI, 0, 0, ⟨upd_same, ?_, ?_, lnn, lln, by rw [List.length_map]; omega, Int.le_refl _, Int.le_refl _, ?_⟩, by decide⟩
  · rw [upd_ne (ne_of_none e (hH hd))]
    exact g4.hh _ _ (g3.hh _ _ e)
  · rw [upd_ne dl.symm]
    exact g4.fh _ _ h4
  · rw [upd_ne pd]
    exact pH4
  · intro e
    have e1 : upd H2 d (.dK []) p = some (.lst ((ns.map absI).map V.int)) := by rw [upd_ne pd]; exact g2.fh _ _ h2
    rw [e] at hl4
    rw [hl4] at e1
    cases e1
end
section
variable {P : Program} {w : World} {K : PySem.W.Frag} {mg : Str → Option Value} {base : Heap} {Ts : List (Addr × Str)}
abbrev s__law_pick : Stmt := top 42
abbrev N__law_pick : List Str := ["_law_state", "_law_several"]
theorem sc__law_pick : FnScope N__law_pick ["_law_state", "_law_several"] (defScope s__law_pick) := ⟨rfl, rfl, rfl, by decide +kernel, rfl, by decide +kernel, by decide +kernel⟩
def B__law_pick : WS := (wRet (wOp ixD (wVar 1) (wDraw 0 (wCB lenD (wCons (wVar 1) wNil)))))
def W__law_pick : WFS := bodyWS B__law_pick 2
theorem u__law_pick {d0 : Dt} {b : Nat} {q : QD} {qx : QX} : W__law_pick [d0] b q qx = B__law_pick { nx := fun _ b1 => q .none b1, rt := q, ex := qx } [some .st, some (.sh d0)] b := rfl
theorem k__law_pick (Fx : Fg K mg "_law_pick" s__law_pick) (T : Txt mg) (k__law_draw : Kp P w K mg base 1 "_law_draw" ["_law_state", "_law_size"] spDraw2) : Kws P w K mg base Ts 2 "_law_pick" "_law_state" ["_law_several"] W__law_pick := by
  refine kws_of Fx sc__law_pick (fun F => F.binds fun _ _ _ _ _ _ us hl => match us, hl with | [_, _], _ => rfl) fun f₀ cdv A outer s H E hg hr => ?_
  have hu := hu_of hr
  exact ⟨_, (pss_one (ps_ret (pe_ix (ix_seqK (K := K) rfl) (pv 1) (pe_call00 k__law_draw rfl rfl rfl rfl rfl (hr.mono (by decide)) (by rfl) (pa_cons (pv 0) (pa_cons (pe_callB (call_lenK (K := K) rfl) (by rfl) T.b_len (by decide +kernel) (pa_cons (pv 1) pa_nil)) pa_nil))) (fun _ _ => rfl)))),
  fun fr hfr => (ss_ret (sn_op ro_ix (SndE.b sn_var) (SndE.b (sn_draw (sn_cb co_len (sn_cons (SndE.b sn_var) sn_nil))))))⟩
abbrev s__law_odd : Stmt := top 43
abbrev N__law_odd : List Str := ["_law_state", "_law_several"]
theorem sc__law_odd : FnScope N__law_odd ["_law_state"] (defScope s__law_odd) := ⟨rfl, rfl, rfl, by decide +kernel, rfl, by decide +kernel, by decide +kernel⟩
def B__law_odd : WS := (wSeq (wAsg (wLst (wCons (wC .none) (wCons (wC (.int 0)) (wCons (wC (.int 5)) (wCons (wC (.bool true)) (wCons (wC (.bool false)) (wCons (wUn negD (wC (.int 1))) (wCons (wC (.str "")) (wCons (wC (.str "a")) (wCons (wC (.str "ab")) (wCons (wTup wNil) (wCons (wLst wNil) (wCons wD0 (wCons (wTup (wCons (wTup (wCons (wC (.str "a")) (wCons (wC (.int 0)) wNil))) wNil)) (wCons (wLst (wCons (wTup (wCons (wC (.str "a")) (wCons (wC (.int 0)) wNil))) wNil)) (wCons (wTup (wCons (wTup (wCons (wC (.str "a")) (wCons (wC (.int 0)) wNil))) (wCons (wTup (wCons (wC (.str "b")) (wCons (wC (.int 1)) wNil))) wNil))) (wCons (wTup (wCons (wTup wNil) (wCons (wTup wNil) wNil))) wNil))))))))))))))))) (wgName 1))
  (wSeq (wAsg (wOp addD (wVar 1) (wLst (wCons (wTup (wCons (wTup (wCons (wC (.str "a")) (wCons (wC (.int 0)) wNil))) (wCons (wTup (wCons (wC (.str "a")) (wCons (wC (.int 1)) wNil))) wNil))) (wCons (wTup (wCons (wTup (wCons (wC (.str "b")) (wCons (wC (.int 0)) wNil))) (wCons (wTup (wCons (wC (.str "a")) (wCons (wC (.int 0)) wNil))) wNil))) (wCons (wTup (wCons (wTup (wCons (wC (.str "a")) (wCons (wC (.bool true)) wNil))) wNil)) (wCons (wTup (wCons (wTup (wCons (wC (.str "A")) (wCons (wC (.int 0)) wNil))) wNil)) (wCons (wTup (wCons (wC (.str "a")) (wCons (wC (.int 0)) wNil))) (wCons (wTup (wCons (wTup (wCons (wC (.str "a")) wNil)) wNil)) (wCons (wTup (wCons (wC (.int 5)) wNil)) wNil))))))))) (wgName 1))
  (wRet (wCallS0 0 W__law_pick (wCons (wOp addD (wVar 1) (wLst (wCons (wTup (wCons (wLst (wCons (wC (.str "a")) (wCons (wC (.int 0)) wNil))) wNil)) (wCons (wTup (wCons (wTup (wCons (wC (.str "abcdefg")) (wCons (wC (.int 0)) wNil))) wNil)) (wCons (wTup (wCons (wTup (wCons (wC (.str "")) (wCons (wC (.int 0)) wNil))) wNil)) (wCons (wTup (wCons (wTup (wCons (wC (.str "a")) (wCons (wC .none) wNil))) wNil)) (wCons (wDisp (wpCons (wC (.str "a")) (wC (.int 0)) wpNil)) (wCons (wTup (wCons (wTup (wCons (wTup (wCons (wC (.str "a")) (wCons (wC (.int 0)) wNil))) wNil)) (wCons (wTup wNil) wNil))) wNil)))))))) wNil)))))
def W__law_odd : WFS := bodyWS B__law_odd 2
theorem u__law_odd {b : Nat} {q : QD} {qx : QX} : W__law_odd [] b q qx = B__law_odd { nx := fun _ b1 => q .none b1, rt := q, ex := qx } [some .st, none] b := rfl
theorem k__law_odd (Fx : Fg K mg "_law_odd" s__law_odd) (T : Txt mg) (k__law_pick : Kws P w K mg base Ts 2 "_law_pick" "_law_state" ["_law_several"] W__law_pick) : Kws P w K mg base Ts 3 "_law_odd" "_law_state" [] W__law_odd := by
  refine kws_of Fx sc__law_odd (fun F => F.binds fun _ _ _ _ _ _ us hl => match us, hl with | [_], _ => rfl) fun f₀ cdv A outer s H E hg hr => ?_
  have hu := hu_of hr
  exact ⟨_, (pss_cons (ps_set (i := 1) sc__law_odd.nd rfl (Or.inl rfl) (pe_lst (pa_cons pe_non (pa_cons pe_int (pa_cons pe_int (pa_cons pe_bl (pa_cons pe_bl (pa_cons (pe_un un_neg pe_int) (pa_cons pe_str (pa_cons pe_str (pa_cons pe_str (pa_cons (pe_tupZ pa_nil) (pa_cons (pe_lst pa_nil) (pa_cons pe_dnewK (pa_cons (pe_tupZ (pa_cons (pe_tupZ (pa_cons pe_str (pa_cons pe_int pa_nil))) pa_nil)) (pa_cons (pe_lst (pa_cons (pe_tupZ (pa_cons pe_str (pa_cons pe_int pa_nil))) pa_nil)) (pa_cons (pe_tupZ (pa_cons (pe_tupZ (pa_cons pe_str (pa_cons pe_int pa_nil))) (pa_cons (pe_tupZ (pa_cons pe_str (pa_cons pe_int pa_nil))) pa_nil))) (pa_cons (pe_tupZ (pa_cons (pe_tupZ pa_nil) (pa_cons (pe_tupZ pa_nil) pa_nil))) pa_nil))))))))))))))))))
  (pss_cons (ps_set (i := 1) sc__law_odd.nd rfl (Or.inl rfl) (pe_op (op_addA (K := K) rfl) (pv 1) (pe_lst (pa_cons (pe_tupZ (pa_cons (pe_tupZ (pa_cons pe_str (pa_cons pe_int pa_nil))) (pa_cons (pe_tupZ (pa_cons pe_str (pa_cons pe_int pa_nil))) pa_nil))) (pa_cons (pe_tupZ (pa_cons (pe_tupZ (pa_cons pe_str (pa_cons pe_int pa_nil))) (pa_cons (pe_tupZ (pa_cons pe_str (pa_cons pe_int pa_nil))) pa_nil))) (pa_cons (pe_tupZ (pa_cons (pe_tupZ (pa_cons pe_str (pa_cons pe_bl pa_nil))) pa_nil)) (pa_cons (pe_tupZ (pa_cons (pe_tupZ (pa_cons pe_str (pa_cons pe_int pa_nil))) pa_nil)) (pa_cons (pe_tupZ (pa_cons pe_str (pa_cons pe_int pa_nil))) (pa_cons (pe_tupZ (pa_cons (pe_tupZ (pa_cons pe_str pa_nil)) pa_nil)) (pa_cons (pe_tupZ (pa_cons pe_int pa_nil)) pa_nil))))))))))
  (pss_one (ps_ret (Dw.pe_callS0 k__law_pick rfl rfl rfl rfl rfl (by exact hg) (hr.mono (by decide)) (by rfl) (pa_cons (pv 0) (pa_cons (pe_op (op_addA (K := K) rfl) (pv 1) (pe_lst (pa_cons (pe_tupZ (pa_cons (pe_lst (pa_cons pe_str (pa_cons pe_int pa_nil))) pa_nil)) (pa_cons (pe_tupZ (pa_cons (pe_tupZ (pa_cons pe_str (pa_cons pe_int pa_nil))) pa_nil)) (pa_cons (pe_tupZ (pa_cons (pe_tupZ (pa_cons pe_str (pa_cons pe_int pa_nil))) pa_nil)) (pa_cons (pe_tupZ (pa_cons (pe_tupZ (pa_cons pe_str (pa_cons pe_non pa_nil))) pa_nil)) (pa_cons (pe_disp (pps_cons pe_str pe_int pps_nil) (by rfl) (by rfl) (fun z => by cases z) (by decide)) (pa_cons (pe_tupZ (pa_cons (pe_tupZ (pa_cons (pe_tupZ (pa_cons pe_str (pa_cons pe_int pa_nil))) pa_nil)) (pa_cons (pe_tupZ pa_nil) pa_nil))) pa_nil)))))))) pa_nil))))))),
  fun fr hfr => (ss_seq (ss_asg ((snn_lst (snr_cons sn_non (snr_cons sn_int (snr_cons sn_int (snr_cons sn_bl (snr_cons sn_bl (snr_cons (sn_un uo_neg (SndE.b sn_int)) (snr_cons (sn_str (x := "") (by decide +kernel)) (snr_cons (sn_str (x := "a") (by decide +kernel)) (snr_cons (sn_str (x := "ab") (by decide +kernel)) (snr_cons (sn_tup snr_nil (by decide)) (snr_cons ((snn_lst snr_nil (by decide))).e (snr_cons (snn_d0).e (snr_cons (sn_tup (snr_cons (sn_tup (snr_cons (sn_str (x := "a") (by decide +kernel)) (snr_cons sn_int snr_nil)) (by decide)) snr_nil) (by decide)) (snr_cons ((snn_lst (snr_cons (sn_tup (snr_cons (sn_str (x := "a") (by decide +kernel)) (snr_cons sn_int snr_nil)) (by decide)) snr_nil) (by decide))).e (snr_cons (sn_tup (snr_cons (sn_tup (snr_cons (sn_str (x := "a") (by decide +kernel)) (snr_cons sn_int snr_nil)) (by decide)) (snr_cons (sn_tup (snr_cons (sn_str (x := "b") (by decide +kernel)) (snr_cons sn_int snr_nil)) (by decide)) snr_nil)) (by decide)) (snr_cons (sn_tup (snr_cons (sn_tup snr_nil (by decide)) (snr_cons (sn_tup snr_nil (by decide)) snr_nil)) (by decide)) snr_nil)))))))))))))))) (by decide))).e (sg_name (i := 1)))
  (ss_seq (ss_asg (sn_op ro_add (SndE.b sn_var) (SndE.b ((snn_lst (snr_cons (sn_tup (snr_cons (sn_tup (snr_cons (sn_str (x := "a") (by decide +kernel)) (snr_cons sn_int snr_nil)) (by decide)) (snr_cons (sn_tup (snr_cons (sn_str (x := "a") (by decide +kernel)) (snr_cons sn_int snr_nil)) (by decide)) snr_nil)) (by decide)) (snr_cons (sn_tup (snr_cons (sn_tup (snr_cons (sn_str (x := "b") (by decide +kernel)) (snr_cons sn_int snr_nil)) (by decide)) (snr_cons (sn_tup (snr_cons (sn_str (x := "a") (by decide +kernel)) (snr_cons sn_int snr_nil)) (by decide)) snr_nil)) (by decide)) (snr_cons (sn_tup (snr_cons (sn_tup (snr_cons (sn_str (x := "a") (by decide +kernel)) (snr_cons sn_bl snr_nil)) (by decide)) snr_nil) (by decide)) (snr_cons (sn_tup (snr_cons (sn_tup (snr_cons (sn_str (x := "A") (by decide +kernel)) (snr_cons sn_int snr_nil)) (by decide)) snr_nil) (by decide)) (snr_cons (sn_tup (snr_cons (sn_str (x := "a") (by decide +kernel)) (snr_cons sn_int snr_nil)) (by decide)) (snr_cons (sn_tup (snr_cons (sn_tup (snr_cons (sn_str (x := "a") (by decide +kernel)) snr_nil) (by decide)) snr_nil) (by decide)) (snr_cons (sn_tup (snr_cons sn_int snr_nil) (by decide)) snr_nil))))))) (by decide))).e)) (sg_name (i := 1)))
  (ss_ret (sn_callS0 hfr (snr_cons (sn_op ro_add (SndE.b sn_var) (SndE.b ((snn_lst (snr_cons (sn_tup (snr_cons ((snn_lst (snr_cons (sn_str (x := "a") (by decide +kernel)) (snr_cons sn_int snr_nil)) (by decide))).e snr_nil) (by decide)) (snr_cons (sn_tup (snr_cons (sn_tup (snr_cons (sn_str (x := "abcdefg") (by decide +kernel)) (snr_cons sn_int snr_nil)) (by decide)) snr_nil) (by decide)) (snr_cons (sn_tup (snr_cons (sn_tup (snr_cons (sn_str (x := "") (by decide +kernel)) (snr_cons sn_int snr_nil)) (by decide)) snr_nil) (by decide)) (snr_cons (sn_tup (snr_cons (sn_tup (snr_cons (sn_str (x := "a") (by decide +kernel)) (snr_cons sn_non snr_nil)) (by decide)) snr_nil) (by decide)) (snr_cons ((snn_disp (n := 1) (by decide) (sp_cons (sn_str (x := "a") (by decide +kernel)) sn_int sp_nil))).e (snr_cons (sn_tup (snr_cons (sn_tup (snr_cons (sn_tup (snr_cons (sn_str (x := "a") (by decide +kernel)) (snr_cons sn_int snr_nil)) (by decide)) snr_nil) (by decide)) (snr_cons (sn_tup snr_nil (by decide)) snr_nil)) (by decide)) snr_nil)))))) (by decide))).e)) snr_nil)))))⟩
abbrev s__law_plain : Stmt := top 45
abbrev N__law_plain : List Str := ["_law_found"]
theorem sc__law_plain : FnScope N__law_plain [] (defScope s__law_plain) := ⟨rfl, rfl, rfl, by decide +kernel, rfl, by decide +kernel, by decide +kernel⟩
def B__law_plain : WS := (wSeq (wAsg (wLst (wCons (wErrP "BadPlan" (wC (.str "m"))) (wCons (wErrP "BadNumber" (wC (.str "m"))) (wCons (wErrP "BadSide" (wC (.str "m"))) (wCons (wErrP "BadRule" (wC (.str "m"))) (wCons (wErrP "NoPlans" (wC (.str "m"))) wNil)))))) (wgName 0))
  (wSeq (wAsg (wOp addD (wVar 0) (wLst (wCons (wErrP "BadLot" (wC (.str "m"))) (wCons (wErrP "BadLimit" (wC (.str "m"))) (wCons (wErrP "BadStretch" (wC (.str "m"))) (wCons (wErrP "BadWords" (wC (.str "m"))) (wCons (wErrP "BadCell" (wC (.str "m"))) wNil))))))) (wgName 0))
  (wSeq (wAsg (wOp addD (wVar 0) (wLst (wCons (wErrP "BadStrategy" (wC (.str "m"))) (wCons (wErrP "OtherThings" (wC (.str "m"))) (wCons (wErrP "NothingDone" (wC (.str "m"))) (wCons (wErrP "BadHouse" (wC (.str "m"))) (wCons (wErrP "NotSo" (wC (.str "m"))) wNil))))))) (wgName 0))
  (wRet (wOp addD (wVar 0) (wLst (wCons (wErrP "NoRounds" (wC (.str "m"))) (wCons (wErrP "NoTurns" (wC (.str "m"))) wNil))))))))
def W__law_plain : WF := bodyW B__law_plain 1
theorem u__law_plain {q : Dt → Prop} {qx : Xv → Prop} : W__law_plain [] q qx = B__law_plain { nx := fun _ _ => q .none, rt := fun d _ => q d, ex := fun x _ => qx x } [none] 0 := rfl
theorem k__law_plain (Fx : Fg K mg "_law_plain" s__law_plain) (T : Txt mg) {C_NoPlans : Addr} (e_NoPlans : ExP K mg "NoPlans" C_NoPlans) {C_BadRule : Addr} (e_BadRule : ExP K mg "BadRule" C_BadRule) {C_BadSide : Addr} (e_BadSide : ExP K mg "BadSide" C_BadSide) {C_BadNumber : Addr} (e_BadNumber : ExP K mg "BadNumber" C_BadNumber) {C_BadPlan : Addr} (e_BadPlan : ExP K mg "BadPlan" C_BadPlan) {C_BadCell : Addr} (e_BadCell : ExP K mg "BadCell" C_BadCell) {C_BadWords : Addr} (e_BadWords : ExP K mg "BadWords" C_BadWords) {C_BadStretch : Addr} (e_BadStretch : ExP K mg "BadStretch" C_BadStretch) {C_BadLimit : Addr} (e_BadLimit : ExP K mg "BadLimit" C_BadLimit) {C_BadLot : Addr} (e_BadLot : ExP K mg "BadLot" C_BadLot) {C_NotSo : Addr} (e_NotSo : ExP K mg "NotSo" C_NotSo) {C_BadHouse : Addr} (e_BadHouse : ExP K mg "BadHouse" C_BadHouse) {C_NothingDone : Addr} (e_NothingDone : ExP K mg "NothingDone" C_NothingDone) {C_OtherThings : Addr} (e_OtherThings : ExP K mg "OtherThings" C_OtherThings) {C_BadStrategy : Addr} (e_BadStrategy : ExP K mg "BadStrategy" C_BadStrategy) {C_NoTurns : Addr} (e_NoTurns : ExP K mg "NoTurns" C_NoTurns) {C_NoRounds : Addr} (e_NoRounds : ExP K mg "NoRounds" C_NoRounds) : Kw P w K mg base 1 "_law_plain" [] W__law_plain := by
  refine kw_of Fx sc__law_plain (fun F => F.binds fun _ _ _ _ _ _ us hl => match us, hl with | [], _ => rfl) fun f₀ cdv A outer s H E hg hr => ?_
  have hu := hu_of hr
  exact ⟨_, (pss_cons (ps_set (i := 0) sc__law_plain.nd rfl (Or.inl rfl) (pe_lst (pa_cons (pe_exc1 PySem.F.excBase_ValueError e_BadPlan.q e_BadPlan.g e_BadPlan.k (by rfl) pe_str) (pa_cons (pe_exc1 PySem.F.excBase_ValueError e_BadNumber.q e_BadNumber.g e_BadNumber.k (by rfl) pe_str) (pa_cons (pe_exc1 PySem.F.excBase_ValueError e_BadSide.q e_BadSide.g e_BadSide.k (by rfl) pe_str) (pa_cons (pe_exc1 PySem.F.excBase_ValueError e_BadRule.q e_BadRule.g e_BadRule.k (by rfl) pe_str) (pa_cons (pe_exc1 PySem.F.excBase_ValueError e_NoPlans.q e_NoPlans.g e_NoPlans.k (by rfl) pe_str) pa_nil)))))))
  (pss_cons (ps_set (i := 0) sc__law_plain.nd rfl (Or.inl rfl) (pe_op (op_addA (K := K) rfl) (pv 0) (pe_lst (pa_cons (pe_exc1 PySem.F.excBase_ValueError e_BadLot.q e_BadLot.g e_BadLot.k (by rfl) pe_str) (pa_cons (pe_exc1 PySem.F.excBase_ValueError e_BadLimit.q e_BadLimit.g e_BadLimit.k (by rfl) pe_str) (pa_cons (pe_exc1 PySem.F.excBase_ValueError e_BadStretch.q e_BadStretch.g e_BadStretch.k (by rfl) pe_str) (pa_cons (pe_exc1 PySem.F.excBase_ValueError e_BadWords.q e_BadWords.g e_BadWords.k (by rfl) pe_str) (pa_cons (pe_exc1 PySem.F.excBase_ValueError e_BadCell.q e_BadCell.g e_BadCell.k (by rfl) pe_str) pa_nil))))))))
  (pss_cons (ps_set (i := 0) sc__law_plain.nd rfl (Or.inl rfl) (pe_op (op_addA (K := K) rfl) (pv 0) (pe_lst (pa_cons (pe_exc1 PySem.F.excBase_ValueError e_BadStrategy.q e_BadStrategy.g e_BadStrategy.k (by rfl) pe_str) (pa_cons (pe_exc1 PySem.F.excBase_ValueError e_OtherThings.q e_OtherThings.g e_OtherThings.k (by rfl) pe_str) (pa_cons (pe_exc1 PySem.F.excBase_ValueError e_NothingDone.q e_NothingDone.g e_NothingDone.k (by rfl) pe_str) (pa_cons (pe_exc1 PySem.F.excBase_ValueError e_BadHouse.q e_BadHouse.g e_BadHouse.k (by rfl) pe_str) (pa_cons (pe_exc1 PySem.F.excBase_ValueError e_NotSo.q e_NotSo.g e_NotSo.k (by rfl) pe_str) pa_nil))))))))
  (pss_one (ps_ret (pe_op (op_addA (K := K) rfl) (pv 0) (pe_lst (pa_cons (pe_exc1 PySem.F.excBase_ValueError e_NoRounds.q e_NoRounds.g e_NoRounds.k (by rfl) pe_str) (pa_cons (pe_exc1 PySem.F.excBase_ValueError e_NoTurns.q e_NoTurns.g e_NoTurns.k (by rfl) pe_str) pa_nil))))))))),
  (ss_seq (ss_asg ((snn_lst (snr_cons (sn_errP e_BadPlan.g (SndE.b (sn_str (x := "m") (by decide +kernel)))) (snr_cons (sn_errP e_BadNumber.g (SndE.b (sn_str (x := "m") (by decide +kernel)))) (snr_cons (sn_errP e_BadSide.g (SndE.b (sn_str (x := "m") (by decide +kernel)))) (snr_cons (sn_errP e_BadRule.g (SndE.b (sn_str (x := "m") (by decide +kernel)))) (snr_cons (sn_errP e_NoPlans.g (SndE.b (sn_str (x := "m") (by decide +kernel)))) snr_nil))))) (by decide))).e (sg_name (i := 0)))
  (ss_seq (ss_asg (sn_op ro_add (SndE.b sn_var) (SndE.b ((snn_lst (snr_cons (sn_errP e_BadLot.g (SndE.b (sn_str (x := "m") (by decide +kernel)))) (snr_cons (sn_errP e_BadLimit.g (SndE.b (sn_str (x := "m") (by decide +kernel)))) (snr_cons (sn_errP e_BadStretch.g (SndE.b (sn_str (x := "m") (by decide +kernel)))) (snr_cons (sn_errP e_BadWords.g (SndE.b (sn_str (x := "m") (by decide +kernel)))) (snr_cons (sn_errP e_BadCell.g (SndE.b (sn_str (x := "m") (by decide +kernel)))) snr_nil))))) (by decide))).e)) (sg_name (i := 0)))
  (ss_seq (ss_asg (sn_op ro_add (SndE.b sn_var) (SndE.b ((snn_lst (snr_cons (sn_errP e_BadStrategy.g (SndE.b (sn_str (x := "m") (by decide +kernel)))) (snr_cons (sn_errP e_OtherThings.g (SndE.b (sn_str (x := "m") (by decide +kernel)))) (snr_cons (sn_errP e_NothingDone.g (SndE.b (sn_str (x := "m") (by decide +kernel)))) (snr_cons (sn_errP e_BadHouse.g (SndE.b (sn_str (x := "m") (by decide +kernel)))) (snr_cons (sn_errP e_NotSo.g (SndE.b (sn_str (x := "m") (by decide +kernel)))) snr_nil))))) (by decide))).e)) (sg_name (i := 0)))
  (ss_ret (sn_op ro_add (SndE.b sn_var) (SndE.b ((snn_lst (snr_cons (sn_errP e_NoRounds.g (SndE.b (sn_str (x := "m") (by decide +kernel)))) (snr_cons (sn_errP e_NoTurns.g (SndE.b (sn_str (x := "m") (by decide +kernel)))) snr_nil)) (by decide))).e))))))⟩
abbrev s__law_told : Stmt := top 46
abbrev N__law_told : List Str := ["_law_odd_here", "_law_found"]
theorem sc__law_told : FnScope N__law_told ["_law_odd_here"] (defScope s__law_told) := ⟨rfl, rfl, rfl, by decide +kernel, rfl, by decide +kernel, by decide +kernel⟩
def B__law_told : WS := (wSeq (wAsg (wLst (wCons (wErrJ "BadPlans" "at" (wVar 0)) (wCons (wErrJ "BadRules" "at" (wVar 0)) (wCons (wErrJ "BadBook" "part" (wVar 0)) (wCons (wErrJ "BadThing" "thing" (wVar 0)) wNil))))) (wgName 1))
  (wSeq (wAsg (wOp addD (wVar 1) (wLst (wCons (wErrJ "NoRule" "at" (wVar 0)) (wCons (wErrJ "BadBox" "part" (wVar 0)) (wCons (wErrJ "BadRow" "part" (wVar 0)) (wCons (wErrJ "BadRows" "at" (wVar 0)) wNil)))))) (wgName 1))
  (wSeq (wAsg (wOp addD (wVar 1) (wLst (wCons (wErrJ "BadPrices" "part" (wVar 0)) (wCons (wErrJ "NoRow" "at" (wVar 0)) (wCons (wErrJ "BadFare" "part" (wVar 0)) (wCons (wErrJ "BadOffer" "part" (wVar 0)) wNil)))))) (wgName 1))
  (wSeq (wAsg (wOp addD (wVar 1) (wLst (wCons (wErrJ "BadForecast" "part" (wVar 0)) (wCons (wErrJ "BadReceipts" "at" (wVar 0)) (wCons (wErrJ "TooMany" "most" (wVar 0)) (wCons (wErrJ "NotNow" "word" (wVar 0)) wNil)))))) (wgName 1))
  (wSeq (wAsg (wOp addD (wVar 1) (wLst (wCons (wErrJ "BadJournal" "at" (wVar 0)) (wCons (wErrJ "BadText" "line" (wVar 0)) (wCons (wErrJ "BadMarks" "at" (wVar 0)) (wCons (wErrJ "BadTurns" "part" (wVar 0)) wNil)))))) (wgName 1))
  (wRet (wVar 1)))))))
def W__law_told : WF := bodyW B__law_told 2
theorem u__law_told {d0 : Dt} {q : Dt → Prop} {qx : Xv → Prop} : W__law_told [d0] q qx = B__law_told { nx := fun _ _ => q .none, rt := fun d _ => q d, ex := fun x _ => qx x } [some (.sh d0), none] 0 := rfl
theorem k__law_told (Fx : Fg K mg "_law_told" s__law_told) (T : Txt mg) {C_BadThing : Addr} (e_BadThing : ExJK P w K mg base "BadThing" C_BadThing "thing") {C_BadBook : Addr} (e_BadBook : ExJK P w K mg base "BadBook" C_BadBook "part") {C_BadRules : Addr} (e_BadRules : ExJK P w K mg base "BadRules" C_BadRules "at") {C_BadPlans : Addr} (e_BadPlans : ExJK P w K mg base "BadPlans" C_BadPlans "at") {C_BadRows : Addr} (e_BadRows : ExJK P w K mg base "BadRows" C_BadRows "at") {C_BadRow : Addr} (e_BadRow : ExJK P w K mg base "BadRow" C_BadRow "part") {C_BadBox : Addr} (e_BadBox : ExJK P w K mg base "BadBox" C_BadBox "part") {C_NoRule : Addr} (e_NoRule : ExJK P w K mg base "NoRule" C_NoRule "at") {C_BadOffer : Addr} (e_BadOffer : ExJK P w K mg base "BadOffer" C_BadOffer "part") {C_BadFare : Addr} (e_BadFare : ExJK P w K mg base "BadFare" C_BadFare "part") {C_NoRow : Addr} (e_NoRow : ExJK P w K mg base "NoRow" C_NoRow "at") {C_BadPrices : Addr} (e_BadPrices : ExJK P w K mg base "BadPrices" C_BadPrices "part") {C_NotNow : Addr} (e_NotNow : ExJK P w K mg base "NotNow" C_NotNow "word") {C_TooMany : Addr} (e_TooMany : ExJK P w K mg base "TooMany" C_TooMany "most") {C_BadReceipts : Addr} (e_BadReceipts : ExJK P w K mg base "BadReceipts" C_BadReceipts "at") {C_BadForecast : Addr} (e_BadForecast : ExJK P w K mg base "BadForecast" C_BadForecast "part") {C_BadTurns : Addr} (e_BadTurns : ExJK P w K mg base "BadTurns" C_BadTurns "part") {C_BadMarks : Addr} (e_BadMarks : ExJK P w K mg base "BadMarks" C_BadMarks "at") {C_BadText : Addr} (e_BadText : ExJK P w K mg base "BadText" C_BadText "line") {C_BadJournal : Addr} (e_BadJournal : ExJK P w K mg base "BadJournal" C_BadJournal "at") : Kw P w K mg base 3 "_law_told" ["_law_odd_here"] W__law_told := by
  refine kw_of Fx sc__law_told (fun F => F.binds fun _ _ _ _ _ _ us hl => match us, hl with | [_], _ => rfl) fun f₀ cdv A outer s H E hg hr => ?_
  have hu := hu_of hr
  exact ⟨_, (pss_cons (ps_set (i := 1) sc__law_told.nd rfl (Or.inl rfl) (pe_lst (pa_cons (pe_exJ rfl rfl rfl rfl rfl e_BadPlans.j (hr.mono (by decide)) (by rfl) (pv 0)) (pa_cons (pe_exJ rfl rfl rfl rfl rfl e_BadRules.j (hr.mono (by decide)) (by rfl) (pv 0)) (pa_cons (pe_exJ rfl rfl rfl rfl rfl e_BadBook.j (hr.mono (by decide)) (by rfl) (pv 0)) (pa_cons (pe_exJ rfl rfl rfl rfl rfl e_BadThing.j (hr.mono (by decide)) (by rfl) (pv 0)) pa_nil))))))
  (pss_cons (ps_set (i := 1) sc__law_told.nd rfl (Or.inl rfl) (pe_op (op_addA (K := K) rfl) (pv 1) (pe_lst (pa_cons (pe_exJ rfl rfl rfl rfl rfl e_NoRule.j (hr.mono (by decide)) (by rfl) (pv 0)) (pa_cons (pe_exJ rfl rfl rfl rfl rfl e_BadBox.j (hr.mono (by decide)) (by rfl) (pv 0)) (pa_cons (pe_exJ rfl rfl rfl rfl rfl e_BadRow.j (hr.mono (by decide)) (by rfl) (pv 0)) (pa_cons (pe_exJ rfl rfl rfl rfl rfl e_BadRows.j (hr.mono (by decide)) (by rfl) (pv 0)) pa_nil)))))))
  (pss_cons (ps_set (i := 1) sc__law_told.nd rfl (Or.inl rfl) (pe_op (op_addA (K := K) rfl) (pv 1) (pe_lst (pa_cons (pe_exJ rfl rfl rfl rfl rfl e_BadPrices.j (hr.mono (by decide)) (by rfl) (pv 0)) (pa_cons (pe_exJ rfl rfl rfl rfl rfl e_NoRow.j (hr.mono (by decide)) (by rfl) (pv 0)) (pa_cons (pe_exJ rfl rfl rfl rfl rfl e_BadFare.j (hr.mono (by decide)) (by rfl) (pv 0)) (pa_cons (pe_exJ rfl rfl rfl rfl rfl e_BadOffer.j (hr.mono (by decide)) (by rfl) (pv 0)) pa_nil)))))))
  (pss_cons (ps_set (i := 1) sc__law_told.nd rfl (Or.inl rfl) (pe_op (op_addA (K := K) rfl) (pv 1) (pe_lst (pa_cons (pe_exJ rfl rfl rfl rfl rfl e_BadForecast.j (hr.mono (by decide)) (by rfl) (pv 0)) (pa_cons (pe_exJ rfl rfl rfl rfl rfl e_BadReceipts.j (hr.mono (by decide)) (by rfl) (pv 0)) (pa_cons (pe_exJ rfl rfl rfl rfl rfl e_TooMany.j (hr.mono (by decide)) (by rfl) (pv 0)) (pa_cons (pe_exJ rfl rfl rfl rfl rfl e_NotNow.j (hr.mono (by decide)) (by rfl) (pv 0)) pa_nil)))))))
  (pss_cons (ps_set (i := 1) sc__law_told.nd rfl (Or.inl rfl) (pe_op (op_addA (K := K) rfl) (pv 1) (pe_lst (pa_cons (pe_exJ rfl rfl rfl rfl rfl e_BadJournal.j (hr.mono (by decide)) (by rfl) (pv 0)) (pa_cons (pe_exJ rfl rfl rfl rfl rfl e_BadText.j (hr.mono (by decide)) (by rfl) (pv 0)) (pa_cons (pe_exJ rfl rfl rfl rfl rfl e_BadMarks.j (hr.mono (by decide)) (by rfl) (pv 0)) (pa_cons (pe_exJ rfl rfl rfl rfl rfl e_BadTurns.j (hr.mono (by decide)) (by rfl) (pv 0)) pa_nil)))))))
  (pss_one (ps_ret (pv 1)))))))),
  (ss_seq (ss_asg ((snn_lst (snr_cons (sn_errJ e_BadPlans.j.g sn_var) (snr_cons (sn_errJ e_BadRules.j.g sn_var) (snr_cons (sn_errJ e_BadBook.j.g sn_var) (snr_cons (sn_errJ e_BadThing.j.g sn_var) snr_nil)))) (by decide))).e (sg_name (i := 1)))
  (ss_seq (ss_asg (sn_op ro_add (SndE.b sn_var) (SndE.b ((snn_lst (snr_cons (sn_errJ e_NoRule.j.g sn_var) (snr_cons (sn_errJ e_BadBox.j.g sn_var) (snr_cons (sn_errJ e_BadRow.j.g sn_var) (snr_cons (sn_errJ e_BadRows.j.g sn_var) snr_nil)))) (by decide))).e)) (sg_name (i := 1)))
  (ss_seq (ss_asg (sn_op ro_add (SndE.b sn_var) (SndE.b ((snn_lst (snr_cons (sn_errJ e_BadPrices.j.g sn_var) (snr_cons (sn_errJ e_NoRow.j.g sn_var) (snr_cons (sn_errJ e_BadFare.j.g sn_var) (snr_cons (sn_errJ e_BadOffer.j.g sn_var) snr_nil)))) (by decide))).e)) (sg_name (i := 1)))
  (ss_seq (ss_asg (sn_op ro_add (SndE.b sn_var) (SndE.b ((snn_lst (snr_cons (sn_errJ e_BadForecast.j.g sn_var) (snr_cons (sn_errJ e_BadReceipts.j.g sn_var) (snr_cons (sn_errJ e_TooMany.j.g sn_var) (snr_cons (sn_errJ e_NotNow.j.g sn_var) snr_nil)))) (by decide))).e)) (sg_name (i := 1)))
  (ss_seq (ss_asg (sn_op ro_add (SndE.b sn_var) (SndE.b ((snn_lst (snr_cons (sn_errJ e_BadJournal.j.g sn_var) (snr_cons (sn_errJ e_BadText.j.g sn_var) (snr_cons (sn_errJ e_BadMarks.j.g sn_var) (snr_cons (sn_errJ e_BadTurns.j.g sn_var) snr_nil)))) (by decide))).e)) (sg_name (i := 1)))
  (ss_ret sn_var))))))⟩
abbrev s__law_marks : Stmt := top 44
abbrev N__law_marks : List Str := ["_law_error", "_law_found"]
theorem sc__law_marks : FnScope N__law_marks ["_law_error"] (defScope s__law_marks) := ⟨rfl, rfl, rfl, by decide +kernel, rfl, by decide +kernel, by decide +kernel⟩
def B__law_marks : WS := (wSeq (wAsg (wLst (wCons (wIsEN subE "BadPlan" (wVar 0)) (wCons (wIsEN subE "BadPlans" (wVar 0)) (wCons (wIsEN subE "BadNumber" (wVar 0)) wNil)))) (wgName 1))
  (wSeq (wAsg (wOp addD (wVar 1) (wLst (wCons (wIsEN subE "BadSide" (wVar 0)) (wCons (wIsEN subE "BadRule" (wVar 0)) (wCons (wIsEN subE "BadRules" (wVar 0)) wNil))))) (wgName 1))
  (wSeq (wAsg (wOp addD (wVar 1) (wLst (wCons (wIsEN subE "BadBook" (wVar 0)) (wCons (wIsEN subE "BadThing" (wVar 0)) (wCons (wIsEN subE "NoPlans" (wVar 0)) wNil))))) (wgName 1))
  (wSeq (wAsg (wOp addD (wVar 1) (wLst (wCons (wIsEN subE "NoRule" (wVar 0)) (wCons (wIsEN subE "BadLot" (wVar 0)) (wCons (wIsEN subE "BadLimit" (wVar 0)) wNil))))) (wgName 1))
  (wSeq (wAsg (wOp addD (wVar 1) (wLst (wCons (wIsEN subE "BadStretch" (wVar 0)) (wCons (wIsEN subE "BadBox" (wVar 0)) (wCons (wIsEN subE "BadRow" (wVar 0)) wNil))))) (wgName 1))
  (wSeq (wAsg (wOp addD (wVar 1) (wLst (wCons (wIsEN subE "BadRows" (wVar 0)) (wCons (wIsEN subE "BadPrices" (wVar 0)) (wCons (wIsEN subE "NoRow" (wVar 0)) wNil))))) (wgName 1))
  (wSeq (wAsg (wOp addD (wVar 1) (wLst (wCons (wIsEN subE "BadWords" (wVar 0)) (wCons (wIsEN subE "BadFare" (wVar 0)) (wCons (wIsEN subE "BadOffer" (wVar 0)) wNil))))) (wgName 1))
  (wSeq (wAsg (wOp addD (wVar 1) (wLst (wCons (wIsEN subE "BadCell" (wVar 0)) (wCons (wIsEN subE "BadForecast" (wVar 0)) (wCons (wIsEN subE "BadStrategy" (wVar 0)) wNil))))) (wgName 1))
  (wSeq (wAsg (wOp addD (wVar 1) (wLst (wCons (wIsEN subE "BadReceipts" (wVar 0)) (wCons (wIsEN subE "TooMany" (wVar 0)) (wCons (wIsEN subE "OtherThings" (wVar 0)) wNil))))) (wgName 1))
  (wSeq (wAsg (wOp addD (wVar 1) (wLst (wCons (wIsEN subE "NotNow" (wVar 0)) (wCons (wIsEN subE "NothingDone" (wVar 0)) (wCons (wIsEN subE "BadHouse" (wVar 0)) wNil))))) (wgName 1))
  (wSeq (wAsg (wOp addD (wVar 1) (wLst (wCons (wIsEN subE "BadJournal" (wVar 0)) (wCons (wIsEN subE "BadText" (wVar 0)) (wCons (wIsEN subE "BadMarks" (wVar 0)) wNil))))) (wgName 1))
  (wSeq (wAsg (wOp addD (wVar 1) (wLst (wCons (wIsEN subE "NoRounds" (wVar 0)) (wCons (wIsEN subE "NoTurns" (wVar 0)) (wCons (wIsEN subE "BadTurns" (wVar 0)) wNil))))) (wgName 1))
  (wRet (wOp addD (wVar 1) (wLst (wCons (wIsEN subE "NotSo" (wVar 0)) wNil))))))))))))))))
def W__law_marks : WF := bodyW B__law_marks 2
theorem u__law_marks {d0 : Dt} {q : Dt → Prop} {qx : Xv → Prop} : W__law_marks [d0] q qx = B__law_marks { nx := fun _ _ => q .none, rt := fun d _ => q d, ex := fun x _ => qx x } [some (.sh d0), none] 0 := rfl
theorem k__law_marks (Fx : Fg K mg "_law_marks" s__law_marks) (T : Txt mg) {C_BadNumber : Addr} (e_BadNumber : ExP K mg "BadNumber" C_BadNumber) {C_BadPlans : Addr} (e_BadPlans : ExJK P w K mg base "BadPlans" C_BadPlans "at") {C_BadPlan : Addr} (e_BadPlan : ExP K mg "BadPlan" C_BadPlan) {C_BadRules : Addr} (e_BadRules : ExJK P w K mg base "BadRules" C_BadRules "at") {C_BadRule : Addr} (e_BadRule : ExP K mg "BadRule" C_BadRule) {C_BadSide : Addr} (e_BadSide : ExP K mg "BadSide" C_BadSide) {C_NoPlans : Addr} (e_NoPlans : ExP K mg "NoPlans" C_NoPlans) {C_BadThing : Addr} (e_BadThing : ExJK P w K mg base "BadThing" C_BadThing "thing") {C_BadBook : Addr} (e_BadBook : ExJK P w K mg base "BadBook" C_BadBook "part") {C_BadLimit : Addr} (e_BadLimit : ExP K mg "BadLimit" C_BadLimit) {C_BadLot : Addr} (e_BadLot : ExP K mg "BadLot" C_BadLot) {C_NoRule : Addr} (e_NoRule : ExJK P w K mg base "NoRule" C_NoRule "at") {C_BadRow : Addr} (e_BadRow : ExJK P w K mg base "BadRow" C_BadRow "part") {C_BadBox : Addr} (e_BadBox : ExJK P w K mg base "BadBox" C_BadBox "part") {C_BadStretch : Addr} (e_BadStretch : ExP K mg "BadStretch" C_BadStretch) {C_NoRow : Addr} (e_NoRow : ExJK P w K mg base "NoRow" C_NoRow "at") {C_BadPrices : Addr} (e_BadPrices : ExJK P w K mg base "BadPrices" C_BadPrices "part") {C_BadRows : Addr} (e_BadRows : ExJK P w K mg base "BadRows" C_BadRows "at") {C_BadOffer : Addr} (e_BadOffer : ExJK P w K mg base "BadOffer" C_BadOffer "part") {C_BadFare : Addr} (e_BadFare : ExJK P w K mg base "BadFare" C_BadFare "part") {C_BadWords : Addr} (e_BadWords : ExP K mg "BadWords" C_BadWords) {C_BadStrategy : Addr} (e_BadStrategy : ExP K mg "BadStrategy" C_BadStrategy) {C_BadForecast : Addr} (e_BadForecast : ExJK P w K mg base "BadForecast" C_BadForecast "part") {C_BadCell : Addr} (e_BadCell : ExP K mg "BadCell" C_BadCell) {C_OtherThings : Addr} (e_OtherThings : ExP K mg "OtherThings" C_OtherThings) {C_TooMany : Addr} (e_TooMany : ExJK P w K mg base "TooMany" C_TooMany "most") {C_BadReceipts : Addr} (e_BadReceipts : ExJK P w K mg base "BadReceipts" C_BadReceipts "at") {C_BadHouse : Addr} (e_BadHouse : ExP K mg "BadHouse" C_BadHouse) {C_NothingDone : Addr} (e_NothingDone : ExP K mg "NothingDone" C_NothingDone) {C_NotNow : Addr} (e_NotNow : ExJK P w K mg base "NotNow" C_NotNow "word") {C_BadMarks : Addr} (e_BadMarks : ExJK P w K mg base "BadMarks" C_BadMarks "at") {C_BadText : Addr} (e_BadText : ExJK P w K mg base "BadText" C_BadText "line") {C_BadJournal : Addr} (e_BadJournal : ExJK P w K mg base "BadJournal" C_BadJournal "at") {C_BadTurns : Addr} (e_BadTurns : ExJK P w K mg base "BadTurns" C_BadTurns "part") {C_NoTurns : Addr} (e_NoTurns : ExP K mg "NoTurns" C_NoTurns) {C_NoRounds : Addr} (e_NoRounds : ExP K mg "NoRounds" C_NoRounds) {C_NotSo : Addr} (e_NotSo : ExP K mg "NotSo" C_NotSo) (hEK : EKN K mg subE EOWN) : Kw P w K mg base 1 "_law_marks" ["_law_error"] W__law_marks := by
  refine kw_of Fx sc__law_marks (fun F => F.binds fun _ _ _ _ _ _ us hl => match us, hl with | [_], _ => rfl) fun f₀ cdv A outer s H E hg hr => ?_
  have hu := hu_of hr
  exact ⟨_, (pss_cons (ps_set (i := 1) sc__law_marks.nd rfl (Or.inl rfl) (pe_lst (pa_cons (pe_callB (call_isErrN (K := K) rfl) (by rfl) T.b_isinstance (by decide +kernel) (pa_cons (pv 0) (pa_cons (pe_glob (v := .ref C_BadPlan) (by rfl) e_BadPlan.g rfl) pa_nil))) (pa_cons (pe_callB (call_isErrN (K := K) rfl) (by rfl) T.b_isinstance (by decide +kernel) (pa_cons (pv 0) (pa_cons (pe_glob (v := .ref C_BadPlans) (by rfl) e_BadPlans.g rfl) pa_nil))) (pa_cons (pe_callB (call_isErrN (K := K) rfl) (by rfl) T.b_isinstance (by decide +kernel) (pa_cons (pv 0) (pa_cons (pe_glob (v := .ref C_BadNumber) (by rfl) e_BadNumber.g rfl) pa_nil))) pa_nil)))))
  (pss_cons (ps_set (i := 1) sc__law_marks.nd rfl (Or.inl rfl) (pe_op (op_addA (K := K) rfl) (pv 1) (pe_lst (pa_cons (pe_callB (call_isErrN (K := K) rfl) (by rfl) T.b_isinstance (by decide +kernel) (pa_cons (pv 0) (pa_cons (pe_glob (v := .ref C_BadSide) (by rfl) e_BadSide.g rfl) pa_nil))) (pa_cons (pe_callB (call_isErrN (K := K) rfl) (by rfl) T.b_isinstance (by decide +kernel) (pa_cons (pv 0) (pa_cons (pe_glob (v := .ref C_BadRule) (by rfl) e_BadRule.g rfl) pa_nil))) (pa_cons (pe_callB (call_isErrN (K := K) rfl) (by rfl) T.b_isinstance (by decide +kernel) (pa_cons (pv 0) (pa_cons (pe_glob (v := .ref C_BadRules) (by rfl) e_BadRules.g rfl) pa_nil))) pa_nil))))))
  (pss_cons (ps_set (i := 1) sc__law_marks.nd rfl (Or.inl rfl) (pe_op (op_addA (K := K) rfl) (pv 1) (pe_lst (pa_cons (pe_callB (call_isErrN (K := K) rfl) (by rfl) T.b_isinstance (by decide +kernel) (pa_cons (pv 0) (pa_cons (pe_glob (v := .ref C_BadBook) (by rfl) e_BadBook.g rfl) pa_nil))) (pa_cons (pe_callB (call_isErrN (K := K) rfl) (by rfl) T.b_isinstance (by decide +kernel) (pa_cons (pv 0) (pa_cons (pe_glob (v := .ref C_BadThing) (by rfl) e_BadThing.g rfl) pa_nil))) (pa_cons (pe_callB (call_isErrN (K := K) rfl) (by rfl) T.b_isinstance (by decide +kernel) (pa_cons (pv 0) (pa_cons (pe_glob (v := .ref C_NoPlans) (by rfl) e_NoPlans.g rfl) pa_nil))) pa_nil))))))
  (pss_cons (ps_set (i := 1) sc__law_marks.nd rfl (Or.inl rfl) (pe_op (op_addA (K := K) rfl) (pv 1) (pe_lst (pa_cons (pe_callB (call_isErrN (K := K) rfl) (by rfl) T.b_isinstance (by decide +kernel) (pa_cons (pv 0) (pa_cons (pe_glob (v := .ref C_NoRule) (by rfl) e_NoRule.g rfl) pa_nil))) (pa_cons (pe_callB (call_isErrN (K := K) rfl) (by rfl) T.b_isinstance (by decide +kernel) (pa_cons (pv 0) (pa_cons (pe_glob (v := .ref C_BadLot) (by rfl) e_BadLot.g rfl) pa_nil))) (pa_cons (pe_callB (call_isErrN (K := K) rfl) (by rfl) T.b_isinstance (by decide +kernel) (pa_cons (pv 0) (pa_cons (pe_glob (v := .ref C_BadLimit) (by rfl) e_BadLimit.g rfl) pa_nil))) pa_nil))))))
  (pss_cons (ps_set (i := 1) sc__law_marks.nd rfl (Or.inl rfl) (pe_op (op_addA (K := K) rfl) (pv 1) (pe_lst (pa_cons (pe_callB (call_isErrN (K := K) rfl) (by rfl) T.b_isinstance (by decide +kernel) (pa_cons (pv 0) (pa_cons (pe_glob (v := .ref C_BadStretch) (by rfl) e_BadStretch.g rfl) pa_nil))) (pa_cons (pe_callB (call_isErrN (K := K) rfl) (by rfl) T.b_isinstance (by decide +kernel) (pa_cons (pv 0) (pa_cons (pe_glob (v := .ref C_BadBox) (by rfl) e_BadBox.g rfl) pa_nil))) (pa_cons (pe_callB (call_isErrN (K := K) rfl) (by rfl) T.b_isinstance (by decide +kernel) (pa_cons (pv 0) (pa_cons (pe_glob (v := .ref C_BadRow) (by rfl) e_BadRow.g rfl) pa_nil))) pa_nil))))))
  (pss_cons (ps_set (i := 1) sc__law_marks.nd rfl (Or.inl rfl) (pe_op (op_addA (K := K) rfl) (pv 1) (pe_lst (pa_cons (pe_callB (call_isErrN (K := K) rfl) (by rfl) T.b_isinstance (by decide +kernel) (pa_cons (pv 0) (pa_cons (pe_glob (v := .ref C_BadRows) (by rfl) e_BadRows.g rfl) pa_nil))) (pa_cons (pe_callB (call_isErrN (K := K) rfl) (by rfl) T.b_isinstance (by decide +kernel) (pa_cons (pv 0) (pa_cons (pe_glob (v := .ref C_BadPrices) (by rfl) e_BadPrices.g rfl) pa_nil))) (pa_cons (pe_callB (call_isErrN (K := K) rfl) (by rfl) T.b_isinstance (by decide +kernel) (pa_cons (pv 0) (pa_cons (pe_glob (v := .ref C_NoRow) (by rfl) e_NoRow.g rfl) pa_nil))) pa_nil))))))
  (pss_cons (ps_set (i := 1) sc__law_marks.nd rfl (Or.inl rfl) (pe_op (op_addA (K := K) rfl) (pv 1) (pe_lst (pa_cons (pe_callB (call_isErrN (K := K) rfl) (by rfl) T.b_isinstance (by decide +kernel) (pa_cons (pv 0) (pa_cons (pe_glob (v := .ref C_BadWords) (by rfl) e_BadWords.g rfl) pa_nil))) (pa_cons (pe_callB (call_isErrN (K := K) rfl) (by rfl) T.b_isinstance (by decide +kernel) (pa_cons (pv 0) (pa_cons (pe_glob (v := .ref C_BadFare) (by rfl) e_BadFare.g rfl) pa_nil))) (pa_cons (pe_callB (call_isErrN (K := K) rfl) (by rfl) T.b_isinstance (by decide +kernel) (pa_cons (pv 0) (pa_cons (pe_glob (v := .ref C_BadOffer) (by rfl) e_BadOffer.g rfl) pa_nil))) pa_nil))))))
  (pss_cons (ps_set (i := 1) sc__law_marks.nd rfl (Or.inl rfl) (pe_op (op_addA (K := K) rfl) (pv 1) (pe_lst (pa_cons (pe_callB (call_isErrN (K := K) rfl) (by rfl) T.b_isinstance (by decide +kernel) (pa_cons (pv 0) (pa_cons (pe_glob (v := .ref C_BadCell) (by rfl) e_BadCell.g rfl) pa_nil))) (pa_cons (pe_callB (call_isErrN (K := K) rfl) (by rfl) T.b_isinstance (by decide +kernel) (pa_cons (pv 0) (pa_cons (pe_glob (v := .ref C_BadForecast) (by rfl) e_BadForecast.g rfl) pa_nil))) (pa_cons (pe_callB (call_isErrN (K := K) rfl) (by rfl) T.b_isinstance (by decide +kernel) (pa_cons (pv 0) (pa_cons (pe_glob (v := .ref C_BadStrategy) (by rfl) e_BadStrategy.g rfl) pa_nil))) pa_nil))))))
  (pss_cons (ps_set (i := 1) sc__law_marks.nd rfl (Or.inl rfl) (pe_op (op_addA (K := K) rfl) (pv 1) (pe_lst (pa_cons (pe_callB (call_isErrN (K := K) rfl) (by rfl) T.b_isinstance (by decide +kernel) (pa_cons (pv 0) (pa_cons (pe_glob (v := .ref C_BadReceipts) (by rfl) e_BadReceipts.g rfl) pa_nil))) (pa_cons (pe_callB (call_isErrN (K := K) rfl) (by rfl) T.b_isinstance (by decide +kernel) (pa_cons (pv 0) (pa_cons (pe_glob (v := .ref C_TooMany) (by rfl) e_TooMany.g rfl) pa_nil))) (pa_cons (pe_callB (call_isErrN (K := K) rfl) (by rfl) T.b_isinstance (by decide +kernel) (pa_cons (pv 0) (pa_cons (pe_glob (v := .ref C_OtherThings) (by rfl) e_OtherThings.g rfl) pa_nil))) pa_nil))))))
  (pss_cons (ps_set (i := 1) sc__law_marks.nd rfl (Or.inl rfl) (pe_op (op_addA (K := K) rfl) (pv 1) (pe_lst (pa_cons (pe_callB (call_isErrN (K := K) rfl) (by rfl) T.b_isinstance (by decide +kernel) (pa_cons (pv 0) (pa_cons (pe_glob (v := .ref C_NotNow) (by rfl) e_NotNow.g rfl) pa_nil))) (pa_cons (pe_callB (call_isErrN (K := K) rfl) (by rfl) T.b_isinstance (by decide +kernel) (pa_cons (pv 0) (pa_cons (pe_glob (v := .ref C_NothingDone) (by rfl) e_NothingDone.g rfl) pa_nil))) (pa_cons (pe_callB (call_isErrN (K := K) rfl) (by rfl) T.b_isinstance (by decide +kernel) (pa_cons (pv 0) (pa_cons (pe_glob (v := .ref C_BadHouse) (by rfl) e_BadHouse.g rfl) pa_nil))) pa_nil))))))
  (pss_cons (ps_set (i := 1) sc__law_marks.nd rfl (Or.inl rfl) (pe_op (op_addA (K := K) rfl) (pv 1) (pe_lst (pa_cons (pe_callB (call_isErrN (K := K) rfl) (by rfl) T.b_isinstance (by decide +kernel) (pa_cons (pv 0) (pa_cons (pe_glob (v := .ref C_BadJournal) (by rfl) e_BadJournal.g rfl) pa_nil))) (pa_cons (pe_callB (call_isErrN (K := K) rfl) (by rfl) T.b_isinstance (by decide +kernel) (pa_cons (pv 0) (pa_cons (pe_glob (v := .ref C_BadText) (by rfl) e_BadText.g rfl) pa_nil))) (pa_cons (pe_callB (call_isErrN (K := K) rfl) (by rfl) T.b_isinstance (by decide +kernel) (pa_cons (pv 0) (pa_cons (pe_glob (v := .ref C_BadMarks) (by rfl) e_BadMarks.g rfl) pa_nil))) pa_nil))))))
  (pss_cons (ps_set (i := 1) sc__law_marks.nd rfl (Or.inl rfl) (pe_op (op_addA (K := K) rfl) (pv 1) (pe_lst (pa_cons (pe_callB (call_isErrN (K := K) rfl) (by rfl) T.b_isinstance (by decide +kernel) (pa_cons (pv 0) (pa_cons (pe_glob (v := .ref C_NoRounds) (by rfl) e_NoRounds.g rfl) pa_nil))) (pa_cons (pe_callB (call_isErrN (K := K) rfl) (by rfl) T.b_isinstance (by decide +kernel) (pa_cons (pv 0) (pa_cons (pe_glob (v := .ref C_NoTurns) (by rfl) e_NoTurns.g rfl) pa_nil))) (pa_cons (pe_callB (call_isErrN (K := K) rfl) (by rfl) T.b_isinstance (by decide +kernel) (pa_cons (pv 0) (pa_cons (pe_glob (v := .ref C_BadTurns) (by rfl) e_BadTurns.g rfl) pa_nil))) pa_nil))))))
  (pss_one (ps_ret (pe_op (op_addA (K := K) rfl) (pv 1) (pe_lst (pa_cons (pe_callB (call_isErrN (K := K) rfl) (by rfl) T.b_isinstance (by decide +kernel) (pa_cons (pv 0) (pa_cons (pe_glob (v := .ref C_NotSo) (by rfl) e_NotSo.g rfl) pa_nil))) pa_nil))))))))))))))))),
  (ss_seq (ss_asg ((snn_lst (snr_cons (sn_isEN hEK (by decide +kernel) (by decide +kernel) e_BadPlan.g sn_var) (snr_cons (sn_isEN hEK (by decide +kernel) (by decide +kernel) e_BadPlans.g sn_var) (snr_cons (sn_isEN hEK (by decide +kernel) (by decide +kernel) e_BadNumber.g sn_var) snr_nil))) (by decide))).e (sg_name (i := 1)))
  (ss_seq (ss_asg (sn_op ro_add (SndE.b sn_var) (SndE.b ((snn_lst (snr_cons (sn_isEN hEK (by decide +kernel) (by decide +kernel) e_BadSide.g sn_var) (snr_cons (sn_isEN hEK (by decide +kernel) (by decide +kernel) e_BadRule.g sn_var) (snr_cons (sn_isEN hEK (by decide +kernel) (by decide +kernel) e_BadRules.g sn_var) snr_nil))) (by decide))).e)) (sg_name (i := 1)))
  (ss_seq (ss_asg (sn_op ro_add (SndE.b sn_var) (SndE.b ((snn_lst (snr_cons (sn_isEN hEK (by decide +kernel) (by decide +kernel) e_BadBook.g sn_var) (snr_cons (sn_isEN hEK (by decide +kernel) (by decide +kernel) e_BadThing.g sn_var) (snr_cons (sn_isEN hEK (by decide +kernel) (by decide +kernel) e_NoPlans.g sn_var) snr_nil))) (by decide))).e)) (sg_name (i := 1)))
  (ss_seq (ss_asg (sn_op ro_add (SndE.b sn_var) (SndE.b ((snn_lst (snr_cons (sn_isEN hEK (by decide +kernel) (by decide +kernel) e_NoRule.g sn_var) (snr_cons (sn_isEN hEK (by decide +kernel) (by decide +kernel) e_BadLot.g sn_var) (snr_cons (sn_isEN hEK (by decide +kernel) (by decide +kernel) e_BadLimit.g sn_var) snr_nil))) (by decide))).e)) (sg_name (i := 1)))
  (ss_seq (ss_asg (sn_op ro_add (SndE.b sn_var) (SndE.b ((snn_lst (snr_cons (sn_isEN hEK (by decide +kernel) (by decide +kernel) e_BadStretch.g sn_var) (snr_cons (sn_isEN hEK (by decide +kernel) (by decide +kernel) e_BadBox.g sn_var) (snr_cons (sn_isEN hEK (by decide +kernel) (by decide +kernel) e_BadRow.g sn_var) snr_nil))) (by decide))).e)) (sg_name (i := 1)))
  (ss_seq (ss_asg (sn_op ro_add (SndE.b sn_var) (SndE.b ((snn_lst (snr_cons (sn_isEN hEK (by decide +kernel) (by decide +kernel) e_BadRows.g sn_var) (snr_cons (sn_isEN hEK (by decide +kernel) (by decide +kernel) e_BadPrices.g sn_var) (snr_cons (sn_isEN hEK (by decide +kernel) (by decide +kernel) e_NoRow.g sn_var) snr_nil))) (by decide))).e)) (sg_name (i := 1)))
  (ss_seq (ss_asg (sn_op ro_add (SndE.b sn_var) (SndE.b ((snn_lst (snr_cons (sn_isEN hEK (by decide +kernel) (by decide +kernel) e_BadWords.g sn_var) (snr_cons (sn_isEN hEK (by decide +kernel) (by decide +kernel) e_BadFare.g sn_var) (snr_cons (sn_isEN hEK (by decide +kernel) (by decide +kernel) e_BadOffer.g sn_var) snr_nil))) (by decide))).e)) (sg_name (i := 1)))
  (ss_seq (ss_asg (sn_op ro_add (SndE.b sn_var) (SndE.b ((snn_lst (snr_cons (sn_isEN hEK (by decide +kernel) (by decide +kernel) e_BadCell.g sn_var) (snr_cons (sn_isEN hEK (by decide +kernel) (by decide +kernel) e_BadForecast.g sn_var) (snr_cons (sn_isEN hEK (by decide +kernel) (by decide +kernel) e_BadStrategy.g sn_var) snr_nil))) (by decide))).e)) (sg_name (i := 1)))
  (ss_seq (ss_asg (sn_op ro_add (SndE.b sn_var) (SndE.b ((snn_lst (snr_cons (sn_isEN hEK (by decide +kernel) (by decide +kernel) e_BadReceipts.g sn_var) (snr_cons (sn_isEN hEK (by decide +kernel) (by decide +kernel) e_TooMany.g sn_var) (snr_cons (sn_isEN hEK (by decide +kernel) (by decide +kernel) e_OtherThings.g sn_var) snr_nil))) (by decide))).e)) (sg_name (i := 1)))
  (ss_seq (ss_asg (sn_op ro_add (SndE.b sn_var) (SndE.b ((snn_lst (snr_cons (sn_isEN hEK (by decide +kernel) (by decide +kernel) e_NotNow.g sn_var) (snr_cons (sn_isEN hEK (by decide +kernel) (by decide +kernel) e_NothingDone.g sn_var) (snr_cons (sn_isEN hEK (by decide +kernel) (by decide +kernel) e_BadHouse.g sn_var) snr_nil))) (by decide))).e)) (sg_name (i := 1)))
  (ss_seq (ss_asg (sn_op ro_add (SndE.b sn_var) (SndE.b ((snn_lst (snr_cons (sn_isEN hEK (by decide +kernel) (by decide +kernel) e_BadJournal.g sn_var) (snr_cons (sn_isEN hEK (by decide +kernel) (by decide +kernel) e_BadText.g sn_var) (snr_cons (sn_isEN hEK (by decide +kernel) (by decide +kernel) e_BadMarks.g sn_var) snr_nil))) (by decide))).e)) (sg_name (i := 1)))
  (ss_seq (ss_asg (sn_op ro_add (SndE.b sn_var) (SndE.b ((snn_lst (snr_cons (sn_isEN hEK (by decide +kernel) (by decide +kernel) e_NoRounds.g sn_var) (snr_cons (sn_isEN hEK (by decide +kernel) (by decide +kernel) e_NoTurns.g sn_var) (snr_cons (sn_isEN hEK (by decide +kernel) (by decide +kernel) e_BadTurns.g sn_var) snr_nil))) (by decide))).e)) (sg_name (i := 1)))
  (ss_ret (sn_op ro_add (SndE.b sn_var) (SndE.b ((snn_lst (snr_cons (sn_isEN hEK (by decide +kernel) (by decide +kernel) e_NotSo.g sn_var) snr_nil) (by decide))).e)))))))))))))))⟩
abbrev s__law_named : Stmt := top 47
abbrev N__law_named : List Str := ["_law_odd_here", "_law_found"]
theorem sc__law_named : FnScope N__law_named ["_law_odd_here"] (defScope s__law_named) := ⟨rfl, rfl, rfl, by decide +kernel, rfl, by decide +kernel, by decide +kernel⟩
def B__law_named : WS := (wSeq (wAsg (wLst (wCons (wFld fldE "at" (wErrJK "BadPlans" "at" (wCons (wVar 0) wNil))) (wCons (wFld fldE "at" (wErrJK "BadRules" "at" (wCons (wVar 0) wNil))) (wCons (wFld fldE "part" (wErrJK "BadBook" "part" (wCons (wVar 0) wNil))) wNil)))) (wgName 1))
  (wSeq (wAsg (wOp addD (wVar 1) (wLst (wCons (wFld fldE "thing" (wErrJK "BadThing" "thing" (wCons (wVar 0) wNil))) (wCons (wFld fldE "at" (wErrJK "NoRule" "at" (wCons (wVar 0) wNil))) (wCons (wFld fldE "part" (wErrJK "BadBox" "part" (wCons (wVar 0) wNil))) wNil))))) (wgName 1))
  (wSeq (wAsg (wOp addD (wVar 1) (wLst (wCons (wFld fldE "part" (wErrJK "BadRow" "part" (wCons (wVar 0) wNil))) (wCons (wFld fldE "at" (wErrJK "BadRows" "at" (wCons (wVar 0) wNil))) (wCons (wFld fldE "part" (wErrJK "BadPrices" "part" (wCons (wVar 0) wNil))) wNil))))) (wgName 1))
  (wSeq (wAsg (wOp addD (wVar 1) (wLst (wCons (wFld fldE "at" (wErrJK "NoRow" "at" (wCons (wVar 0) wNil))) (wCons (wFld fldE "part" (wErrJK "BadFare" "part" (wCons (wVar 0) wNil))) (wCons (wFld fldE "part" (wErrJK "BadOffer" "part" (wCons (wVar 0) wNil))) wNil))))) (wgName 1))
  (wSeq (wAsg (wOp addD (wVar 1) (wLst (wCons (wFld fldE "part" (wErrJK "BadForecast" "part" (wCons (wVar 0) wNil))) (wCons (wFld fldE "at" (wErrJK "BadReceipts" "at" (wCons (wVar 0) wNil))) (wCons (wFld fldE "most" (wErrJK "TooMany" "most" (wCons (wVar 0) wNil))) wNil))))) (wgName 1))
  (wSeq (wAsg (wOp addD (wVar 1) (wLst (wCons (wFld fldE "word" (wErrJK "NotNow" "word" (wCons (wVar 0) wNil))) (wCons (wFld fldE "at" (wErrJK "BadJournal" "at" (wCons (wVar 0) wNil))) (wCons (wFld fldE "line" (wErrJK "BadText" "line" (wCons (wVar 0) wNil))) wNil))))) (wgName 1))
  (wSeq (wAsg (wOp addD (wVar 1) (wLst (wCons (wFld fldE "at" (wErrJK "BadMarks" "at" (wCons (wVar 0) wNil))) (wCons (wFld fldE "part" (wErrJK "BadTurns" "part" (wCons (wVar 0) wNil))) wNil)))) (wgName 1))
  (wRet (wVar 1)))))))))
def W__law_named : WF := bodyW B__law_named 2
theorem u__law_named {d0 : Dt} {q : Dt → Prop} {qx : Xv → Prop} : W__law_named [d0] q qx = B__law_named { nx := fun _ _ => q .none, rt := fun d _ => q d, ex := fun x _ => qx x } [some (.sh d0), none] 0 := rfl
theorem k__law_named (Fx : Fg K mg "_law_named" s__law_named) (T : Txt mg) {C_BadBook : Addr} (e_BadBook : ExJK P w K mg base "BadBook" C_BadBook "part") {C_BadRules : Addr} (e_BadRules : ExJK P w K mg base "BadRules" C_BadRules "at") {C_BadPlans : Addr} (e_BadPlans : ExJK P w K mg base "BadPlans" C_BadPlans "at") {C_BadBox : Addr} (e_BadBox : ExJK P w K mg base "BadBox" C_BadBox "part") {C_NoRule : Addr} (e_NoRule : ExJK P w K mg base "NoRule" C_NoRule "at") {C_BadThing : Addr} (e_BadThing : ExJK P w K mg base "BadThing" C_BadThing "thing") {C_BadPrices : Addr} (e_BadPrices : ExJK P w K mg base "BadPrices" C_BadPrices "part") {C_BadRows : Addr} (e_BadRows : ExJK P w K mg base "BadRows" C_BadRows "at") {C_BadRow : Addr} (e_BadRow : ExJK P w K mg base "BadRow" C_BadRow "part") {C_BadOffer : Addr} (e_BadOffer : ExJK P w K mg base "BadOffer" C_BadOffer "part") {C_BadFare : Addr} (e_BadFare : ExJK P w K mg base "BadFare" C_BadFare "part") {C_NoRow : Addr} (e_NoRow : ExJK P w K mg base "NoRow" C_NoRow "at") {C_TooMany : Addr} (e_TooMany : ExJK P w K mg base "TooMany" C_TooMany "most") {C_BadReceipts : Addr} (e_BadReceipts : ExJK P w K mg base "BadReceipts" C_BadReceipts "at") {C_BadForecast : Addr} (e_BadForecast : ExJK P w K mg base "BadForecast" C_BadForecast "part") {C_BadText : Addr} (e_BadText : ExJK P w K mg base "BadText" C_BadText "line") {C_BadJournal : Addr} (e_BadJournal : ExJK P w K mg base "BadJournal" C_BadJournal "at") {C_NotNow : Addr} (e_NotNow : ExJK P w K mg base "NotNow" C_NotNow "word") {C_BadTurns : Addr} (e_BadTurns : ExJK P w K mg base "BadTurns" C_BadTurns "part") {C_BadMarks : Addr} (e_BadMarks : ExJK P w K mg base "BadMarks" C_BadMarks "at") (hEF : EFn K mg fldE) : Kw P w K mg base 3 "_law_named" ["_law_odd_here"] W__law_named := by
  refine kw_of Fx sc__law_named (fun F => F.binds fun _ _ _ _ _ _ us hl => match us, hl with | [_], _ => rfl) fun f₀ cdv A outer s H E hg hr => ?_
  have hu := hu_of hr
  exact ⟨_, (pss_cons (ps_set (i := 1) sc__law_named.nd rfl (Or.inl rfl) (pe_lst (pa_cons (pe_xa (K := K) rfl (pe_exJK rfl rfl rfl rfl rfl e_BadPlans (hr.mono (by decide)) (by rfl) (pk_cons (pv 0) pk_nil))) (pa_cons (pe_xa (K := K) rfl (pe_exJK rfl rfl rfl rfl rfl e_BadRules (hr.mono (by decide)) (by rfl) (pk_cons (pv 0) pk_nil))) (pa_cons (pe_xa (K := K) rfl (pe_exJK rfl rfl rfl rfl rfl e_BadBook (hr.mono (by decide)) (by rfl) (pk_cons (pv 0) pk_nil))) pa_nil)))))
  (pss_cons (ps_set (i := 1) sc__law_named.nd rfl (Or.inl rfl) (pe_op (op_addA (K := K) rfl) (pv 1) (pe_lst (pa_cons (pe_xa (K := K) rfl (pe_exJK rfl rfl rfl rfl rfl e_BadThing (hr.mono (by decide)) (by rfl) (pk_cons (pv 0) pk_nil))) (pa_cons (pe_xa (K := K) rfl (pe_exJK rfl rfl rfl rfl rfl e_NoRule (hr.mono (by decide)) (by rfl) (pk_cons (pv 0) pk_nil))) (pa_cons (pe_xa (K := K) rfl (pe_exJK rfl rfl rfl rfl rfl e_BadBox (hr.mono (by decide)) (by rfl) (pk_cons (pv 0) pk_nil))) pa_nil))))))
  (pss_cons (ps_set (i := 1) sc__law_named.nd rfl (Or.inl rfl) (pe_op (op_addA (K := K) rfl) (pv 1) (pe_lst (pa_cons (pe_xa (K := K) rfl (pe_exJK rfl rfl rfl rfl rfl e_BadRow (hr.mono (by decide)) (by rfl) (pk_cons (pv 0) pk_nil))) (pa_cons (pe_xa (K := K) rfl (pe_exJK rfl rfl rfl rfl rfl e_BadRows (hr.mono (by decide)) (by rfl) (pk_cons (pv 0) pk_nil))) (pa_cons (pe_xa (K := K) rfl (pe_exJK rfl rfl rfl rfl rfl e_BadPrices (hr.mono (by decide)) (by rfl) (pk_cons (pv 0) pk_nil))) pa_nil))))))
  (pss_cons (ps_set (i := 1) sc__law_named.nd rfl (Or.inl rfl) (pe_op (op_addA (K := K) rfl) (pv 1) (pe_lst (pa_cons (pe_xa (K := K) rfl (pe_exJK rfl rfl rfl rfl rfl e_NoRow (hr.mono (by decide)) (by rfl) (pk_cons (pv 0) pk_nil))) (pa_cons (pe_xa (K := K) rfl (pe_exJK rfl rfl rfl rfl rfl e_BadFare (hr.mono (by decide)) (by rfl) (pk_cons (pv 0) pk_nil))) (pa_cons (pe_xa (K := K) rfl (pe_exJK rfl rfl rfl rfl rfl e_BadOffer (hr.mono (by decide)) (by rfl) (pk_cons (pv 0) pk_nil))) pa_nil))))))
  (pss_cons (ps_set (i := 1) sc__law_named.nd rfl (Or.inl rfl) (pe_op (op_addA (K := K) rfl) (pv 1) (pe_lst (pa_cons (pe_xa (K := K) rfl (pe_exJK rfl rfl rfl rfl rfl e_BadForecast (hr.mono (by decide)) (by rfl) (pk_cons (pv 0) pk_nil))) (pa_cons (pe_xa (K := K) rfl (pe_exJK rfl rfl rfl rfl rfl e_BadReceipts (hr.mono (by decide)) (by rfl) (pk_cons (pv 0) pk_nil))) (pa_cons (pe_xa (K := K) rfl (pe_exJK rfl rfl rfl rfl rfl e_TooMany (hr.mono (by decide)) (by rfl) (pk_cons (pv 0) pk_nil))) pa_nil))))))
  (pss_cons (ps_set (i := 1) sc__law_named.nd rfl (Or.inl rfl) (pe_op (op_addA (K := K) rfl) (pv 1) (pe_lst (pa_cons (pe_xa (K := K) rfl (pe_exJK rfl rfl rfl rfl rfl e_NotNow (hr.mono (by decide)) (by rfl) (pk_cons (pv 0) pk_nil))) (pa_cons (pe_xa (K := K) rfl (pe_exJK rfl rfl rfl rfl rfl e_BadJournal (hr.mono (by decide)) (by rfl) (pk_cons (pv 0) pk_nil))) (pa_cons (pe_xa (K := K) rfl (pe_exJK rfl rfl rfl rfl rfl e_BadText (hr.mono (by decide)) (by rfl) (pk_cons (pv 0) pk_nil))) pa_nil))))))
  (pss_cons (ps_set (i := 1) sc__law_named.nd rfl (Or.inl rfl) (pe_op (op_addA (K := K) rfl) (pv 1) (pe_lst (pa_cons (pe_xa (K := K) rfl (pe_exJK rfl rfl rfl rfl rfl e_BadMarks (hr.mono (by decide)) (by rfl) (pk_cons (pv 0) pk_nil))) (pa_cons (pe_xa (K := K) rfl (pe_exJK rfl rfl rfl rfl rfl e_BadTurns (hr.mono (by decide)) (by rfl) (pk_cons (pv 0) pk_nil))) pa_nil)))))
  (pss_one (ps_ret (pv 1)))))))))),
  (ss_seq (ss_asg ((snn_lst (snr_cons (sn_fld hEF (sn_errJK e_BadPlans.j.g (snr_cons sn_var snr_nil))) (snr_cons (sn_fld hEF (sn_errJK e_BadRules.j.g (snr_cons sn_var snr_nil))) (snr_cons (sn_fld hEF (sn_errJK e_BadBook.j.g (snr_cons sn_var snr_nil))) snr_nil))) (by decide))).e (sg_name (i := 1)))
  (ss_seq (ss_asg (sn_op ro_add (SndE.b sn_var) (SndE.b ((snn_lst (snr_cons (sn_fld hEF (sn_errJK e_BadThing.j.g (snr_cons sn_var snr_nil))) (snr_cons (sn_fld hEF (sn_errJK e_NoRule.j.g (snr_cons sn_var snr_nil))) (snr_cons (sn_fld hEF (sn_errJK e_BadBox.j.g (snr_cons sn_var snr_nil))) snr_nil))) (by decide))).e)) (sg_name (i := 1)))
  (ss_seq (ss_asg (sn_op ro_add (SndE.b sn_var) (SndE.b ((snn_lst (snr_cons (sn_fld hEF (sn_errJK e_BadRow.j.g (snr_cons sn_var snr_nil))) (snr_cons (sn_fld hEF (sn_errJK e_BadRows.j.g (snr_cons sn_var snr_nil))) (snr_cons (sn_fld hEF (sn_errJK e_BadPrices.j.g (snr_cons sn_var snr_nil))) snr_nil))) (by decide))).e)) (sg_name (i := 1)))
  (ss_seq (ss_asg (sn_op ro_add (SndE.b sn_var) (SndE.b ((snn_lst (snr_cons (sn_fld hEF (sn_errJK e_NoRow.j.g (snr_cons sn_var snr_nil))) (snr_cons (sn_fld hEF (sn_errJK e_BadFare.j.g (snr_cons sn_var snr_nil))) (snr_cons (sn_fld hEF (sn_errJK e_BadOffer.j.g (snr_cons sn_var snr_nil))) snr_nil))) (by decide))).e)) (sg_name (i := 1)))
  (ss_seq (ss_asg (sn_op ro_add (SndE.b sn_var) (SndE.b ((snn_lst (snr_cons (sn_fld hEF (sn_errJK e_BadForecast.j.g (snr_cons sn_var snr_nil))) (snr_cons (sn_fld hEF (sn_errJK e_BadReceipts.j.g (snr_cons sn_var snr_nil))) (snr_cons (sn_fld hEF (sn_errJK e_TooMany.j.g (snr_cons sn_var snr_nil))) snr_nil))) (by decide))).e)) (sg_name (i := 1)))
  (ss_seq (ss_asg (sn_op ro_add (SndE.b sn_var) (SndE.b ((snn_lst (snr_cons (sn_fld hEF (sn_errJK e_NotNow.j.g (snr_cons sn_var snr_nil))) (snr_cons (sn_fld hEF (sn_errJK e_BadJournal.j.g (snr_cons sn_var snr_nil))) (snr_cons (sn_fld hEF (sn_errJK e_BadText.j.g (snr_cons sn_var snr_nil))) snr_nil))) (by decide))).e)) (sg_name (i := 1)))
  (ss_seq (ss_asg (sn_op ro_add (SndE.b sn_var) (SndE.b ((snn_lst (snr_cons (sn_fld hEF (sn_errJK e_BadMarks.j.g (snr_cons sn_var snr_nil))) (snr_cons (sn_fld hEF (sn_errJK e_BadTurns.j.g (snr_cons sn_var snr_nil))) snr_nil)) (by decide))).e)) (sg_name (i := 1)))
  (ss_ret sn_var))))))))⟩
abbrev s_law : Stmt := top 48
abbrev N_law : List Str := ["_law_script", "_law_state", "_law_turn", "_law_odd_here", "_law_errors", "_law_error", "_law_spots"]
theorem sc_law : FnScope N_law ["_law_script"] (defScope s_law) := ⟨rfl, rfl, rfl, by decide +kernel, rfl, by decide +kernel, by decide +kernel⟩
def B_law : WS := (wSeq (wFor (wiR1 (wCons (wOp addD (wC (.int 2)) (wCB min2D (wCons (wLenSc 0) (wCons (wC (.int 4)) wNil)))) wNil)) (wgName 2)
  (wSeq (wAsg (wCallS0 1 W__law_odd wNil) (wgName 3))
  (wSeq (wAsg (wOp addD (wCall0 W__law_plain wNil) (wCall0 W__law_told (wCons (wVar 3) wNil))) (wgName 4))
  (wSeq (wFor (wiSeq (wVar 4)) (wgName 5)
  (wIfS (wOr (wTest (wOp neD (wCountL (wCall0 W__law_marks (wCons (wVar 5) wNil)) (wC (.bool true))) (wC (.int 1)))) (wOr (wNot (wTest (wIsEN subE "CornerError" (wVar 5)))) (wNot (wTest (wIsEN subE "ValueError" (wVar 5))))))
  (wRet (wC (.bool false))) wNext))
  (wSeq (wAsg (wLc (wiSeq (wVar 4)) (wgName 5) wYes (wIndexL (wCall0 W__law_marks (wCons (wVar 5) wNil)) (wC (.bool true))) [5]) (wgName 6))
  (wSeq (wIfS (wOr (wTest (wOp neD (wCB sortedA (wCons (wVar 6) wNil)) (wLR1 (wC (.int 37))))) (wTest (wOp neD (wReprS (wCall0 W__law_named (wCons (wVar 3) wNil))) (wReprS (wOp repD (wLst (wCons (wVar 3) wNil)) (wC (.int 20)))))))
  (wRet (wC (.bool false))) wNext)
  (wIfS (wTest (wOp neD (wCountL (wCall0 W__law_marks (wCons (wErrP "CornerError" (wC (.str "m"))) wNil)) (wC (.bool true))) (wC (.int 0))))
  (wRet (wC (.bool false))) wNext)))))))
  (wRet (wC (.bool true))))
/-- what is left to show: the law's body, over data -/
def LawD : Prop := ∀ n : Nat, n ≤ 63 → B_law { nx := fun _ _ => False, rt := fun d _ => d = .bool true, ex := fun _ _ => False } [some (.sc n), some .st, none, none, none, none, none] 900000000
theorem g_law {cs : List (Addr × Addr)} {fa : Addr} {oc kV doc pm cdv ct : Value} {od an : Option Addr} {osl : Array (Option Value)} (lk : K.lookup fa = some ⟨oc, od, .func (PySem.W.fnOf "law" "law" (defArgs s_law) (defBody s_law) (defScope s_law) .none kV doc pm an cdv ct), osl⟩) (hcd : PySem.W.codeIn K cdv "law" = true) (hroom : Room 5 callerA) (T : Txt mg) (hTs : ∀ p ∈ Ts, ∃ c, (c, p.1) ∈ cs) (k__law_odd : ∀ base, K.In base → base.Ns mainGlobals mg → (∀ p ∈ cs, TabB base mg p.1 p.2) → Kws P w K mg base Ts 3 "_law_odd" "_law_state" [] W__law_odd) (k__law_plain : ∀ base, K.In base → base.Ns mainGlobals mg → (∀ p ∈ cs, TabB base mg p.1 p.2) → Kw P w K mg base 1 "_law_plain" [] W__law_plain) (k__law_told : ∀ base, K.In base → base.Ns mainGlobals mg → (∀ p ∈ cs, TabB base mg p.1 p.2) → Kw P w K mg base 3 "_law_told" ["_law_odd_here"] W__law_told) (k__law_marks : ∀ base, K.In base → base.Ns mainGlobals mg → (∀ p ∈ cs, TabB base mg p.1 p.2) → Kw P w K mg base 1 "_law_marks" ["_law_error"] W__law_marks) (k__law_named : ∀ base, K.In base → base.Ns mainGlobals mg → (∀ p ∈ cs, TabB base mg p.1 p.2) → Kw P w K mg base 3 "_law_named" ["_law_odd_here"] W__law_named) (k__law_begun : ∀ base, K.In base → base.Ns mainGlobals mg → (∀ p ∈ cs, TabB base mg p.1 p.2) → Kp P w K mg base 1 "_law_begun" ["_law_script"] (spBegun2 K)) {C_CornerError : Addr} (e_CornerError : ExP K mg "CornerError" C_CornerError) (hEK : EKN K mg subE EOWN) (hD : LawD) : LawS P w K mg cs fa 63 := by
  refine lawS_of (st := s_law) (x := "_law_script") (N := N_law) lk hcd sc_law hroom (fun s u => .of_eq rfl) fun base H s a ns hl hk hmg hT tH hS hY hr => ?_
  have k__law_odd := k__law_odd base hk hmg hT
  have k__law_plain := k__law_plain base hk hmg hT
  have k__law_told := k__law_told base hk hmg hT
  have k__law_marks := k__law_marks base hk hmg hT
  have k__law_named := k__law_named base hk hmg hT
  have k__law_begun := k__law_begun base hk hmg hT
  have hu := hu_of hr
  have hg := law_guards (envOfC "law" (defScope s_law) s.heap.objs.size fa cdv)
  refine ⟨_, pss_cons (ps_set (i := 1) sc_law.nd rfl (Or.inl rfl) (pe_kp k__law_begun (hr.mono (by decide)) (by rfl) (pa_cons (pv 0) pa_nil)))
  (pss_cons (ps_for PassesOwn.never rfl (pi_range1 (by rfl) T.b_range (pa_cons (pe_op (op_addA (K := K) rfl) pe_int (pe_callB (call_min2 rfl) (by rfl) T.b_min (by decide +kernel) (pa_cons (pe_callB (call_lenK (K := K) rfl) (by rfl) T.b_len (by decide +kernel) (pa_cons (pv 0) pa_nil)) (pa_cons pe_int pa_nil)))) pa_nil)) (pg_name (i := 2) sc_law.nd rfl (Or.inl rfl))
  (pss_cons (ps_set (i := 3) sc_law.nd rfl (Or.inl rfl) (Dw.pe_callS0 k__law_odd rfl rfl rfl rfl rfl (by exact hg) (hr.mono (by decide)) (by rfl) (pa_cons (pv 1) pa_nil)))
  (pss_cons (ps_set (i := 4) sc_law.nd rfl (Or.inl rfl) (pe_op (op_addA (K := K) rfl) (Dw.pe_callZ0 k__law_plain rfl rfl rfl rfl rfl (by exact hg) (hr.mono (by decide)) (by rfl)) (Dw.pe_call0 k__law_told rfl rfl rfl rfl rfl (by exact hg) (hr.mono (by decide)) (by rfl) (pa_cons (pv 3) pa_nil))))
  (pss_cons (ps_for PassesOwn.never rfl (pi_seqA (K := K) rfl (pv 4)) (pg_name (i := 5) sc_law.nd rfl (Or.inl rfl))
  (pss_one (ps_if (PW.pt (pw_or (pt_cmpR (op_neP (K := K) rfl hr.units) (pe_countL (K := K) rfl hr (Dw.pe_call0 k__law_marks rfl rfl rfl rfl rfl (by exact hg) (hr.mono (by decide)) (by rfl) (pa_cons (pv 5) pa_nil)) pe_bl) pe_int (nomark _)) (pw_or (pt_not (pt_val (pe_callB (call_isErrN (K := K) rfl) (by rfl) T.b_isinstance (by decide +kernel) (pa_cons (pv 5) (pa_cons (pe_glob (v := .ref C_CornerError) (by rfl) e_CornerError.g rfl) pa_nil))))) (pw_or1 (pt_not (pt_val (pe_callB (call_isErrN (K := K) rfl) (by rfl) T.b_isinstance (by decide +kernel) (pa_cons (pv 5) (pa_cons (pe_bltn (v := .ty "ValueError") (by rfl) T.b_ValueError (by decide +kernel) rfl) pa_nil)))))))))
  (pss_one (ps_ret pe_bl)) pss_nil)))
  (pss_cons (ps_setLc (i := 6) (own := [("_law_error", 5)]) (g := gName 5) (tt := tYes) rfl sc_law.nd rfl rfl (sw_true rfl rfl rfl (by decide +kernel)) (pi_seqA (K := K) rfl (pv 4)) (blkOk_by (N := N_law) (sc := defScope s_law) (by decide +kernel)) (fun _ _ _ _ _ => (pg_name (i := 5) sc_law.nd rfl (Or.inl rfl))) (fun _ _ _ _ _ => pts_nil) (fun _ _ _ _ _ => (pe_indexL (K := K) rfl hr (Dw.pe_call0 k__law_marks rfl rfl rfl rfl rfl (by exact hg) (hr.mono (by decide)) (by rfl) (pa_cons (pv 5) pa_nil)) pe_bl)))
  (pss_cons (ps_if (PW.pt (pw_or (pt_cmpR (op_neP (K := K) rfl hr.units) (pe_callB (cr_sortedA (K := K) (mg := mg) rfl rfl (show _ + 64 < cLine from hr.units)) (by rfl) T.b_sorted (by decide +kernel) (pa_cons (pv 6) pa_nil)) (pe_listRg rfl (by rfl) T.b_list (prg_1 (by rfl) T.b_range pe_int)) (nomark _)) (pw_or1 (pt_cmpR (op_neP (K := K) rfl hr.units) (pe_callB (call_reprX (K := K) (mg := mg) rfl hg hr.units) (by rfl) T.b_repr (by decide +kernel) (pa_cons (Dw.pe_call0 k__law_named rfl rfl rfl rfl rfl (by exact hg) (hr.mono (by decide)) (by rfl) (pa_cons (pv 3) pa_nil)) pa_nil)) (pe_callB (call_reprX (K := K) (mg := mg) rfl hg hr.units) (by rfl) T.b_repr (by decide +kernel) (pa_cons (pe_op op_rep (pe_lst (pa_cons (pv 3) pa_nil)) pe_int) pa_nil)) (nomark _)))))
  (pss_one (ps_ret pe_bl)) pss_nil)
  (pss_one (ps_if (pt_cmpR (op_neP (K := K) rfl hr.units) (pe_countL (K := K) rfl hr (Dw.pe_call0 k__law_marks rfl rfl rfl rfl rfl (by exact hg) (hr.mono (by decide)) (by rfl) (pa_cons (pe_exc1 PySem.F.excBase_ValueError e_CornerError.q e_CornerError.g e_CornerError.k (by rfl) pe_str) pa_nil)) pe_bl) pe_int (nomark _))
  (pss_one (ps_ret pe_bl)) pss_nil))))))))
  (pss_one (ps_ret pe_bl))), ?_⟩
  refine law_in (k := 5) (T := Ts) (fun p hp => let ⟨c, hc⟩ := hTs p hp; LamX.TabS.nil (tH _ hc)) hS hY hl (fun fr hfr => (ss_seq (ss_for (sf_range1 (sn_cons (SndE.b (sn_op ro_add (SndE.b sn_int) (SndE.b (sn_cb co_min2 (sn_cons (SndE.b sn_lenSc) (sn_cons (SndE.b sn_int) sn_nil)))))) sn_nil)) (sg_name (i := 2))
  (ss_seq (ss_asg (sn_callS0 hfr snr_nil) (sg_name (i := 3)))
  (ss_seq (ss_asg (sn_op ro_add (SndE.b (sn_call0 snr_nil)) (SndE.b (sn_call0 (snr_cons sn_var snr_nil)))) (sg_name (i := 4)))
  (ss_seq (ss_for (sf_seq sn_var) (sg_name (i := 5))
  (ss_if (sn_or (sn_test (sn_op ro_ne (SndE.b (sn_countL (sn_call0 (snr_cons sn_var snr_nil)) sn_bl)) (SndE.b sn_int))) (sn_or (sn_not (sn_tb (sn_isEN hEK (by decide +kernel) (by decide +kernel) e_CornerError.g sn_var))) (sn_not (sn_tb (sn_isVN hEK sn_var)))))
  (ss_ret sn_bl) ss_next))
  (ss_seq (ss_asg ((snn_lc (vs := [5]) (SndF.i (sf_seq sn_var)) (sg_name (i := 5)) (by decide) sn_yes (sn_indexL (sn_call0 (snr_cons sn_var snr_nil)) sn_bl))).e (sg_name (i := 6)))
  (ss_seq (ss_if (sn_or (sn_test (sn_op ro_ne (SndE.b ((snn_cb cn_sortedA (sn_cons (SndE.b sn_var) sn_nil))).e) (SndE.b ((snn_lr1 (SndE.b sn_int))).e))) (sn_test (sn_op ro_ne (SndE.b (sn_reprS hfr (SndE.b (sn_call0 (snr_cons sn_var snr_nil))))) (SndE.b (sn_reprS hfr (SndE.b (sn_op ro_rep (SndE.b ((snn_lst (snr_cons sn_var snr_nil) (by decide))).e) (SndE.b sn_int))))))))
  (ss_ret sn_bl) ss_next)
  (ss_if (sn_test (sn_op ro_ne (SndE.b (sn_countL (sn_call0 (snr_cons (sn_errP e_CornerError.g (SndE.b (sn_str (x := "m") (by decide +kernel)))) snr_nil)) sn_bl)) (SndE.b sn_int)))
  (ss_ret sn_bl) ss_next)))))))
  (ss_ret sn_bl))) (hD ns.length hl)
end
end Dw
set_option Elab.async false
set_option linter.all false
set_option maxRecDepth 100000
set_option maxHeartbeats 4000000
namespace Dw
open PySem PySem.Spec PyProof.Rows L2 Cn LamX
local macro_rules | `(tactic| walk_at "len") => `(tactic| (simp only [List.length_append, List.length_map, List.length_cons, List.length_nil, List.length_reverse]; omega))
local macro_rules | `(tactic| walk_at "dw") => `(tactic| simp only [e_var, e_varB, e_c, e_op, e_un, e_isB, e_test, e_not, e_and, e_or, e_yes, e_notV, e_andV, e_orV, e_if, e_chain, e_nil, e_cons, e_cb, e_tup, e_lst, e_d0, e_lc, e_dget, e_dget1, e_dget2, e_isi, e_isi2, e_m0, e_call, e_call0, e_callS, e_callS0, e_draw, e_sl, e_noPart, e_part, e_join, e_sortIt, e_upper, e_sset, e_lset, e_errP, e_errJ, e_isE, e_fld, e_err, e_kw, e_noOw0, e_noOwO, e_noOwS, e_noOwT, e_noOwC, e_noOwN, e_wpNil, e_wpCons, e_disp, e_disp1, e_inS, e_notInS, e_lenSc, e_iSeq, e_iR1, e_iR2, e_iEnum, e_iEnumA, e_iZip, e_gName, e_gNil, e_gCons, e_gTup1, e_gLst1, e_gTup2, e_gLst2, e_gTup3, e_gLst3, e_gTup4, e_gLst4, e_gTup5, e_gLst5, e_next, e_ret, e_retN, e_ifS, e_drop, e_break, e_cont, e_asg, e_asgN, e_frz, e_mNil, e_mSh, e_mOw, e_parM2, e_parE2, e_parM3, e_parE3, e_parM4, e_parE4, e_append, e_for, e_dput, e_setL, e_raiseP, e_raiseF, e_br1, e_br0, e_addI, e_subI, e_addS, e_addL, e_addT, e_mulI, e_modI, e_fdivI, e_powI, e_revL, e_revT, e_negI, e_ltI, e_ltS, e_leI, e_leS, e_gtI, e_gtS, e_geI, e_geS, e_isN, e_notN, e_lenS, e_lenL, e_lenT, e_max2, e_min2, e_tupL, e_tupT, e_lstL, e_lstT, e_slS, e_slL, e_slT, e_int1I, e_absI, e_seqL, e_seqT, e_seqS, e_rng1, e_rng2, e_enumL, e_enumAL, e_enumAT, e_zipL, e_none1, e_none2, e_none3, e_none4, e_none5, e_none6, e_none7, e_keyS, e_keyI, e_at0, e_put0, e_at1, e_put1, e_at2, e_put2, e_at3, e_put3, e_at4, e_put4, e_at5, e_put5, e_at6, e_put6, e_at7, e_put7, e_at8, e_put8, e_at9, e_put9, e_at10, e_put10, e_at11, e_put11, e_at12, e_put12, e_at13, e_put13, e_at14, e_put14, e_at15, e_put15, e_at16, e_put16, e_at17, e_put17, e_at18, e_put18, e_at19, e_put19, e_at20, e_put20, e_at21, e_put21, e_at22, e_put22, e_at23, e_put23, e_at24, e_put24, e_at25, e_put25, e_at26, e_put26, e_at27, e_put27, e_at28, e_put28, e_at29, e_put29, e_wipe0, e_wipe1, e_isi_int_none, e_isi_int_bool, e_isi_int_int, e_isi_int_str, e_isi_int_list, e_isi_int_tuple, e_isi_int_dict, e_isi_bool_none, e_isi_bool_bool, e_isi_bool_int, e_isi_bool_str, e_isi_bool_list, e_isi_bool_tuple, e_isi_bool_dict, e_isi_str_none, e_isi_str_bool, e_isi_str_int, e_isi_str_str, e_isi_str_list, e_isi_str_tuple, e_isi_str_dict, e_isi_list_none, e_isi_list_bool, e_isi_list_int, e_isi_list_str, e_isi_list_list, e_isi_list_tuple, e_isi_list_dict, e_isi_tuple_none, e_isi_tuple_bool, e_isi_tuple_int, e_isi_tuple_str, e_isi_tuple_list, e_isi_tuple_tuple, e_isi_tuple_dict, e_isi_dict_none, e_isi_dict_bool, e_isi_dict_int, e_isi_dict_str, e_isi_dict_list, e_isi_dict_tuple, e_isi_dict_dict, Bool.not_true, Bool.not_false, Bool.or_true, Bool.or_false, Bool.true_or, Bool.false_or, e_attr, e_mth, e_subO, e_new, e_isO, e_quiet, e_jtail, e_jseq, e_fseq, e_fset, e_shO0, e_shOs, e_shOo, e_shOm, e_shOn, e_on, e_newT, e_retO, e_sortedAL, e_sortedAT, e_isO_none, e_eqOK_none, e_isO_bool, e_eqOK_bool, e_isO_int, e_eqOK_int, e_isO_str, e_eqOK_str, e_isO_list, e_eqOK_list, e_isO_tuple, e_eqOK_tuple, e_isO_dict, e_eqOK_dict, e_eqOK_obj, e_bestK, e_isB1, e_isB2, e_andO, e_mthK, e_anyO, e_anyN, e_dnO, e_dnN, e_isEN, e_lc2, e_tru, e_iOwn, e_appP, e_star, e_starL, e_starT, e_tupV, e_lstV, e_inTx, e_inTxS, e_ixTx, e_iTx, e_extD, e_addN, e_zipLD, e_listZip, e_retF, e_told, e_eqTD, e_isLT, e_lend, e_orN, e_dcN, e_lvN, e_lvC, e_emW, e_inT, e_lr1, e_lr1D, e_slLD, e_neED, e_tr3, e_tr3D, e_itm, e_lcI, e_dcI, e_kp0, e_kpN, e_kpT, e_kpF, e_okT, e_okF, e_okN, e_ok0, e_okS, e_okU, e_okSt, e_reprS, e_errJK, e_errJK1])
local macro_rules | `(tactic| walk_at "dx") => `(tactic| simp only [e_var, e_varB, e_c, e_op, e_un, e_isB, e_test, e_not, e_and, e_or, e_yes, e_notV, e_andV, e_orV, e_if, e_chain, e_nil, e_cons, e_cb, e_tup, e_lst, e_d0, e_lc, e_dget, e_dget1, e_dget2, e_isi, e_isi2, e_m0, e_call, e_call0, e_callS, e_callS0, e_draw, e_sl, e_noPart, e_part, e_join, e_sortIt, e_upper, e_sset, e_lset, e_errP, e_errJ, e_isE, e_fld, e_err, e_kw, e_noOw0, e_noOwO, e_noOwS, e_noOwT, e_noOwC, e_noOwN, e_wpNil, e_wpCons, e_disp, e_disp1, e_inS, e_notInS, e_lenSc, e_iSeq, e_iR1, e_iR2, e_iEnum, e_iEnumA, e_iZip, e_gName, e_gNil, e_gCons, e_gTup1, e_gLst1, e_gTup2, e_gLst2, e_gTup3, e_gLst3, e_gTup4, e_gLst4, e_gTup5, e_gLst5, e_next, e_ret, e_retN, e_ifS, e_drop, e_break, e_cont, e_asg, e_asgN, e_frz, e_mNil, e_mSh, e_mOw, e_parM2, e_parE2, e_parM3, e_parE3, e_parM4, e_parE4, e_append, e_for, e_dput, e_setL, e_raiseP, e_raiseF, e_br1, e_br0, e_addI, e_subI, e_addS, e_addL, e_addT, e_mulI, e_modI, e_fdivI, e_powI, e_revL, e_revT, e_negI, e_ltI, e_ltS, e_leI, e_leS, e_gtI, e_gtS, e_geI, e_geS, e_isN, e_notN, e_lenS, e_lenL, e_lenT, e_max2, e_min2, e_tupL, e_tupT, e_lstL, e_lstT, e_slS, e_slL, e_slT, e_int1I, e_absI, e_seqL, e_seqT, e_seqS, e_rng1, e_rng2, e_enumL, e_enumAL, e_enumAT, e_zipL, e_none1, e_none2, e_none3, e_none4, e_none5, e_none6, e_none7, e_keyS, e_keyI, e_at0, e_put0, e_at1, e_put1, e_at2, e_put2, e_at3, e_put3, e_at4, e_put4, e_at5, e_put5, e_at6, e_put6, e_at7, e_put7, e_at8, e_put8, e_at9, e_put9, e_at10, e_put10, e_at11, e_put11, e_at12, e_put12, e_at13, e_put13, e_at14, e_put14, e_at15, e_put15, e_at16, e_put16, e_at17, e_put17, e_at18, e_put18, e_at19, e_put19, e_at20, e_put20, e_at21, e_put21, e_at22, e_put22, e_at23, e_put23, e_at24, e_put24, e_at25, e_put25, e_at26, e_put26, e_at27, e_put27, e_at28, e_put28, e_at29, e_put29, e_wipe0, e_wipe1, e_isi_int_none, e_isi_int_bool, e_isi_int_int, e_isi_int_str, e_isi_int_list, e_isi_int_tuple, e_isi_int_dict, e_isi_bool_none, e_isi_bool_bool, e_isi_bool_int, e_isi_bool_str, e_isi_bool_list, e_isi_bool_tuple, e_isi_bool_dict, e_isi_str_none, e_isi_str_bool, e_isi_str_int, e_isi_str_str, e_isi_str_list, e_isi_str_tuple, e_isi_str_dict, e_isi_list_none, e_isi_list_bool, e_isi_list_int, e_isi_list_str, e_isi_list_list, e_isi_list_tuple, e_isi_list_dict, e_isi_tuple_none, e_isi_tuple_bool, e_isi_tuple_int, e_isi_tuple_str, e_isi_tuple_list, e_isi_tuple_tuple, e_isi_tuple_dict, e_isi_dict_none, e_isi_dict_bool, e_isi_dict_int, e_isi_dict_str, e_isi_dict_list, e_isi_dict_tuple, e_isi_dict_dict, Bool.not_true, Bool.not_false, Bool.or_true, Bool.or_false, Bool.true_or, Bool.false_or, e_attr, e_mth, e_subO, e_new, e_isO, e_quiet, e_jtail, e_jseq, e_fseq, e_fset, e_shO0, e_shOs, e_shOo, e_shOm, e_shOn, e_on, e_newT, e_retO, e_sortedAL, e_sortedAT, e_isO_none, e_eqOK_none, e_isO_bool, e_eqOK_bool, e_isO_int, e_eqOK_int, e_isO_str, e_eqOK_str, e_isO_list, e_eqOK_list, e_isO_tuple, e_eqOK_tuple, e_isO_dict, e_eqOK_dict, e_eqOK_obj, e_bestK, e_isB1, e_isB2, e_andO, e_mthK, e_anyO, e_anyN, e_dnO, e_dnN, e_isEN, e_lc2, e_tru, e_iOwn, e_appP, e_star, e_starL, e_starT, e_tupV, e_lstV, e_inTx, e_inTxS, e_ixTx, e_iTx, e_extD, e_addN, e_zipLD, e_listZip, e_retF, e_told, e_eqTD, e_isLT, e_lend, e_orN, e_dcN, e_lvN, e_lvC, e_emW, e_inT, e_lr1, e_lr1D, e_slLD, e_neED, e_tr3, e_tr3D, e_itm, e_lcI, e_dcI, e_kp0, e_kpN, e_kpT, e_kpF, e_okT, e_okF, e_okN, e_ok0, e_okS, e_okU, e_okSt, e_reprS, e_errJK, e_errJK1, e_ixT10, e_ixL10, e_ixT20, e_ixL20, e_ixT21, e_ixL21, e_ixT30, e_ixL30, e_ixT31, e_ixL31, e_ixT32, e_ixL32, e_isN1, e_isN2, e_isN0])
/-- the classes, in the order in which they are asked -/
abbrev mk37 : List Str := [("BadPlan" : Str), ("BadPlans" : Str), ("BadNumber" : Str), ("BadSide" : Str), ("BadRule" : Str), ("BadRules" : Str), ("BadBook" : Str), ("BadThing" : Str), ("NoPlans" : Str), ("NoRule" : Str), ("BadLot" : Str), ("BadLimit" : Str), ("BadStretch" : Str), ("BadBox" : Str), ("BadRow" : Str), ("BadRows" : Str), ("BadPrices" : Str), ("NoRow" : Str), ("BadWords" : Str), ("BadFare" : Str), ("BadOffer" : Str), ("BadCell" : Str), ("BadForecast" : Str), ("BadStrategy" : Str), ("BadReceipts" : Str), ("TooMany" : Str), ("OtherThings" : Str), ("NotNow" : Str), ("NothingDone" : Str), ("BadHouse" : Str), ("BadJournal" : Str), ("BadText" : Str), ("BadMarks" : Str), ("NoRounds" : Str), ("NoTurns" : Str), ("BadTurns" : Str), ("NotSo" : Str)]
/-- the classes, in the order in which the errors are made -/
abbrev nm37 : List Str := [("BadPlan" : Str), ("BadNumber" : Str), ("BadSide" : Str), ("BadRule" : Str), ("NoPlans" : Str), ("BadLot" : Str), ("BadLimit" : Str), ("BadStretch" : Str), ("BadWords" : Str), ("BadCell" : Str), ("BadStrategy" : Str), ("OtherThings" : Str), ("NothingDone" : Str), ("BadHouse" : Str), ("NotSo" : Str), ("NoRounds" : Str), ("NoTurns" : Str), ("BadPlans" : Str), ("BadRules" : Str), ("BadBook" : Str), ("BadThing" : Str), ("NoRule" : Str), ("BadBox" : Str), ("BadRow" : Str), ("BadRows" : Str), ("BadPrices" : Str), ("NoRow" : Str), ("BadFare" : Str), ("BadOffer" : Str), ("BadForecast" : Str), ("BadReceipts" : Str), ("TooMany" : Str), ("NotNow" : Str), ("BadJournal" : Str), ("BadText" : Str), ("BadMarks" : Str), ("BadTurns" : Str)]
/-- the errors, with what they hold -/
abbrev all37 (d : Dt) : List (Str × List (Str × Dt)) := [(("BadPlan" : Str), ([] : List (Str × Dt))), (("BadNumber" : Str), ([] : List (Str × Dt))), (("BadSide" : Str), ([] : List (Str × Dt))), (("BadRule" : Str), ([] : List (Str × Dt))), (("NoPlans" : Str), ([] : List (Str × Dt))), (("BadLot" : Str), ([] : List (Str × Dt))), (("BadLimit" : Str), ([] : List (Str × Dt))), (("BadStretch" : Str), ([] : List (Str × Dt))), (("BadWords" : Str), ([] : List (Str × Dt))), (("BadCell" : Str), ([] : List (Str × Dt))), (("BadStrategy" : Str), ([] : List (Str × Dt))), (("OtherThings" : Str), ([] : List (Str × Dt))), (("NothingDone" : Str), ([] : List (Str × Dt))), (("BadHouse" : Str), ([] : List (Str × Dt))), (("NotSo" : Str), ([] : List (Str × Dt))), (("NoRounds" : Str), ([] : List (Str × Dt))), (("NoTurns" : Str), ([] : List (Str × Dt))), (("BadPlans" : Str), [(("at" : Str), d)]), (("BadRules" : Str), [(("at" : Str), d)]), (("BadBook" : Str), [(("part" : Str), d)]), (("BadThing" : Str), [(("thing" : Str), d)]), (("NoRule" : Str), [(("at" : Str), d)]), (("BadBox" : Str), [(("part" : Str), d)]), (("BadRow" : Str), [(("part" : Str), d)]), (("BadRows" : Str), [(("at" : Str), d)]), (("BadPrices" : Str), [(("part" : Str), d)]), (("NoRow" : Str), [(("at" : Str), d)]), (("BadFare" : Str), [(("part" : Str), d)]), (("BadOffer" : Str), [(("part" : Str), d)]), (("BadForecast" : Str), [(("part" : Str), d)]), (("BadReceipts" : Str), [(("at" : Str), d)]), (("TooMany" : Str), [(("most" : Str), d)]), (("NotNow" : Str), [(("word" : Str), d)]), (("BadJournal" : Str), [(("at" : Str), d)]), (("BadText" : Str), [(("line" : Str), d)]), (("BadMarks" : Str), [(("at" : Str), d)]), (("BadTurns" : Str), [(("part" : Str), d)])]
abbrev errT (p : Str × List (Str × Dt)) : Dt := .err p.1 p.2
abbrev errsP : List Dt := [.err "BadPlan" [], .err "BadNumber" [], .err "BadSide" [], .err "BadRule" [], .err "NoPlans" [], .err "BadLot" [], .err "BadLimit" [], .err "BadStretch" [], .err "BadWords" [], .err "BadCell" [], .err "BadStrategy" [], .err "OtherThings" [], .err "NothingDone" [], .err "BadHouse" [], .err "NotSo" [], .err "NoRounds" [], .err "NoTurns" []]
abbrev errsT (d : Dt) : List Dt := [.err "BadPlans" [("at", d)], .err "BadRules" [("at", d)], .err "BadBook" [("part", d)], .err "BadThing" [("thing", d)], .err "NoRule" [("at", d)], .err "BadBox" [("part", d)], .err "BadRow" [("part", d)], .err "BadRows" [("at", d)], .err "BadPrices" [("part", d)], .err "NoRow" [("at", d)], .err "BadFare" [("part", d)], .err "BadOffer" [("part", d)], .err "BadForecast" [("part", d)], .err "BadReceipts" [("at", d)], .err "TooMany" [("most", d)], .err "NotNow" [("word", d)], .err "BadJournal" [("at", d)], .err "BadText" [("line", d)], .err "BadMarks" [("at", d)], .err "BadTurns" [("part", d)]]
theorem errs_all (d : Dt) : errsP ++ errsT d = (all37 d).map errT := rfl
theorem w_plain {q qx} (h : q (.list errsP)) : W__law_plain [] q qx := by
  rw [u__law_plain]
  unfold B__law_plain
  repeat (refine seq_mk fun N hN => ?_; walk_at "dw"; first | refine hN _ _ ?_ | refine And.intro (by decide) (hN _ _ ?_); clear hN)
  walk_at "dw"
  exact And.intro (by decide) h
theorem w_told {d : Dt} {q qx} (h : q (.list (errsT d))) : W__law_told [d] q qx := by
  rw [u__law_told]
  unfold B__law_told
  repeat (refine seq_mk fun N hN => ?_; walk_at "dw"; first | refine hN _ _ ?_ | refine And.intro (by simp only [List.length_append, List.length_cons, List.length_nil] <;> omega) (hN _ _ ?_); clear hN)
  walk_at "dw"
  exact h
theorem sub_e {x t : Str} (hx : EOWN.contains x = true) (ht : (EOWN.contains t && !(t == ("ValueError" : Str)) && !(t == ("CornerError" : Str))) = true) : subE x t = some (t == x) := by
  simp only [Bool.and_eq_true, Bool.not_eq_true'] at ht
  obtain ⟨⟨h1, h2⟩, h3⟩ := ht
  have hx : ([("CornerError" : Str), ("BadPlan" : Str), ("BadPlans" : Str), ("BadNumber" : Str), ("BadSide" : Str), ("BadRule" : Str), ("BadRules" : Str), ("BadBook" : Str), ("BadThing" : Str), ("NoPlans" : Str), ("NoRule" : Str), ("BadLot" : Str), ("BadLimit" : Str), ("BadStretch" : Str), ("BadBox" : Str), ("BadRow" : Str), ("BadRows" : Str), ("BadPrices" : Str), ("NoRow" : Str), ("BadWords" : Str), ("BadFare" : Str), ("BadOffer" : Str), ("BadCell" : Str), ("BadForecast" : Str), ("BadStrategy" : Str), ("BadReceipts" : Str), ("TooMany" : Str), ("OtherThings" : Str), ("NotNow" : Str), ("NothingDone" : Str), ("BadHouse" : Str), ("BadJournal" : Str), ("BadText" : Str), ("BadMarks" : Str), ("NotSo" : Str), ("NoRounds" : Str), ("NoTurns" : Str), ("BadTurns" : Str)] : List Str).contains x = true := hx
  have h1 : ([("CornerError" : Str), ("BadPlan" : Str), ("BadPlans" : Str), ("BadNumber" : Str), ("BadSide" : Str), ("BadRule" : Str), ("BadRules" : Str), ("BadBook" : Str), ("BadThing" : Str), ("NoPlans" : Str), ("NoRule" : Str), ("BadLot" : Str), ("BadLimit" : Str), ("BadStretch" : Str), ("BadBox" : Str), ("BadRow" : Str), ("BadRows" : Str), ("BadPrices" : Str), ("NoRow" : Str), ("BadWords" : Str), ("BadFare" : Str), ("BadOffer" : Str), ("BadCell" : Str), ("BadForecast" : Str), ("BadStrategy" : Str), ("BadReceipts" : Str), ("TooMany" : Str), ("OtherThings" : Str), ("NotNow" : Str), ("NothingDone" : Str), ("BadHouse" : Str), ("BadJournal" : Str), ("BadText" : Str), ("BadMarks" : Str), ("NotSo" : Str), ("NoRounds" : Str), ("NoTurns" : Str), ("BadTurns" : Str)] : List Str).contains t = true := h1
  unfold subE subF
  rw [hx, h2, Bool.and_false]
  dsimp only
  rw [if_pos h1, h3, Bool.or_false]
theorem sub_c {x : Str} (hx : EOWN.contains x = true) : subE x "CornerError" = some true := by
  have hx : ([("CornerError" : Str), ("BadPlan" : Str), ("BadPlans" : Str), ("BadNumber" : Str), ("BadSide" : Str), ("BadRule" : Str), ("BadRules" : Str), ("BadBook" : Str), ("BadThing" : Str), ("NoPlans" : Str), ("NoRule" : Str), ("BadLot" : Str), ("BadLimit" : Str), ("BadStretch" : Str), ("BadBox" : Str), ("BadRow" : Str), ("BadRows" : Str), ("BadPrices" : Str), ("NoRow" : Str), ("BadWords" : Str), ("BadFare" : Str), ("BadOffer" : Str), ("BadCell" : Str), ("BadForecast" : Str), ("BadStrategy" : Str), ("BadReceipts" : Str), ("TooMany" : Str), ("OtherThings" : Str), ("NotNow" : Str), ("NothingDone" : Str), ("BadHouse" : Str), ("BadJournal" : Str), ("BadText" : Str), ("BadMarks" : Str), ("NotSo" : Str), ("NoRounds" : Str), ("NoTurns" : Str), ("BadTurns" : Str)] : List Str).contains x = true := hx
  unfold subE subF
  rw [hx, show (((("CornerError" : Str) :: [("CornerError" : Str), ("BadPlan" : Str), ("BadPlans" : Str), ("BadNumber" : Str), ("BadSide" : Str), ("BadRule" : Str), ("BadRules" : Str), ("BadBook" : Str), ("BadThing" : Str), ("NoPlans" : Str), ("NoRule" : Str), ("BadLot" : Str), ("BadLimit" : Str), ("BadStretch" : Str), ("BadBox" : Str), ("BadRow" : Str), ("BadRows" : Str), ("BadPrices" : Str), ("NoRow" : Str), ("BadWords" : Str), ("BadFare" : Str), ("BadOffer" : Str), ("BadCell" : Str), ("BadForecast" : Str), ("BadStrategy" : Str), ("BadReceipts" : Str), ("TooMany" : Str), ("OtherThings" : Str), ("NotNow" : Str), ("NothingDone" : Str), ("BadHouse" : Str), ("BadJournal" : Str), ("BadText" : Str), ("BadMarks" : Str), ("NotSo" : Str), ("NoRounds" : Str), ("NoTurns" : Str), ("BadTurns" : Str)]).contains ("ValueError" : Str)) && (("CornerError" : Str) == ("ValueError" : Str))) = false by decide +kernel]
  dsimp only
  rw [if_pos (by decide +kernel), show (("CornerError" : Str) == ("CornerError" : Str)) = true by decide +kernel, Bool.or_true]
theorem sub_v {x : Str} (hx : EOWN.contains x = true) : subE x "ValueError" = some true := by
  have hx : ([("CornerError" : Str), ("BadPlan" : Str), ("BadPlans" : Str), ("BadNumber" : Str), ("BadSide" : Str), ("BadRule" : Str), ("BadRules" : Str), ("BadBook" : Str), ("BadThing" : Str), ("NoPlans" : Str), ("NoRule" : Str), ("BadLot" : Str), ("BadLimit" : Str), ("BadStretch" : Str), ("BadBox" : Str), ("BadRow" : Str), ("BadRows" : Str), ("BadPrices" : Str), ("NoRow" : Str), ("BadWords" : Str), ("BadFare" : Str), ("BadOffer" : Str), ("BadCell" : Str), ("BadForecast" : Str), ("BadStrategy" : Str), ("BadReceipts" : Str), ("TooMany" : Str), ("OtherThings" : Str), ("NotNow" : Str), ("NothingDone" : Str), ("BadHouse" : Str), ("BadJournal" : Str), ("BadText" : Str), ("BadMarks" : Str), ("NotSo" : Str), ("NoRounds" : Str), ("NoTurns" : Str), ("BadTurns" : Str)] : List Str).contains x = true := hx
  unfold subE subF
  rw [hx, show (((("ValueError" : Str) :: [("CornerError" : Str), ("BadPlan" : Str), ("BadPlans" : Str), ("BadNumber" : Str), ("BadSide" : Str), ("BadRule" : Str), ("BadRules" : Str), ("BadBook" : Str), ("BadThing" : Str), ("NoPlans" : Str), ("NoRule" : Str), ("BadLot" : Str), ("BadLimit" : Str), ("BadStretch" : Str), ("BadBox" : Str), ("BadRow" : Str), ("BadRows" : Str), ("BadPrices" : Str), ("NoRow" : Str), ("BadWords" : Str), ("BadFare" : Str), ("BadOffer" : Str), ("BadCell" : Str), ("BadForecast" : Str), ("BadStrategy" : Str), ("BadReceipts" : Str), ("TooMany" : Str), ("OtherThings" : Str), ("NotNow" : Str), ("NothingDone" : Str), ("BadHouse" : Str), ("BadJournal" : Str), ("BadText" : Str), ("BadMarks" : Str), ("NotSo" : Str), ("NoRounds" : Str), ("NoTurns" : Str), ("BadTurns" : Str)]).contains ("ValueError" : Str)) && (("ValueError" : Str) == ("ValueError" : Str))) = true by decide +kernel]
/-- of which classes it is -/
def flagsOf (x : Str) : List Bool := mk37.map fun t => t == x
theorem w_marks {x : Str} {fs : List (Str × Dt)} {q qx} (hx : EOWN.contains x = true) (h : q (.list ((flagsOf x).map .bool))) : W__law_marks [.err x fs] q qx := by
  have e0 := sub_e (t := "BadPlan") hx (by decide +kernel)
  have e1 := sub_e (t := "BadPlans") hx (by decide +kernel)
  have e2 := sub_e (t := "BadNumber") hx (by decide +kernel)
  have e3 := sub_e (t := "BadSide") hx (by decide +kernel)
  have e4 := sub_e (t := "BadRule") hx (by decide +kernel)
  have e5 := sub_e (t := "BadRules") hx (by decide +kernel)
  have e6 := sub_e (t := "BadBook") hx (by decide +kernel)
  have e7 := sub_e (t := "BadThing") hx (by decide +kernel)
  have e8 := sub_e (t := "NoPlans") hx (by decide +kernel)
  have e9 := sub_e (t := "NoRule") hx (by decide +kernel)
  have e10 := sub_e (t := "BadLot") hx (by decide +kernel)
  have e11 := sub_e (t := "BadLimit") hx (by decide +kernel)
  have e12 := sub_e (t := "BadStretch") hx (by decide +kernel)
  have e13 := sub_e (t := "BadBox") hx (by decide +kernel)
  have e14 := sub_e (t := "BadRow") hx (by decide +kernel)
  have e15 := sub_e (t := "BadRows") hx (by decide +kernel)
  have e16 := sub_e (t := "BadPrices") hx (by decide +kernel)
  have e17 := sub_e (t := "NoRow") hx (by decide +kernel)
  have e18 := sub_e (t := "BadWords") hx (by decide +kernel)
  have e19 := sub_e (t := "BadFare") hx (by decide +kernel)
  have e20 := sub_e (t := "BadOffer") hx (by decide +kernel)
  have e21 := sub_e (t := "BadCell") hx (by decide +kernel)
  have e22 := sub_e (t := "BadForecast") hx (by decide +kernel)
  have e23 := sub_e (t := "BadStrategy") hx (by decide +kernel)
  have e24 := sub_e (t := "BadReceipts") hx (by decide +kernel)
  have e25 := sub_e (t := "TooMany") hx (by decide +kernel)
  have e26 := sub_e (t := "OtherThings") hx (by decide +kernel)
  have e27 := sub_e (t := "NotNow") hx (by decide +kernel)
  have e28 := sub_e (t := "NothingDone") hx (by decide +kernel)
  have e29 := sub_e (t := "BadHouse") hx (by decide +kernel)
  have e30 := sub_e (t := "BadJournal") hx (by decide +kernel)
  have e31 := sub_e (t := "BadText") hx (by decide +kernel)
  have e32 := sub_e (t := "BadMarks") hx (by decide +kernel)
  have e33 := sub_e (t := "NoRounds") hx (by decide +kernel)
  have e34 := sub_e (t := "NoTurns") hx (by decide +kernel)
  have e35 := sub_e (t := "BadTurns") hx (by decide +kernel)
  have e36 := sub_e (t := "NotSo") hx (by decide +kernel)
  rw [u__law_marks]
  unfold B__law_marks
  repeat (refine seq_mk fun N hN => ?_; simp only [e_var, e_varB, e_c, e_op, e_un, e_isB, e_test, e_not, e_and, e_or, e_yes, e_notV, e_andV, e_orV, e_if, e_chain, e_nil, e_cons, e_cb, e_tup, e_lst, e_d0, e_lc, e_dget, e_dget1, e_dget2, e_isi, e_isi2, e_m0, e_call, e_call0, e_callS, e_callS0, e_draw, e_sl, e_noPart, e_part, e_join, e_sortIt, e_upper, e_sset, e_lset, e_errP, e_errJ, e_isE, e_fld, e_err, e_kw, e_noOw0, e_noOwO, e_noOwS, e_noOwT, e_noOwC, e_noOwN, e_wpNil, e_wpCons, e_disp, e_disp1, e_inS, e_notInS, e_lenSc, e_iSeq, e_iR1, e_iR2, e_iEnum, e_iEnumA, e_iZip, e_gName, e_gNil, e_gCons, e_gTup1, e_gLst1, e_gTup2, e_gLst2, e_gTup3, e_gLst3, e_gTup4, e_gLst4, e_gTup5, e_gLst5, e_next, e_ret, e_retN, e_ifS, e_drop, e_break, e_cont, e_asg, e_asgN, e_frz, e_mNil, e_mSh, e_mOw, e_parM2, e_parE2, e_parM3, e_parE3, e_parM4, e_parE4, e_append, e_for, e_dput, e_setL, e_raiseP, e_raiseF, e_br1, e_br0, e_addI, e_subI, e_addS, e_addL, e_addT, e_mulI, e_modI, e_fdivI, e_powI, e_revL, e_revT, e_negI, e_ltI, e_ltS, e_leI, e_leS, e_gtI, e_gtS, e_geI, e_geS, e_isN, e_notN, e_lenS, e_lenL, e_lenT, e_max2, e_min2, e_tupL, e_tupT, e_lstL, e_lstT, e_slS, e_slL, e_slT, e_int1I, e_absI, e_seqL, e_seqT, e_seqS, e_rng1, e_rng2, e_enumL, e_enumAL, e_enumAT, e_zipL, e_none1, e_none2, e_none3, e_none4, e_none5, e_none6, e_none7, e_keyS, e_keyI, e_at0, e_put0, e_at1, e_put1, e_at2, e_put2, e_at3, e_put3, e_at4, e_put4, e_at5, e_put5, e_at6, e_put6, e_at7, e_put7, e_at8, e_put8, e_at9, e_put9, e_at10, e_put10, e_at11, e_put11, e_at12, e_put12, e_at13, e_put13, e_at14, e_put14, e_at15, e_put15, e_at16, e_put16, e_at17, e_put17, e_at18, e_put18, e_at19, e_put19, e_at20, e_put20, e_at21, e_put21, e_at22, e_put22, e_at23, e_put23, e_at24, e_put24, e_at25, e_put25, e_at26, e_put26, e_at27, e_put27, e_at28, e_put28, e_at29, e_put29, e_wipe0, e_wipe1, e_isi_int_none, e_isi_int_bool, e_isi_int_int, e_isi_int_str, e_isi_int_list, e_isi_int_tuple, e_isi_int_dict, e_isi_bool_none, e_isi_bool_bool, e_isi_bool_int, e_isi_bool_str, e_isi_bool_list, e_isi_bool_tuple, e_isi_bool_dict, e_isi_str_none, e_isi_str_bool, e_isi_str_int, e_isi_str_str, e_isi_str_list, e_isi_str_tuple, e_isi_str_dict, e_isi_list_none, e_isi_list_bool, e_isi_list_int, e_isi_list_str, e_isi_list_list, e_isi_list_tuple, e_isi_list_dict, e_isi_tuple_none, e_isi_tuple_bool, e_isi_tuple_int, e_isi_tuple_str, e_isi_tuple_list, e_isi_tuple_tuple, e_isi_tuple_dict, e_isi_dict_none, e_isi_dict_bool, e_isi_dict_int, e_isi_dict_str, e_isi_dict_list, e_isi_dict_tuple, e_isi_dict_dict, Bool.not_true, Bool.not_false, Bool.or_true, Bool.or_false, Bool.true_or, Bool.false_or, e_attr, e_mth, e_subO, e_new, e_isO, e_quiet, e_jtail, e_jseq, e_fseq, e_fset, e_shO0, e_shOs, e_shOo, e_shOm, e_shOn, e_on, e_newT, e_retO, e_sortedAL, e_sortedAT, e_isO_none, e_eqOK_none, e_isO_bool, e_eqOK_bool, e_isO_int, e_eqOK_int, e_isO_str, e_eqOK_str, e_isO_list, e_eqOK_list, e_isO_tuple, e_eqOK_tuple, e_isO_dict, e_eqOK_dict, e_eqOK_obj, e_bestK, e_isB1, e_isB2, e_andO, e_mthK, e_anyO, e_anyN, e_dnO, e_dnN, e_isEN, e_lc2, e_tru, e_iOwn, e_appP, e_star, e_starL, e_starT, e_tupV, e_lstV, e_inTx, e_inTxS, e_ixTx, e_iTx, e_extD, e_addN, e_zipLD, e_listZip, e_retF, e_told, e_eqTD, e_isLT, e_lend, e_orN, e_dcN, e_lvN, e_lvC, e_emW, e_inT, e_lr1, e_lr1D, e_slLD, e_neED, e_tr3, e_tr3D, e_itm, e_lcI, e_dcI, e_kp0, e_kpN, e_kpT, e_kpF, e_okT, e_okF, e_okN, e_ok0, e_okS, e_okU, e_okSt, e_reprS, e_errJK, e_errJK1, e0, e1, e2, e3, e4, e5, e6, e7, e8, e9, e10, e11, e12, e13, e14, e15, e16, e17, e18, e19, e20, e21, e22, e23, e24, e25, e26, e27, e28, e29, e30, e31, e32, e33, e34, e35, e36]; first | refine hN _ _ ?_ | refine And.intro (by simp only [List.length_append, List.length_cons, List.length_nil] <;> omega) (hN _ _ ?_); clear hN)
  simp only [e_var, e_varB, e_c, e_op, e_un, e_isB, e_test, e_not, e_and, e_or, e_yes, e_notV, e_andV, e_orV, e_if, e_chain, e_nil, e_cons, e_cb, e_tup, e_lst, e_d0, e_lc, e_dget, e_dget1, e_dget2, e_isi, e_isi2, e_m0, e_call, e_call0, e_callS, e_callS0, e_draw, e_sl, e_noPart, e_part, e_join, e_sortIt, e_upper, e_sset, e_lset, e_errP, e_errJ, e_isE, e_fld, e_err, e_kw, e_noOw0, e_noOwO, e_noOwS, e_noOwT, e_noOwC, e_noOwN, e_wpNil, e_wpCons, e_disp, e_disp1, e_inS, e_notInS, e_lenSc, e_iSeq, e_iR1, e_iR2, e_iEnum, e_iEnumA, e_iZip, e_gName, e_gNil, e_gCons, e_gTup1, e_gLst1, e_gTup2, e_gLst2, e_gTup3, e_gLst3, e_gTup4, e_gLst4, e_gTup5, e_gLst5, e_next, e_ret, e_retN, e_ifS, e_drop, e_break, e_cont, e_asg, e_asgN, e_frz, e_mNil, e_mSh, e_mOw, e_parM2, e_parE2, e_parM3, e_parE3, e_parM4, e_parE4, e_append, e_for, e_dput, e_setL, e_raiseP, e_raiseF, e_br1, e_br0, e_addI, e_subI, e_addS, e_addL, e_addT, e_mulI, e_modI, e_fdivI, e_powI, e_revL, e_revT, e_negI, e_ltI, e_ltS, e_leI, e_leS, e_gtI, e_gtS, e_geI, e_geS, e_isN, e_notN, e_lenS, e_lenL, e_lenT, e_max2, e_min2, e_tupL, e_tupT, e_lstL, e_lstT, e_slS, e_slL, e_slT, e_int1I, e_absI, e_seqL, e_seqT, e_seqS, e_rng1, e_rng2, e_enumL, e_enumAL, e_enumAT, e_zipL, e_none1, e_none2, e_none3, e_none4, e_none5, e_none6, e_none7, e_keyS, e_keyI, e_at0, e_put0, e_at1, e_put1, e_at2, e_put2, e_at3, e_put3, e_at4, e_put4, e_at5, e_put5, e_at6, e_put6, e_at7, e_put7, e_at8, e_put8, e_at9, e_put9, e_at10, e_put10, e_at11, e_put11, e_at12, e_put12, e_at13, e_put13, e_at14, e_put14, e_at15, e_put15, e_at16, e_put16, e_at17, e_put17, e_at18, e_put18, e_at19, e_put19, e_at20, e_put20, e_at21, e_put21, e_at22, e_put22, e_at23, e_put23, e_at24, e_put24, e_at25, e_put25, e_at26, e_put26, e_at27, e_put27, e_at28, e_put28, e_at29, e_put29, e_wipe0, e_wipe1, e_isi_int_none, e_isi_int_bool, e_isi_int_int, e_isi_int_str, e_isi_int_list, e_isi_int_tuple, e_isi_int_dict, e_isi_bool_none, e_isi_bool_bool, e_isi_bool_int, e_isi_bool_str, e_isi_bool_list, e_isi_bool_tuple, e_isi_bool_dict, e_isi_str_none, e_isi_str_bool, e_isi_str_int, e_isi_str_str, e_isi_str_list, e_isi_str_tuple, e_isi_str_dict, e_isi_list_none, e_isi_list_bool, e_isi_list_int, e_isi_list_str, e_isi_list_list, e_isi_list_tuple, e_isi_list_dict, e_isi_tuple_none, e_isi_tuple_bool, e_isi_tuple_int, e_isi_tuple_str, e_isi_tuple_list, e_isi_tuple_tuple, e_isi_tuple_dict, e_isi_dict_none, e_isi_dict_bool, e_isi_dict_int, e_isi_dict_str, e_isi_dict_list, e_isi_dict_tuple, e_isi_dict_dict, Bool.not_true, Bool.not_false, Bool.or_true, Bool.or_false, Bool.true_or, Bool.false_or, e_attr, e_mth, e_subO, e_new, e_isO, e_quiet, e_jtail, e_jseq, e_fseq, e_fset, e_shO0, e_shOs, e_shOo, e_shOm, e_shOn, e_on, e_newT, e_retO, e_sortedAL, e_sortedAT, e_isO_none, e_eqOK_none, e_isO_bool, e_eqOK_bool, e_isO_int, e_eqOK_int, e_isO_str, e_eqOK_str, e_isO_list, e_eqOK_list, e_isO_tuple, e_eqOK_tuple, e_isO_dict, e_eqOK_dict, e_eqOK_obj, e_bestK, e_isB1, e_isB2, e_andO, e_mthK, e_anyO, e_anyN, e_dnO, e_dnN, e_isEN, e_lc2, e_tru, e_iOwn, e_appP, e_star, e_starL, e_starT, e_tupV, e_lstV, e_inTx, e_inTxS, e_ixTx, e_iTx, e_extD, e_addN, e_zipLD, e_listZip, e_retF, e_told, e_eqTD, e_isLT, e_lend, e_orN, e_dcN, e_lvN, e_lvC, e_emW, e_inT, e_lr1, e_lr1D, e_slLD, e_neED, e_tr3, e_tr3D, e_itm, e_lcI, e_dcI, e_kp0, e_kpN, e_kpT, e_kpF, e_okT, e_okF, e_okN, e_ok0, e_okS, e_okU, e_okSt, e_reprS, e_errJK, e_errJK1, e0, e1, e2, e3, e4, e5, e6, e7, e8, e9, e10, e11, e12, e13, e14, e15, e16, e17, e18, e19, e20, e21, e22, e23, e24, e25, e26, e27, e28, e29, e30, e31, e32, e33, e34, e35, e36]
  exact And.intro (by simp only [List.length_append, List.length_cons, List.length_nil] <;> omega) h
theorem w_named {d : Dt} {q qx} (h : q (.list (List.replicate 20 d))) : W__law_named [d] q qx := by
  have f0 : fldE "BadPlans" = some ("at" : Str) := by decide +kernel
  have f1 : fldE "BadRules" = some ("at" : Str) := by decide +kernel
  have f2 : fldE "BadBook" = some ("part" : Str) := by decide +kernel
  have f3 : fldE "BadThing" = some ("thing" : Str) := by decide +kernel
  have f4 : fldE "NoRule" = some ("at" : Str) := by decide +kernel
  have f5 : fldE "BadBox" = some ("part" : Str) := by decide +kernel
  have f6 : fldE "BadRow" = some ("part" : Str) := by decide +kernel
  have f7 : fldE "BadRows" = some ("at" : Str) := by decide +kernel
  have f8 : fldE "BadPrices" = some ("part" : Str) := by decide +kernel
  have f9 : fldE "NoRow" = some ("at" : Str) := by decide +kernel
  have f10 : fldE "BadFare" = some ("part" : Str) := by decide +kernel
  have f11 : fldE "BadOffer" = some ("part" : Str) := by decide +kernel
  have f12 : fldE "BadForecast" = some ("part" : Str) := by decide +kernel
  have f13 : fldE "BadReceipts" = some ("at" : Str) := by decide +kernel
  have f14 : fldE "TooMany" = some ("most" : Str) := by decide +kernel
  have f15 : fldE "NotNow" = some ("word" : Str) := by decide +kernel
  have f16 : fldE "BadJournal" = some ("at" : Str) := by decide +kernel
  have f17 : fldE "BadText" = some ("line" : Str) := by decide +kernel
  have f18 : fldE "BadMarks" = some ("at" : Str) := by decide +kernel
  have f19 : fldE "BadTurns" = some ("part" : Str) := by decide +kernel
  rw [u__law_named]
  unfold B__law_named
  repeat (refine seq_mk fun N hN => ?_; simp only [e_var, e_varB, e_c, e_op, e_un, e_isB, e_test, e_not, e_and, e_or, e_yes, e_notV, e_andV, e_orV, e_if, e_chain, e_nil, e_cons, e_cb, e_tup, e_lst, e_d0, e_lc, e_dget, e_dget1, e_dget2, e_isi, e_isi2, e_m0, e_call, e_call0, e_callS, e_callS0, e_draw, e_sl, e_noPart, e_part, e_join, e_sortIt, e_upper, e_sset, e_lset, e_errP, e_errJ, e_isE, e_fld, e_err, e_kw, e_noOw0, e_noOwO, e_noOwS, e_noOwT, e_noOwC, e_noOwN, e_wpNil, e_wpCons, e_disp, e_disp1, e_inS, e_notInS, e_lenSc, e_iSeq, e_iR1, e_iR2, e_iEnum, e_iEnumA, e_iZip, e_gName, e_gNil, e_gCons, e_gTup1, e_gLst1, e_gTup2, e_gLst2, e_gTup3, e_gLst3, e_gTup4, e_gLst4, e_gTup5, e_gLst5, e_next, e_ret, e_retN, e_ifS, e_drop, e_break, e_cont, e_asg, e_asgN, e_frz, e_mNil, e_mSh, e_mOw, e_parM2, e_parE2, e_parM3, e_parE3, e_parM4, e_parE4, e_append, e_for, e_dput, e_setL, e_raiseP, e_raiseF, e_br1, e_br0, e_addI, e_subI, e_addS, e_addL, e_addT, e_mulI, e_modI, e_fdivI, e_powI, e_revL, e_revT, e_negI, e_ltI, e_ltS, e_leI, e_leS, e_gtI, e_gtS, e_geI, e_geS, e_isN, e_notN, e_lenS, e_lenL, e_lenT, e_max2, e_min2, e_tupL, e_tupT, e_lstL, e_lstT, e_slS, e_slL, e_slT, e_int1I, e_absI, e_seqL, e_seqT, e_seqS, e_rng1, e_rng2, e_enumL, e_enumAL, e_enumAT, e_zipL, e_none1, e_none2, e_none3, e_none4, e_none5, e_none6, e_none7, e_keyS, e_keyI, e_at0, e_put0, e_at1, e_put1, e_at2, e_put2, e_at3, e_put3, e_at4, e_put4, e_at5, e_put5, e_at6, e_put6, e_at7, e_put7, e_at8, e_put8, e_at9, e_put9, e_at10, e_put10, e_at11, e_put11, e_at12, e_put12, e_at13, e_put13, e_at14, e_put14, e_at15, e_put15, e_at16, e_put16, e_at17, e_put17, e_at18, e_put18, e_at19, e_put19, e_at20, e_put20, e_at21, e_put21, e_at22, e_put22, e_at23, e_put23, e_at24, e_put24, e_at25, e_put25, e_at26, e_put26, e_at27, e_put27, e_at28, e_put28, e_at29, e_put29, e_wipe0, e_wipe1, e_isi_int_none, e_isi_int_bool, e_isi_int_int, e_isi_int_str, e_isi_int_list, e_isi_int_tuple, e_isi_int_dict, e_isi_bool_none, e_isi_bool_bool, e_isi_bool_int, e_isi_bool_str, e_isi_bool_list, e_isi_bool_tuple, e_isi_bool_dict, e_isi_str_none, e_isi_str_bool, e_isi_str_int, e_isi_str_str, e_isi_str_list, e_isi_str_tuple, e_isi_str_dict, e_isi_list_none, e_isi_list_bool, e_isi_list_int, e_isi_list_str, e_isi_list_list, e_isi_list_tuple, e_isi_list_dict, e_isi_tuple_none, e_isi_tuple_bool, e_isi_tuple_int, e_isi_tuple_str, e_isi_tuple_list, e_isi_tuple_tuple, e_isi_tuple_dict, e_isi_dict_none, e_isi_dict_bool, e_isi_dict_int, e_isi_dict_str, e_isi_dict_list, e_isi_dict_tuple, e_isi_dict_dict, Bool.not_true, Bool.not_false, Bool.or_true, Bool.or_false, Bool.true_or, Bool.false_or, e_attr, e_mth, e_subO, e_new, e_isO, e_quiet, e_jtail, e_jseq, e_fseq, e_fset, e_shO0, e_shOs, e_shOo, e_shOm, e_shOn, e_on, e_newT, e_retO, e_sortedAL, e_sortedAT, e_isO_none, e_eqOK_none, e_isO_bool, e_eqOK_bool, e_isO_int, e_eqOK_int, e_isO_str, e_eqOK_str, e_isO_list, e_eqOK_list, e_isO_tuple, e_eqOK_tuple, e_isO_dict, e_eqOK_dict, e_eqOK_obj, e_bestK, e_isB1, e_isB2, e_andO, e_mthK, e_anyO, e_anyN, e_dnO, e_dnN, e_isEN, e_lc2, e_tru, e_iOwn, e_appP, e_star, e_starL, e_starT, e_tupV, e_lstV, e_inTx, e_inTxS, e_ixTx, e_iTx, e_extD, e_addN, e_zipLD, e_listZip, e_retF, e_told, e_eqTD, e_isLT, e_lend, e_orN, e_dcN, e_lvN, e_lvC, e_emW, e_inT, e_lr1, e_lr1D, e_slLD, e_neED, e_tr3, e_tr3D, e_itm, e_lcI, e_dcI, e_kp0, e_kpN, e_kpT, e_kpF, e_okT, e_okF, e_okN, e_ok0, e_okS, e_okU, e_okSt, e_reprS, e_errJK, e_errJK1, f0, f1, f2, f3, f4, f5, f6, f7, f8, f9, f10, f11, f12, f13, f14, f15, f16, f17, f18, f19, and_self, true_and]; first | refine hN _ _ ?_ | refine And.intro (by simp only [List.length_append, List.length_cons, List.length_nil] <;> omega) (hN _ _ ?_); clear hN)
  walk_at "dw"
  exact h
theorem names_ok : ∀ x ∈ nm37, EOWN.contains x = true ∧ (flagsOf x).countP (fun z => z) = 1 ∧ (∃ j, (flagsOf x).findIdx? (fun z => z) = some j) ∧ PySem.SeqAt.shaped (.list ((flagsOf x).map PyData.bool)) = true := by
  have h : (nm37.all fun x => EOWN.contains x && decide ((flagsOf x).countP (fun z => z) = 1) && ((flagsOf x).findIdx? (fun z => z)).isSome && PySem.SeqAt.shaped (.list ((flagsOf x).map PyData.bool))) = true := by decide +kernel
  intro x hx
  have := List.all_eq_true.mp h x hx
  simp only [Bool.and_eq_true, decide_eq_true_iff] at this
  obtain ⟨⟨⟨a, b⟩, c⟩, e⟩ := this
  exact ⟨a, b, Option.isSome_iff_exists.mp c, e⟩
theorem corner_ok : EOWN.contains ("CornerError" : Str) = true ∧ (flagsOf "CornerError").countP (fun z => z) = 0 := by decide +kernel
def idxOf (x : Str) : Nat := ((flagsOf x).findIdx? (fun z => z)).getD 0
theorem idxs : (nm37.map idxOf).Perm (List.range 37) := by
  have h : (nm37.map idxOf).isPerm (List.range 37) = true := by decide +kernel
  exact List.isPerm_iff.mp h
/-- shown rightly, twenty times in a list -/
def okSh (d : Dt) : Bool := match (Dt.list (List.replicate 20 d)).pd2 with
  | some e => e.showable && decide (e.depth ≤ 60) && decide (e.shown.length ≤ 100000)
  | Option.none => false
theorem i_reprS {d : Dt} (h : okSh d = true) : ∃ x : Str, ∀ q : Dt → Prop, q (.str x) → reprS (.list (List.replicate 20 d)) q := by
  unfold okSh at h
  split at h
  · rename_i e he
    refine ⟨e.shown, fun q hq => ?_⟩
    unfold reprS
    rw [he]
    simp only [Bool.and_eq_true, decide_eq_true_iff] at h
    exact ⟨⟨h.1.1, h.1.2, h.2⟩, hq⟩
  · cases h
theorem w_pickL {ds : List Dt} {b : Nat} {q qx} (h0 : 0 < ds.length) (hl : ds.length < 1000000) (hb : 1 ≤ b) (h : ∀ d ∈ ds, ∀ b', b ≤ b' + 1 → q d b') : W__law_pick [.list ds] b q qx := by
  rw [u__law_pick]
  unfold B__law_pick
  walk_at "dw"
  refine fun _ => i_draw (by omega) (by omega) hb fun r r0 r1 => ?_
  have hk : r.toNat < ds.length := by omega
  refine i_ixL (d := ds[r.toNat]) ?_ (h _ (List.getElem_mem _) _ (by omega))
  have e := atI_ofNat (List.getElem?_eq_getElem hk)
  rw [Int.toNat_of_nonneg r0] at e
  exact e
theorem w_odd {b : Nat} {q qx} (hb : 1 ≤ b) (h : ∀ d b', okSh d = true → b ≤ b' + 1 → q d b') : W__law_odd [] b q qx := by
  rw [u__law_odd]
  unfold B__law_odd
  refine seq_mk fun N hN => ?_
  walk_at "dw"
  refine hN _ _ ?_
  clear hN
  refine seq_mk fun N hN => ?_
  walk_at "dw"
  refine And.intro (by decide) (hN _ _ ?_)
  clear hN
  walk_at "dw"
  refine And.intro (by decide) ?_
  refine w_pickL (by decide) (by decide) hb fun d hd b' hb' => ?_
  have key : okSh d = true := by
    revert d
    refine List.forall_mem_append.mpr ⟨List.forall_mem_append.mpr ⟨?_, ?_⟩, ?_⟩
    all_goals simp only [List.forall_mem_cons]
    all_goals decide +kernel
  exact h d b' key hb'
section
variable {i : Nat} {ρ : Rho} {b : Nat} {q : QD} {qx : QX} {x : Str} {fs : List (Str × Dt)}
theorem flags_pl (x : Str) : plAll ((flagsOf x).map Dt.bool) = some ((flagsOf x).map PyData.bool) := plAll_map (fun _ => rfl) _
theorem eqv_true : ((fun z => PyData.eqv z (.bool true)) ∘ PyData.bool) = fun z => z := by
  funext z
  show PyData.eqv (.bool z) (.bool true) = z
  unfold PyData.eqv
  cases z <;> rfl
theorem cnt_marks {w : WE} (hw : ∀ k : QD, k (.err x fs) b → w ρ b k qx) (hx : EOWN.contains x = true) (h : q (.int (((flagsOf x).countP fun z => z : Nat) : Int)) b) : wCountL (wCall0 W__law_marks (wCons w wNil)) (wC (.bool true)) ρ b q qx := by
  unfold wCountL
  rw [e_call0, e_cons]
  refine hw _ ?_
  rw [e_nil]
  refine w_marks hx ?_
  dsimp only
  rw [e_c]
  have e2 : Dt.pl (.bool true) = some (.bool true) := rfl
  rw [flags_pl, e2]
  refine ⟨by show PyData.depth (.bool true) ≤ 60; unfold PyData.depth; omega, ?_⟩
  rw [List.countP_map, eqv_true]
  exact h
theorem idx_marks {w : WE} (hw : ∀ k : QD, k (.err x fs) b → w ρ b k qx) (hm : x ∈ nm37) (h : q (.int ((idxOf x : Nat) : Int)) b) : wIndexL (wCall0 W__law_marks (wCons w wNil)) (wC (.bool true)) ρ b q qx := by
  obtain ⟨hx, _, ⟨j, hj⟩, hs⟩ := names_ok x hm
  unfold wIndexL
  rw [e_call0, e_cons]
  refine hw _ ?_
  rw [e_nil]
  refine w_marks hx ?_
  dsimp only
  rw [e_c]
  have e2 : Dt.pl (.bool true) = some (.bool true) := rfl
  rw [flags_pl, e2]
  dsimp only
  rw [List.findIdx?_map, eqv_true, hj]
  have e3 : idxOf x = j := by
    unfold idxOf
    rw [hj]
    rfl
  rw [e3] at h
  exact ⟨⟨hs, by decide +kernel⟩, h⟩
end
theorem le_int {a b : Int} : (leO a b = true) ↔ a ≤ b := by
  unfold leO
  show (!decide (b < a)) = true ↔ a ≤ b
  rw [Bool.not_eq_true', decide_eq_false_iff_not]
  omega
theorem sort_spots : ((nm37.map fun x => ((idxOf x : Nat) : Int)).mergeSort leO) = (List.range 37).map fun (i : Nat) => (i : Int) := by
  have p : ((nm37.map fun x => ((idxOf x : Nat) : Int)).mergeSort leO).Perm ((List.range 37).map fun (i : Nat) => (i : Int)) := by
    refine (List.mergeSort_perm _ _).trans ?_
    have := idxs.map (fun (i : Nat) => (i : Int))
    rw [List.map_map] at this
    exact this
  refine p.eq_of_pairwise (le := fun a b => a ≤ b) (fun a b _ _ h1 h2 => Int.le_antisymm h1 h2) ?_ ?_
  · exact List.Pairwise.imp (fun h => le_int.mp h) (List.pairwise_mergeSort (le := leO) (fun a b c => leO_trans) leO_total _)
  · decide +kernel
theorem natD_map (n : Nat) : natD 0 n = (List.range n).map fun (i : Nat) => Dt.int (i : Int) := List.map_congr_left fun i _ => by rw [Int.zero_add]
theorem law_d : LawD := by
  intro n hn
  unfold B_law
  refine seq_mk fun N hN => ?_
  walk_at "dw"
  refine And.intro (by split <;> omega) ?_
  have hT : (2 + (if (4 : Int) < (n : Int) then (4 : Int) else (n : Int))).toNat ≤ 50 := by split <;> omega
  generalize (2 + (if (4 : Int) < (n : Int) then (4 : Int) else (n : Int))).toNat = T at hT ⊢
  rw [natD_map]
  refine forW_ind (fun (i : Nat) => Dt.int (i : Int)) (fun rest ρ b => 10 * rest.length ≤ b ∧ ∃ s2 s3 s4 s5 s6, ρ = [some (.sc n), some .st, s2, s3, s4, s5, s6])
    (fun ρ b i => ?_) (fun x rest ρ b i N2 hN2 => ?_) ⟨by rw [List.length_range]; omega, _, _, _, _, _, rfl⟩
  · obtain ⟨_, s2, s3, s4, s5, s6, rfl⟩ := i
    refine hN _ _ ?_
    walk_at "dw"
  · obtain ⟨hb, s2, s3, s4, s5, s6, rfl⟩ := i
    rw [List.length_cons] at hb
    walk_at "dw"
    clear hN
    refine seq_mk fun N1 hN => ?_
    walk_at "dw"
    refine w_odd (by omega) fun d b1 hd hb1 => hN _ _ ?_
    clear hN
    refine seq_mk fun N1 hN => ?_
    walk_at "dw"
    refine w_plain ?_
    refine w_told ?_
    walk_at "dw"
    refine And.intro (by simp only [List.length_cons, List.length_nil] <;> omega) (hN _ _ ?_)
    clear hN
    rw [errs_all]
    generalize hal : all37 d = al
    have hnm : al.map (·.1) = nm37 := by rw [← hal]; rfl
    have hmem : ∀ p ∈ al, p.1 ∈ nm37 := fun p hp => by rw [← hnm]; exact List.mem_map.mpr ⟨p, hp, rfl⟩
    clear hal
    refine seq_mk fun N1 hN => ?_
    walk_at "dw"
    refine forW_ind errT (fun rest2 ρ b2 => (∀ p ∈ rest2, p.1 ∈ nm37) ∧ b2 = b1 ∧ ∃ s5, ρ = [some (.sc n), some .st, some (.sh (.int x)), some (.sh d), some (.sh (.list (al.map errT))), s5, s6])
      (fun ρ b2 i => ?_) (fun p rest2 ρ b2 i N3 hN3 => ?_) ⟨hmem, rfl, _, rfl⟩
    · obtain ⟨_, rfl, s5, rfl⟩ := i
      refine hN _ _ ?_
      clear hN
      refine seq_mk fun N1 hN => ?_
      walk_at "dw"
      refine lcW_mapT errT (fun p => Dt.int ((idxOf p.1 : Nat) : Int)) (fun p hp b yes hy => ?_) ?_
      · walk_at "dw"
        refine idx_marks (x := p.1) (fs := p.2) (fun k hk => ?_) (hmem p hp) hy
        rw [e_var]
        exact hk
      have e1 : al.map (fun p => Dt.int ((idxOf p.1 : Nat) : Int)) = (nm37.map fun x => ((idxOf x : Nat) : Int)).map Dt.int := by
        rw [← hnm, List.map_map, List.map_map]
        rfl
      rw [e1]
      refine hN _ _ ?_
      clear hN
      refine seq_keep (fun N1 hN => ?_) ?_
      · walk_at "dw"
        refine i_sortedA (α := Int) (f := Dt.int) (fun a => rfl) (fun a _ => by show PyData.depth (.int a) ≤ 60; unfold PyData.depth; omega) (.inr fun z hz => by
          obtain ⟨a, _, rfl⟩ := List.mem_map.mp hz
          exact And.intro (fun e => nomatch (show PyData.int a = .none from e)) fun xs e => nomatch (show PyData.int a = .tuple xs from e)) ?_
        rw [sort_spots]
        refine And.intro (by decide) ?_
        have e2 : natD 0 (Int.toNat 37) = ((List.range 37).map fun (i : Nat) => (i : Int)).map Dt.int := by
          rw [natD_map, List.map_map]
          rfl
        rw [e2]
        refine i_neE (α := List Int) (a := (List.range 37).map fun (i : Nat) => (i : Int)) (b := (List.range 37).map fun (i : Nat) => (i : Int)) (by decide) ?_
        walk_at "dw"
        refine br_f (by decide) ?_
        refine w_named ?_
        obtain ⟨tx, htx⟩ := i_reprS hd
        refine htx _ ?_
        refine And.intro (by simp only [List.length_cons, List.length_nil] <;> decide) ?_
        show reprS (.list (List.replicate 20 d)) _
        refine htx _ (i_neSs ?_)
        walk_at "dw"
        exact br_f (by decide) hN
      · walk_at "dw"
        obtain ⟨o1, o2⟩ := corner_ok
        refine cnt_marks (x := "CornerError") (fs := []) (fun k hk => by walk_at "dw"; exact hk) o1 ?_
        rw [o2]
        refine i_neI ?_
        walk_at "dw"
        refine br_f (by decide) ?_
        exact hN2 _ _ ⟨by omega, _, _, _, _, _, rfl⟩
    · obtain ⟨hm, rfl, s5, rfl⟩ := i
      have hp := hm p List.mem_cons_self
      obtain ⟨o1, o2, _, _⟩ := names_ok p.1 hp
      have c1 := sub_c o1
      have c2 := sub_v o1
      walk_at "dw"
      refine cnt_marks (x := p.1) (fs := p.2) (fun k hk => by rw [e_var]; exact hk) o1 ?_
      rw [o2]
      refine i_neI ?_
      simp only [e_var, e_varB, e_c, e_op, e_un, e_isB, e_test, e_not, e_and, e_or, e_yes, e_notV, e_andV, e_orV, e_if, e_chain, e_nil, e_cons, e_cb, e_tup, e_lst, e_d0, e_lc, e_dget, e_dget1, e_dget2, e_isi, e_isi2, e_m0, e_call, e_call0, e_callS, e_callS0, e_draw, e_sl, e_noPart, e_part, e_join, e_sortIt, e_upper, e_sset, e_lset, e_errP, e_errJ, e_isE, e_fld, e_err, e_kw, e_noOw0, e_noOwO, e_noOwS, e_noOwT, e_noOwC, e_noOwN, e_wpNil, e_wpCons, e_disp, e_disp1, e_inS, e_notInS, e_lenSc, e_iSeq, e_iR1, e_iR2, e_iEnum, e_iEnumA, e_iZip, e_gName, e_gNil, e_gCons, e_gTup1, e_gLst1, e_gTup2, e_gLst2, e_gTup3, e_gLst3, e_gTup4, e_gLst4, e_gTup5, e_gLst5, e_next, e_ret, e_retN, e_ifS, e_drop, e_break, e_cont, e_asg, e_asgN, e_frz, e_mNil, e_mSh, e_mOw, e_parM2, e_parE2, e_parM3, e_parE3, e_parM4, e_parE4, e_append, e_for, e_dput, e_setL, e_raiseP, e_raiseF, e_br1, e_br0, e_addI, e_subI, e_addS, e_addL, e_addT, e_mulI, e_modI, e_fdivI, e_powI, e_revL, e_revT, e_negI, e_ltI, e_ltS, e_leI, e_leS, e_gtI, e_gtS, e_geI, e_geS, e_isN, e_notN, e_lenS, e_lenL, e_lenT, e_max2, e_min2, e_tupL, e_tupT, e_lstL, e_lstT, e_slS, e_slL, e_slT, e_int1I, e_absI, e_seqL, e_seqT, e_seqS, e_rng1, e_rng2, e_enumL, e_enumAL, e_enumAT, e_zipL, e_none1, e_none2, e_none3, e_none4, e_none5, e_none6, e_none7, e_keyS, e_keyI, e_at0, e_put0, e_at1, e_put1, e_at2, e_put2, e_at3, e_put3, e_at4, e_put4, e_at5, e_put5, e_at6, e_put6, e_at7, e_put7, e_at8, e_put8, e_at9, e_put9, e_at10, e_put10, e_at11, e_put11, e_at12, e_put12, e_at13, e_put13, e_at14, e_put14, e_at15, e_put15, e_at16, e_put16, e_at17, e_put17, e_at18, e_put18, e_at19, e_put19, e_at20, e_put20, e_at21, e_put21, e_at22, e_put22, e_at23, e_put23, e_at24, e_put24, e_at25, e_put25, e_at26, e_put26, e_at27, e_put27, e_at28, e_put28, e_at29, e_put29, e_wipe0, e_wipe1, e_isi_int_none, e_isi_int_bool, e_isi_int_int, e_isi_int_str, e_isi_int_list, e_isi_int_tuple, e_isi_int_dict, e_isi_bool_none, e_isi_bool_bool, e_isi_bool_int, e_isi_bool_str, e_isi_bool_list, e_isi_bool_tuple, e_isi_bool_dict, e_isi_str_none, e_isi_str_bool, e_isi_str_int, e_isi_str_str, e_isi_str_list, e_isi_str_tuple, e_isi_str_dict, e_isi_list_none, e_isi_list_bool, e_isi_list_int, e_isi_list_str, e_isi_list_list, e_isi_list_tuple, e_isi_list_dict, e_isi_tuple_none, e_isi_tuple_bool, e_isi_tuple_int, e_isi_tuple_str, e_isi_tuple_list, e_isi_tuple_tuple, e_isi_tuple_dict, e_isi_dict_none, e_isi_dict_bool, e_isi_dict_int, e_isi_dict_str, e_isi_dict_list, e_isi_dict_tuple, e_isi_dict_dict, Bool.not_true, Bool.not_false, Bool.or_true, Bool.or_false, Bool.true_or, Bool.false_or, e_attr, e_mth, e_subO, e_new, e_isO, e_quiet, e_jtail, e_jseq, e_fseq, e_fset, e_shO0, e_shOs, e_shOo, e_shOm, e_shOn, e_on, e_newT, e_retO, e_sortedAL, e_sortedAT, e_isO_none, e_eqOK_none, e_isO_bool, e_eqOK_bool, e_isO_int, e_eqOK_int, e_isO_str, e_eqOK_str, e_isO_list, e_eqOK_list, e_isO_tuple, e_eqOK_tuple, e_isO_dict, e_eqOK_dict, e_eqOK_obj, e_bestK, e_isB1, e_isB2, e_andO, e_mthK, e_anyO, e_anyN, e_dnO, e_dnN, e_isEN, e_lc2, e_tru, e_iOwn, e_appP, e_star, e_starL, e_starT, e_tupV, e_lstV, e_inTx, e_inTxS, e_ixTx, e_iTx, e_extD, e_addN, e_zipLD, e_listZip, e_retF, e_told, e_eqTD, e_isLT, e_lend, e_orN, e_dcN, e_lvN, e_lvC, e_emW, e_inT, e_lr1, e_lr1D, e_slLD, e_neED, e_tr3, e_tr3D, e_itm, e_lcI, e_dcI, e_kp0, e_kpN, e_kpT, e_kpF, e_okT, e_okF, e_okN, e_ok0, e_okS, e_okU, e_okSt, e_reprS, e_errJK, e_errJK1, c1, c2]
      refine br_f (by decide) ?_
      exact hN3 _ _ ⟨fun z hz => hm z (List.mem_cons_of_mem _ hz), rfl, _, rfl⟩
end Dw
set_option Elab.async false
set_option linter.all false
set_option maxRecDepth 100000
namespace Dw
open PySem PySem.Spec PyProof.Rows L2 Cn LamX
abbrev i_BadThing : Stmt := subS (top 9) 0
theorem kb_BadThing {kV dc pm ct : Value} {an : Option Addr} {cda cc : Addr} : ∀ me u : Value, bindArgs (PySem.W.ksFn "__init__" "BadThing.__init__" (defArgs i_BadThing) (defBody i_BadThing) (defScope i_BadThing) .none kV dc pm an (.ref cda) ct cc) ⟨[me], [("thing", u)]⟩ = pure (((["self", "thing"] : List Str)).zip [me, u]) := fun me u => rfl
theorem exj_BadThing {l : PySem.W.OpenLaw} {w : World} {K : PySem.W.Frag} {mg : Str → Option Value} {C_BadThing : Addr} (gm : mg "BadThing" = some (.ref C_BadThing)) (hx : HXof l.prog.main.file K C_BadThing i_BadThing "BadThing.__init__" "thing")
    (z_thirdparty : PySem.W.nsIn K cStatics "thirdparty.any" = some none) (z_super : PySem.W.nsIn K mainGlobals "super" = some none) (z_top : (l.prog.main.scope.names.lookup ("super" : Str)).isSome = false) : ∀ base, ExJK l.prog w K mg base "BadThing" C_BadThing "thing" := by
  obtain ⟨nm_BadThing, qn_BadThing, N_BadThing, fI_BadThing, cda_BadThing, cc_BadThing, bs_BadThing, bm_BadThing, sn_BadThing, su0_BadThing, ab_BadThing, col_BadThing, dd_BadThing, m0_BadThing, m1_BadThing, m2_BadThing, m3_BadThing, m5_BadThing, oc_BadThing, kV_BadThing, dc_BadThing, pm_BadThing, ct_BadThing, od_BadThing, an_BadThing, osl_BadThing, ccl_BadThing, cdd_BadThing, vs_BadThing, ccs_BadThing, cl_BadThing, cld_BadThing, csl_BadThing, x_BadThing, rv_BadThing, sa_BadThing, s_BadThing, t_BadThing, kk_BadThing, in_BadThing, ti_BadThing, su_BadThing, sv_BadThing, mr_BadThing, lk_BadThing, cd_BadThing, cf_BadThing, ci_BadThing, cc_BadThingh, nf_BadThing⟩ := hx
  have T_BadThing : OexC K C_BadThing := ⟨⟨_, _, _, _, _, _, _, _, _, _, _, _, _, _, _, x_BadThing, rv_BadThing⟩, sa_BadThing, s_BadThing, t_BadThing, kk_BadThing⟩
  have eF : ∀ base, FnOk l.prog w K mg base C8.CX0 1 fI_BadThing (PySem.W.ksFn "__init__" "BadThing.__init__" (defArgs i_BadThing) (defBody i_BadThing) (defScope i_BadThing) .none kV_BadThing dc_BadThing pm_BadThing an_BadThing (.ref cda_BadThing) ct_BadThing cc_BadThing) ["self", "thing"] (spIni C_BadThing "thing") := fun base =>
    ini_ok (k := 0) (q := "BadThing.__init__") rfl rfl (⟨T_BadThing, su_BadThing, sv_BadThing, mr_BadThing, z_thirdparty, ⟨_, _, _, lk_BadThing⟩, rfl, (let ⟨t, ht⟩ := cf_BadThing; ⟨_, _, _, _, _, t, cd_BadThing, ht, by rw [beq_self_eq_true]⟩), ⟨_, _, _, cc_BadThingh⟩, z_super, rfl, rfl, rfl, rfl, z_top⟩ : ExI _ _ _ _ _ _ _ _ _ _) ci_BadThing rfl (by decide) (fr_of (by decide +kernel)) (by decide +kernel) rfl rfl nf_BadThing (by decide) (by decide) (by decide) (by decide) (fun L => rfl) (fun L => rfl)
  have e0 : ∀ base, ExJ l.prog w K mg base "BadThing" C_BadThing "thing" := fun base => ⟨gm, T_BadThing, fI_BadThing, _, ["self", "thing"], in_BadThing, ti_BadThing, eF base, Binds.all fun us hl => match us, hl with | [_, _], _ => rfl⟩
  exact fun base => ⟨e0 base, fI_BadThing, (PySem.W.ksFn "__init__" "BadThing.__init__" (defArgs i_BadThing) (defBody i_BadThing) (defScope i_BadThing) .none kV_BadThing dc_BadThing pm_BadThing an_BadThing (.ref cda_BadThing) ct_BadThing cc_BadThing), ["self", "thing"], in_BadThing, ti_BadThing, eF base, kb_BadThing⟩
abbrev i_BadBook : Stmt := subS (top 8) 0
theorem kb_BadBook {kV dc pm ct : Value} {an : Option Addr} {cda cc : Addr} : ∀ me u : Value, bindArgs (PySem.W.ksFn "__init__" "BadBook.__init__" (defArgs i_BadBook) (defBody i_BadBook) (defScope i_BadBook) .none kV dc pm an (.ref cda) ct cc) ⟨[me], [("part", u)]⟩ = pure (((["self", "part"] : List Str)).zip [me, u]) := fun me u => rfl
theorem exj_BadBook {l : PySem.W.OpenLaw} {w : World} {K : PySem.W.Frag} {mg : Str → Option Value} {C_BadBook : Addr} (gm : mg "BadBook" = some (.ref C_BadBook)) (hx : HXof l.prog.main.file K C_BadBook i_BadBook "BadBook.__init__" "part")
    (z_thirdparty : PySem.W.nsIn K cStatics "thirdparty.any" = some none) (z_super : PySem.W.nsIn K mainGlobals "super" = some none) (z_top : (l.prog.main.scope.names.lookup ("super" : Str)).isSome = false) : ∀ base, ExJK l.prog w K mg base "BadBook" C_BadBook "part" := by
  obtain ⟨nm_BadBook, qn_BadBook, N_BadBook, fI_BadBook, cda_BadBook, cc_BadBook, bs_BadBook, bm_BadBook, sn_BadBook, su0_BadBook, ab_BadBook, col_BadBook, dd_BadBook, m0_BadBook, m1_BadBook, m2_BadBook, m3_BadBook, m5_BadBook, oc_BadBook, kV_BadBook, dc_BadBook, pm_BadBook, ct_BadBook, od_BadBook, an_BadBook, osl_BadBook, ccl_BadBook, cdd_BadBook, vs_BadBook, ccs_BadBook, cl_BadBook, cld_BadBook, csl_BadBook, x_BadBook, rv_BadBook, sa_BadBook, s_BadBook, t_BadBook, kk_BadBook, in_BadBook, ti_BadBook, su_BadBook, sv_BadBook, mr_BadBook, lk_BadBook, cd_BadBook, cf_BadBook, ci_BadBook, cc_BadBookh, nf_BadBook⟩ := hx
  have T_BadBook : OexC K C_BadBook := ⟨⟨_, _, _, _, _, _, _, _, _, _, _, _, _, _, _, x_BadBook, rv_BadBook⟩, sa_BadBook, s_BadBook, t_BadBook, kk_BadBook⟩
  have eF : ∀ base, FnOk l.prog w K mg base C8.CX0 1 fI_BadBook (PySem.W.ksFn "__init__" "BadBook.__init__" (defArgs i_BadBook) (defBody i_BadBook) (defScope i_BadBook) .none kV_BadBook dc_BadBook pm_BadBook an_BadBook (.ref cda_BadBook) ct_BadBook cc_BadBook) ["self", "part"] (spIni C_BadBook "part") := fun base =>
    ini_ok (k := 0) (q := "BadBook.__init__") rfl rfl (⟨T_BadBook, su_BadBook, sv_BadBook, mr_BadBook, z_thirdparty, ⟨_, _, _, lk_BadBook⟩, rfl, (let ⟨t, ht⟩ := cf_BadBook; ⟨_, _, _, _, _, t, cd_BadBook, ht, by rw [beq_self_eq_true]⟩), ⟨_, _, _, cc_BadBookh⟩, z_super, rfl, rfl, rfl, rfl, z_top⟩ : ExI _ _ _ _ _ _ _ _ _ _) ci_BadBook rfl (by decide) (fr_of (by decide +kernel)) (by decide +kernel) rfl rfl nf_BadBook (by decide) (by decide) (by decide) (by decide) (fun L => rfl) (fun L => rfl)
  have e0 : ∀ base, ExJ l.prog w K mg base "BadBook" C_BadBook "part" := fun base => ⟨gm, T_BadBook, fI_BadBook, _, ["self", "part"], in_BadBook, ti_BadBook, eF base, Binds.all fun us hl => match us, hl with | [_, _], _ => rfl⟩
  exact fun base => ⟨e0 base, fI_BadBook, (PySem.W.ksFn "__init__" "BadBook.__init__" (defArgs i_BadBook) (defBody i_BadBook) (defScope i_BadBook) .none kV_BadBook dc_BadBook pm_BadBook an_BadBook (.ref cda_BadBook) ct_BadBook cc_BadBook), ["self", "part"], in_BadBook, ti_BadBook, eF base, kb_BadBook⟩
abbrev i_BadRules : Stmt := subS (top 7) 0
theorem kb_BadRules {kV dc pm ct : Value} {an : Option Addr} {cda cc : Addr} : ∀ me u : Value, bindArgs (PySem.W.ksFn "__init__" "BadRules.__init__" (defArgs i_BadRules) (defBody i_BadRules) (defScope i_BadRules) .none kV dc pm an (.ref cda) ct cc) ⟨[me], [("at", u)]⟩ = pure (((["self", "at"] : List Str)).zip [me, u]) := fun me u => rfl
theorem exj_BadRules {l : PySem.W.OpenLaw} {w : World} {K : PySem.W.Frag} {mg : Str → Option Value} {C_BadRules : Addr} (gm : mg "BadRules" = some (.ref C_BadRules)) (hx : HXof l.prog.main.file K C_BadRules i_BadRules "BadRules.__init__" "at")
    (z_thirdparty : PySem.W.nsIn K cStatics "thirdparty.any" = some none) (z_super : PySem.W.nsIn K mainGlobals "super" = some none) (z_top : (l.prog.main.scope.names.lookup ("super" : Str)).isSome = false) : ∀ base, ExJK l.prog w K mg base "BadRules" C_BadRules "at" := by
  obtain ⟨nm_BadRules, qn_BadRules, N_BadRules, fI_BadRules, cda_BadRules, cc_BadRules, bs_BadRules, bm_BadRules, sn_BadRules, su0_BadRules, ab_BadRules, col_BadRules, dd_BadRules, m0_BadRules, m1_BadRules, m2_BadRules, m3_BadRules, m5_BadRules, oc_BadRules, kV_BadRules, dc_BadRules, pm_BadRules, ct_BadRules, od_BadRules, an_BadRules, osl_BadRules, ccl_BadRules, cdd_BadRules, vs_BadRules, ccs_BadRules, cl_BadRules, cld_BadRules, csl_BadRules, x_BadRules, rv_BadRules, sa_BadRules, s_BadRules, t_BadRules, kk_BadRules, in_BadRules, ti_BadRules, su_BadRules, sv_BadRules, mr_BadRules, lk_BadRules, cd_BadRules, cf_BadRules, ci_BadRules, cc_BadRulesh, nf_BadRules⟩ := hx
  have T_BadRules : OexC K C_BadRules := ⟨⟨_, _, _, _, _, _, _, _, _, _, _, _, _, _, _, x_BadRules, rv_BadRules⟩, sa_BadRules, s_BadRules, t_BadRules, kk_BadRules⟩
  have eF : ∀ base, FnOk l.prog w K mg base C8.CX0 1 fI_BadRules (PySem.W.ksFn "__init__" "BadRules.__init__" (defArgs i_BadRules) (defBody i_BadRules) (defScope i_BadRules) .none kV_BadRules dc_BadRules pm_BadRules an_BadRules (.ref cda_BadRules) ct_BadRules cc_BadRules) ["self", "at"] (spIni C_BadRules "at") := fun base =>
    ini_ok (k := 0) (q := "BadRules.__init__") rfl rfl (⟨T_BadRules, su_BadRules, sv_BadRules, mr_BadRules, z_thirdparty, ⟨_, _, _, lk_BadRules⟩, rfl, (let ⟨t, ht⟩ := cf_BadRules; ⟨_, _, _, _, _, t, cd_BadRules, ht, by rw [beq_self_eq_true]⟩), ⟨_, _, _, cc_BadRulesh⟩, z_super, rfl, rfl, rfl, rfl, z_top⟩ : ExI _ _ _ _ _ _ _ _ _ _) ci_BadRules rfl (by decide) (fr_of (by decide +kernel)) (by decide +kernel) rfl rfl nf_BadRules (by decide) (by decide) (by decide) (by decide) (fun L => rfl) (fun L => rfl)
  have e0 : ∀ base, ExJ l.prog w K mg base "BadRules" C_BadRules "at" := fun base => ⟨gm, T_BadRules, fI_BadRules, _, ["self", "at"], in_BadRules, ti_BadRules, eF base, Binds.all fun us hl => match us, hl with | [_, _], _ => rfl⟩
  exact fun base => ⟨e0 base, fI_BadRules, (PySem.W.ksFn "__init__" "BadRules.__init__" (defArgs i_BadRules) (defBody i_BadRules) (defScope i_BadRules) .none kV_BadRules dc_BadRules pm_BadRules an_BadRules (.ref cda_BadRules) ct_BadRules cc_BadRules), ["self", "at"], in_BadRules, ti_BadRules, eF base, kb_BadRules⟩
abbrev i_BadPlans : Stmt := subS (top 3) 0
theorem kb_BadPlans {kV dc pm ct : Value} {an : Option Addr} {cda cc : Addr} : ∀ me u : Value, bindArgs (PySem.W.ksFn "__init__" "BadPlans.__init__" (defArgs i_BadPlans) (defBody i_BadPlans) (defScope i_BadPlans) .none kV dc pm an (.ref cda) ct cc) ⟨[me], [("at", u)]⟩ = pure (((["self", "at"] : List Str)).zip [me, u]) := fun me u => rfl
theorem exj_BadPlans {l : PySem.W.OpenLaw} {w : World} {K : PySem.W.Frag} {mg : Str → Option Value} {C_BadPlans : Addr} (gm : mg "BadPlans" = some (.ref C_BadPlans)) (hx : HXof l.prog.main.file K C_BadPlans i_BadPlans "BadPlans.__init__" "at")
    (z_thirdparty : PySem.W.nsIn K cStatics "thirdparty.any" = some none) (z_super : PySem.W.nsIn K mainGlobals "super" = some none) (z_top : (l.prog.main.scope.names.lookup ("super" : Str)).isSome = false) : ∀ base, ExJK l.prog w K mg base "BadPlans" C_BadPlans "at" := by
  obtain ⟨nm_BadPlans, qn_BadPlans, N_BadPlans, fI_BadPlans, cda_BadPlans, cc_BadPlans, bs_BadPlans, bm_BadPlans, sn_BadPlans, su0_BadPlans, ab_BadPlans, col_BadPlans, dd_BadPlans, m0_BadPlans, m1_BadPlans, m2_BadPlans, m3_BadPlans, m5_BadPlans, oc_BadPlans, kV_BadPlans, dc_BadPlans, pm_BadPlans, ct_BadPlans, od_BadPlans, an_BadPlans, osl_BadPlans, ccl_BadPlans, cdd_BadPlans, vs_BadPlans, ccs_BadPlans, cl_BadPlans, cld_BadPlans, csl_BadPlans, x_BadPlans, rv_BadPlans, sa_BadPlans, s_BadPlans, t_BadPlans, kk_BadPlans, in_BadPlans, ti_BadPlans, su_BadPlans, sv_BadPlans, mr_BadPlans, lk_BadPlans, cd_BadPlans, cf_BadPlans, ci_BadPlans, cc_BadPlansh, nf_BadPlans⟩ := hx
  have T_BadPlans : OexC K C_BadPlans := ⟨⟨_, _, _, _, _, _, _, _, _, _, _, _, _, _, _, x_BadPlans, rv_BadPlans⟩, sa_BadPlans, s_BadPlans, t_BadPlans, kk_BadPlans⟩
  have eF : ∀ base, FnOk l.prog w K mg base C8.CX0 1 fI_BadPlans (PySem.W.ksFn "__init__" "BadPlans.__init__" (defArgs i_BadPlans) (defBody i_BadPlans) (defScope i_BadPlans) .none kV_BadPlans dc_BadPlans pm_BadPlans an_BadPlans (.ref cda_BadPlans) ct_BadPlans cc_BadPlans) ["self", "at"] (spIni C_BadPlans "at") := fun base =>
    ini_ok (k := 0) (q := "BadPlans.__init__") rfl rfl (⟨T_BadPlans, su_BadPlans, sv_BadPlans, mr_BadPlans, z_thirdparty, ⟨_, _, _, lk_BadPlans⟩, rfl, (let ⟨t, ht⟩ := cf_BadPlans; ⟨_, _, _, _, _, t, cd_BadPlans, ht, by rw [beq_self_eq_true]⟩), ⟨_, _, _, cc_BadPlansh⟩, z_super, rfl, rfl, rfl, rfl, z_top⟩ : ExI _ _ _ _ _ _ _ _ _ _) ci_BadPlans rfl (by decide) (fr_of (by decide +kernel)) (by decide +kernel) rfl rfl nf_BadPlans (by decide) (by decide) (by decide) (by decide) (fun L => rfl) (fun L => rfl)
  have e0 : ∀ base, ExJ l.prog w K mg base "BadPlans" C_BadPlans "at" := fun base => ⟨gm, T_BadPlans, fI_BadPlans, _, ["self", "at"], in_BadPlans, ti_BadPlans, eF base, Binds.all fun us hl => match us, hl with | [_, _], _ => rfl⟩
  exact fun base => ⟨e0 base, fI_BadPlans, (PySem.W.ksFn "__init__" "BadPlans.__init__" (defArgs i_BadPlans) (defBody i_BadPlans) (defScope i_BadPlans) .none kV_BadPlans dc_BadPlans pm_BadPlans an_BadPlans (.ref cda_BadPlans) ct_BadPlans cc_BadPlans), ["self", "at"], in_BadPlans, ti_BadPlans, eF base, kb_BadPlans⟩
abbrev i_BadRows : Stmt := subS (top 17) 0
theorem kb_BadRows {kV dc pm ct : Value} {an : Option Addr} {cda cc : Addr} : ∀ me u : Value, bindArgs (PySem.W.ksFn "__init__" "BadRows.__init__" (defArgs i_BadRows) (defBody i_BadRows) (defScope i_BadRows) .none kV dc pm an (.ref cda) ct cc) ⟨[me], [("at", u)]⟩ = pure (((["self", "at"] : List Str)).zip [me, u]) := fun me u => rfl
theorem exj_BadRows {l : PySem.W.OpenLaw} {w : World} {K : PySem.W.Frag} {mg : Str → Option Value} {C_BadRows : Addr} (gm : mg "BadRows" = some (.ref C_BadRows)) (hx : HXof l.prog.main.file K C_BadRows i_BadRows "BadRows.__init__" "at")
    (z_thirdparty : PySem.W.nsIn K cStatics "thirdparty.any" = some none) (z_super : PySem.W.nsIn K mainGlobals "super" = some none) (z_top : (l.prog.main.scope.names.lookup ("super" : Str)).isSome = false) : ∀ base, ExJK l.prog w K mg base "BadRows" C_BadRows "at" := by
  obtain ⟨nm_BadRows, qn_BadRows, N_BadRows, fI_BadRows, cda_BadRows, cc_BadRows, bs_BadRows, bm_BadRows, sn_BadRows, su0_BadRows, ab_BadRows, col_BadRows, dd_BadRows, m0_BadRows, m1_BadRows, m2_BadRows, m3_BadRows, m5_BadRows, oc_BadRows, kV_BadRows, dc_BadRows, pm_BadRows, ct_BadRows, od_BadRows, an_BadRows, osl_BadRows, ccl_BadRows, cdd_BadRows, vs_BadRows, ccs_BadRows, cl_BadRows, cld_BadRows, csl_BadRows, x_BadRows, rv_BadRows, sa_BadRows, s_BadRows, t_BadRows, kk_BadRows, in_BadRows, ti_BadRows, su_BadRows, sv_BadRows, mr_BadRows, lk_BadRows, cd_BadRows, cf_BadRows, ci_BadRows, cc_BadRowsh, nf_BadRows⟩ := hx
  have T_BadRows : OexC K C_BadRows := ⟨⟨_, _, _, _, _, _, _, _, _, _, _, _, _, _, _, x_BadRows, rv_BadRows⟩, sa_BadRows, s_BadRows, t_BadRows, kk_BadRows⟩
  have eF : ∀ base, FnOk l.prog w K mg base C8.CX0 1 fI_BadRows (PySem.W.ksFn "__init__" "BadRows.__init__" (defArgs i_BadRows) (defBody i_BadRows) (defScope i_BadRows) .none kV_BadRows dc_BadRows pm_BadRows an_BadRows (.ref cda_BadRows) ct_BadRows cc_BadRows) ["self", "at"] (spIni C_BadRows "at") := fun base =>
    ini_ok (k := 0) (q := "BadRows.__init__") rfl rfl (⟨T_BadRows, su_BadRows, sv_BadRows, mr_BadRows, z_thirdparty, ⟨_, _, _, lk_BadRows⟩, rfl, (let ⟨t, ht⟩ := cf_BadRows; ⟨_, _, _, _, _, t, cd_BadRows, ht, by rw [beq_self_eq_true]⟩), ⟨_, _, _, cc_BadRowsh⟩, z_super, rfl, rfl, rfl, rfl, z_top⟩ : ExI _ _ _ _ _ _ _ _ _ _) ci_BadRows rfl (by decide) (fr_of (by decide +kernel)) (by decide +kernel) rfl rfl nf_BadRows (by decide) (by decide) (by decide) (by decide) (fun L => rfl) (fun L => rfl)
  have e0 : ∀ base, ExJ l.prog w K mg base "BadRows" C_BadRows "at" := fun base => ⟨gm, T_BadRows, fI_BadRows, _, ["self", "at"], in_BadRows, ti_BadRows, eF base, Binds.all fun us hl => match us, hl with | [_, _], _ => rfl⟩
  exact fun base => ⟨e0 base, fI_BadRows, (PySem.W.ksFn "__init__" "BadRows.__init__" (defArgs i_BadRows) (defBody i_BadRows) (defScope i_BadRows) .none kV_BadRows dc_BadRows pm_BadRows an_BadRows (.ref cda_BadRows) ct_BadRows cc_BadRows), ["self", "at"], in_BadRows, ti_BadRows, eF base, kb_BadRows⟩
abbrev i_BadRow : Stmt := subS (top 16) 0
theorem kb_BadRow {kV dc pm ct : Value} {an : Option Addr} {cda cc : Addr} : ∀ me u : Value, bindArgs (PySem.W.ksFn "__init__" "BadRow.__init__" (defArgs i_BadRow) (defBody i_BadRow) (defScope i_BadRow) .none kV dc pm an (.ref cda) ct cc) ⟨[me], [("part", u)]⟩ = pure (((["self", "part"] : List Str)).zip [me, u]) := fun me u => rfl
theorem exj_BadRow {l : PySem.W.OpenLaw} {w : World} {K : PySem.W.Frag} {mg : Str → Option Value} {C_BadRow : Addr} (gm : mg "BadRow" = some (.ref C_BadRow)) (hx : HXof l.prog.main.file K C_BadRow i_BadRow "BadRow.__init__" "part")
    (z_thirdparty : PySem.W.nsIn K cStatics "thirdparty.any" = some none) (z_super : PySem.W.nsIn K mainGlobals "super" = some none) (z_top : (l.prog.main.scope.names.lookup ("super" : Str)).isSome = false) : ∀ base, ExJK l.prog w K mg base "BadRow" C_BadRow "part" := by
  obtain ⟨nm_BadRow, qn_BadRow, N_BadRow, fI_BadRow, cda_BadRow, cc_BadRow, bs_BadRow, bm_BadRow, sn_BadRow, su0_BadRow, ab_BadRow, col_BadRow, dd_BadRow, m0_BadRow, m1_BadRow, m2_BadRow, m3_BadRow, m5_BadRow, oc_BadRow, kV_BadRow, dc_BadRow, pm_BadRow, ct_BadRow, od_BadRow, an_BadRow, osl_BadRow, ccl_BadRow, cdd_BadRow, vs_BadRow, ccs_BadRow, cl_BadRow, cld_BadRow, csl_BadRow, x_BadRow, rv_BadRow, sa_BadRow, s_BadRow, t_BadRow, kk_BadRow, in_BadRow, ti_BadRow, su_BadRow, sv_BadRow, mr_BadRow, lk_BadRow, cd_BadRow, cf_BadRow, ci_BadRow, cc_BadRowh, nf_BadRow⟩ := hx
  have T_BadRow : OexC K C_BadRow := ⟨⟨_, _, _, _, _, _, _, _, _, _, _, _, _, _, _, x_BadRow, rv_BadRow⟩, sa_BadRow, s_BadRow, t_BadRow, kk_BadRow⟩
  have eF : ∀ base, FnOk l.prog w K mg base C8.CX0 1 fI_BadRow (PySem.W.ksFn "__init__" "BadRow.__init__" (defArgs i_BadRow) (defBody i_BadRow) (defScope i_BadRow) .none kV_BadRow dc_BadRow pm_BadRow an_BadRow (.ref cda_BadRow) ct_BadRow cc_BadRow) ["self", "part"] (spIni C_BadRow "part") := fun base =>
    ini_ok (k := 0) (q := "BadRow.__init__") rfl rfl (⟨T_BadRow, su_BadRow, sv_BadRow, mr_BadRow, z_thirdparty, ⟨_, _, _, lk_BadRow⟩, rfl, (let ⟨t, ht⟩ := cf_BadRow; ⟨_, _, _, _, _, t, cd_BadRow, ht, by rw [beq_self_eq_true]⟩), ⟨_, _, _, cc_BadRowh⟩, z_super, rfl, rfl, rfl, rfl, z_top⟩ : ExI _ _ _ _ _ _ _ _ _ _) ci_BadRow rfl (by decide) (fr_of (by decide +kernel)) (by decide +kernel) rfl rfl nf_BadRow (by decide) (by decide) (by decide) (by decide) (fun L => rfl) (fun L => rfl)
  have e0 : ∀ base, ExJ l.prog w K mg base "BadRow" C_BadRow "part" := fun base => ⟨gm, T_BadRow, fI_BadRow, _, ["self", "part"], in_BadRow, ti_BadRow, eF base, Binds.all fun us hl => match us, hl with | [_, _], _ => rfl⟩
  exact fun base => ⟨e0 base, fI_BadRow, (PySem.W.ksFn "__init__" "BadRow.__init__" (defArgs i_BadRow) (defBody i_BadRow) (defScope i_BadRow) .none kV_BadRow dc_BadRow pm_BadRow an_BadRow (.ref cda_BadRow) ct_BadRow cc_BadRow), ["self", "part"], in_BadRow, ti_BadRow, eF base, kb_BadRow⟩
abbrev i_BadBox : Stmt := subS (top 15) 0
theorem kb_BadBox {kV dc pm ct : Value} {an : Option Addr} {cda cc : Addr} : ∀ me u : Value, bindArgs (PySem.W.ksFn "__init__" "BadBox.__init__" (defArgs i_BadBox) (defBody i_BadBox) (defScope i_BadBox) .none kV dc pm an (.ref cda) ct cc) ⟨[me], [("part", u)]⟩ = pure (((["self", "part"] : List Str)).zip [me, u]) := fun me u => rfl
theorem exj_BadBox {l : PySem.W.OpenLaw} {w : World} {K : PySem.W.Frag} {mg : Str → Option Value} {C_BadBox : Addr} (gm : mg "BadBox" = some (.ref C_BadBox)) (hx : HXof l.prog.main.file K C_BadBox i_BadBox "BadBox.__init__" "part")
    (z_thirdparty : PySem.W.nsIn K cStatics "thirdparty.any" = some none) (z_super : PySem.W.nsIn K mainGlobals "super" = some none) (z_top : (l.prog.main.scope.names.lookup ("super" : Str)).isSome = false) : ∀ base, ExJK l.prog w K mg base "BadBox" C_BadBox "part" := by
  obtain ⟨nm_BadBox, qn_BadBox, N_BadBox, fI_BadBox, cda_BadBox, cc_BadBox, bs_BadBox, bm_BadBox, sn_BadBox, su0_BadBox, ab_BadBox, col_BadBox, dd_BadBox, m0_BadBox, m1_BadBox, m2_BadBox, m3_BadBox, m5_BadBox, oc_BadBox, kV_BadBox, dc_BadBox, pm_BadBox, ct_BadBox, od_BadBox, an_BadBox, osl_BadBox, ccl_BadBox, cdd_BadBox, vs_BadBox, ccs_BadBox, cl_BadBox, cld_BadBox, csl_BadBox, x_BadBox, rv_BadBox, sa_BadBox, s_BadBox, t_BadBox, kk_BadBox, in_BadBox, ti_BadBox, su_BadBox, sv_BadBox, mr_BadBox, lk_BadBox, cd_BadBox, cf_BadBox, ci_BadBox, cc_BadBoxh, nf_BadBox⟩ := hx
  have T_BadBox : OexC K C_BadBox := ⟨⟨_, _, _, _, _, _, _, _, _, _, _, _, _, _, _, x_BadBox, rv_BadBox⟩, sa_BadBox, s_BadBox, t_BadBox, kk_BadBox⟩
  have eF : ∀ base, FnOk l.prog w K mg base C8.CX0 1 fI_BadBox (PySem.W.ksFn "__init__" "BadBox.__init__" (defArgs i_BadBox) (defBody i_BadBox) (defScope i_BadBox) .none kV_BadBox dc_BadBox pm_BadBox an_BadBox (.ref cda_BadBox) ct_BadBox cc_BadBox) ["self", "part"] (spIni C_BadBox "part") := fun base =>
    ini_ok (k := 0) (q := "BadBox.__init__") rfl rfl (⟨T_BadBox, su_BadBox, sv_BadBox, mr_BadBox, z_thirdparty, ⟨_, _, _, lk_BadBox⟩, rfl, (let ⟨t, ht⟩ := cf_BadBox; ⟨_, _, _, _, _, t, cd_BadBox, ht, by rw [beq_self_eq_true]⟩), ⟨_, _, _, cc_BadBoxh⟩, z_super, rfl, rfl, rfl, rfl, z_top⟩ : ExI _ _ _ _ _ _ _ _ _ _) ci_BadBox rfl (by decide) (fr_of (by decide +kernel)) (by decide +kernel) rfl rfl nf_BadBox (by decide) (by decide) (by decide) (by decide) (fun L => rfl) (fun L => rfl)
  have e0 : ∀ base, ExJ l.prog w K mg base "BadBox" C_BadBox "part" := fun base => ⟨gm, T_BadBox, fI_BadBox, _, ["self", "part"], in_BadBox, ti_BadBox, eF base, Binds.all fun us hl => match us, hl with | [_, _], _ => rfl⟩
  exact fun base => ⟨e0 base, fI_BadBox, (PySem.W.ksFn "__init__" "BadBox.__init__" (defArgs i_BadBox) (defBody i_BadBox) (defScope i_BadBox) .none kV_BadBox dc_BadBox pm_BadBox an_BadBox (.ref cda_BadBox) ct_BadBox cc_BadBox), ["self", "part"], in_BadBox, ti_BadBox, eF base, kb_BadBox⟩
abbrev i_NoRule : Stmt := subS (top 11) 0
theorem kb_NoRule {kV dc pm ct : Value} {an : Option Addr} {cda cc : Addr} : ∀ me u : Value, bindArgs (PySem.W.ksFn "__init__" "NoRule.__init__" (defArgs i_NoRule) (defBody i_NoRule) (defScope i_NoRule) .none kV dc pm an (.ref cda) ct cc) ⟨[me], [("at", u)]⟩ = pure (((["self", "at"] : List Str)).zip [me, u]) := fun me u => rfl
theorem exj_NoRule {l : PySem.W.OpenLaw} {w : World} {K : PySem.W.Frag} {mg : Str → Option Value} {C_NoRule : Addr} (gm : mg "NoRule" = some (.ref C_NoRule)) (hx : HXof l.prog.main.file K C_NoRule i_NoRule "NoRule.__init__" "at")
    (z_thirdparty : PySem.W.nsIn K cStatics "thirdparty.any" = some none) (z_super : PySem.W.nsIn K mainGlobals "super" = some none) (z_top : (l.prog.main.scope.names.lookup ("super" : Str)).isSome = false) : ∀ base, ExJK l.prog w K mg base "NoRule" C_NoRule "at" := by
  obtain ⟨nm_NoRule, qn_NoRule, N_NoRule, fI_NoRule, cda_NoRule, cc_NoRule, bs_NoRule, bm_NoRule, sn_NoRule, su0_NoRule, ab_NoRule, col_NoRule, dd_NoRule, m0_NoRule, m1_NoRule, m2_NoRule, m3_NoRule, m5_NoRule, oc_NoRule, kV_NoRule, dc_NoRule, pm_NoRule, ct_NoRule, od_NoRule, an_NoRule, osl_NoRule, ccl_NoRule, cdd_NoRule, vs_NoRule, ccs_NoRule, cl_NoRule, cld_NoRule, csl_NoRule, x_NoRule, rv_NoRule, sa_NoRule, s_NoRule, t_NoRule, kk_NoRule, in_NoRule, ti_NoRule, su_NoRule, sv_NoRule, mr_NoRule, lk_NoRule, cd_NoRule, cf_NoRule, ci_NoRule, cc_NoRuleh, nf_NoRule⟩ := hx
  have T_NoRule : OexC K C_NoRule := ⟨⟨_, _, _, _, _, _, _, _, _, _, _, _, _, _, _, x_NoRule, rv_NoRule⟩, sa_NoRule, s_NoRule, t_NoRule, kk_NoRule⟩
  have eF : ∀ base, FnOk l.prog w K mg base C8.CX0 1 fI_NoRule (PySem.W.ksFn "__init__" "NoRule.__init__" (defArgs i_NoRule) (defBody i_NoRule) (defScope i_NoRule) .none kV_NoRule dc_NoRule pm_NoRule an_NoRule (.ref cda_NoRule) ct_NoRule cc_NoRule) ["self", "at"] (spIni C_NoRule "at") := fun base =>
    ini_ok (k := 0) (q := "NoRule.__init__") rfl rfl (⟨T_NoRule, su_NoRule, sv_NoRule, mr_NoRule, z_thirdparty, ⟨_, _, _, lk_NoRule⟩, rfl, (let ⟨t, ht⟩ := cf_NoRule; ⟨_, _, _, _, _, t, cd_NoRule, ht, by rw [beq_self_eq_true]⟩), ⟨_, _, _, cc_NoRuleh⟩, z_super, rfl, rfl, rfl, rfl, z_top⟩ : ExI _ _ _ _ _ _ _ _ _ _) ci_NoRule rfl (by decide) (fr_of (by decide +kernel)) (by decide +kernel) rfl rfl nf_NoRule (by decide) (by decide) (by decide) (by decide) (fun L => rfl) (fun L => rfl)
  have e0 : ∀ base, ExJ l.prog w K mg base "NoRule" C_NoRule "at" := fun base => ⟨gm, T_NoRule, fI_NoRule, _, ["self", "at"], in_NoRule, ti_NoRule, eF base, Binds.all fun us hl => match us, hl with | [_, _], _ => rfl⟩
  exact fun base => ⟨e0 base, fI_NoRule, (PySem.W.ksFn "__init__" "NoRule.__init__" (defArgs i_NoRule) (defBody i_NoRule) (defScope i_NoRule) .none kV_NoRule dc_NoRule pm_NoRule an_NoRule (.ref cda_NoRule) ct_NoRule cc_NoRule), ["self", "at"], in_NoRule, ti_NoRule, eF base, kb_NoRule⟩
abbrev i_BadOffer : Stmt := subS (top 22) 0
theorem kb_BadOffer {kV dc pm ct : Value} {an : Option Addr} {cda cc : Addr} : ∀ me u : Value, bindArgs (PySem.W.ksFn "__init__" "BadOffer.__init__" (defArgs i_BadOffer) (defBody i_BadOffer) (defScope i_BadOffer) .none kV dc pm an (.ref cda) ct cc) ⟨[me], [("part", u)]⟩ = pure (((["self", "part"] : List Str)).zip [me, u]) := fun me u => rfl
theorem exj_BadOffer {l : PySem.W.OpenLaw} {w : World} {K : PySem.W.Frag} {mg : Str → Option Value} {C_BadOffer : Addr} (gm : mg "BadOffer" = some (.ref C_BadOffer)) (hx : HXof l.prog.main.file K C_BadOffer i_BadOffer "BadOffer.__init__" "part")
    (z_thirdparty : PySem.W.nsIn K cStatics "thirdparty.any" = some none) (z_super : PySem.W.nsIn K mainGlobals "super" = some none) (z_top : (l.prog.main.scope.names.lookup ("super" : Str)).isSome = false) : ∀ base, ExJK l.prog w K mg base "BadOffer" C_BadOffer "part" := by
  obtain ⟨nm_BadOffer, qn_BadOffer, N_BadOffer, fI_BadOffer, cda_BadOffer, cc_BadOffer, bs_BadOffer, bm_BadOffer, sn_BadOffer, su0_BadOffer, ab_BadOffer, col_BadOffer, dd_BadOffer, m0_BadOffer, m1_BadOffer, m2_BadOffer, m3_BadOffer, m5_BadOffer, oc_BadOffer, kV_BadOffer, dc_BadOffer, pm_BadOffer, ct_BadOffer, od_BadOffer, an_BadOffer, osl_BadOffer, ccl_BadOffer, cdd_BadOffer, vs_BadOffer, ccs_BadOffer, cl_BadOffer, cld_BadOffer, csl_BadOffer, x_BadOffer, rv_BadOffer, sa_BadOffer, s_BadOffer, t_BadOffer, kk_BadOffer, in_BadOffer, ti_BadOffer, su_BadOffer, sv_BadOffer, mr_BadOffer, lk_BadOffer, cd_BadOffer, cf_BadOffer, ci_BadOffer, cc_BadOfferh, nf_BadOffer⟩ := hx
  have T_BadOffer : OexC K C_BadOffer := ⟨⟨_, _, _, _, _, _, _, _, _, _, _, _, _, _, _, x_BadOffer, rv_BadOffer⟩, sa_BadOffer, s_BadOffer, t_BadOffer, kk_BadOffer⟩
  have eF : ∀ base, FnOk l.prog w K mg base C8.CX0 1 fI_BadOffer (PySem.W.ksFn "__init__" "BadOffer.__init__" (defArgs i_BadOffer) (defBody i_BadOffer) (defScope i_BadOffer) .none kV_BadOffer dc_BadOffer pm_BadOffer an_BadOffer (.ref cda_BadOffer) ct_BadOffer cc_BadOffer) ["self", "part"] (spIni C_BadOffer "part") := fun base =>
    ini_ok (k := 0) (q := "BadOffer.__init__") rfl rfl (⟨T_BadOffer, su_BadOffer, sv_BadOffer, mr_BadOffer, z_thirdparty, ⟨_, _, _, lk_BadOffer⟩, rfl, (let ⟨t, ht⟩ := cf_BadOffer; ⟨_, _, _, _, _, t, cd_BadOffer, ht, by rw [beq_self_eq_true]⟩), ⟨_, _, _, cc_BadOfferh⟩, z_super, rfl, rfl, rfl, rfl, z_top⟩ : ExI _ _ _ _ _ _ _ _ _ _) ci_BadOffer rfl (by decide) (fr_of (by decide +kernel)) (by decide +kernel) rfl rfl nf_BadOffer (by decide) (by decide) (by decide) (by decide) (fun L => rfl) (fun L => rfl)
  have e0 : ∀ base, ExJ l.prog w K mg base "BadOffer" C_BadOffer "part" := fun base => ⟨gm, T_BadOffer, fI_BadOffer, _, ["self", "part"], in_BadOffer, ti_BadOffer, eF base, Binds.all fun us hl => match us, hl with | [_, _], _ => rfl⟩
  exact fun base => ⟨e0 base, fI_BadOffer, (PySem.W.ksFn "__init__" "BadOffer.__init__" (defArgs i_BadOffer) (defBody i_BadOffer) (defScope i_BadOffer) .none kV_BadOffer dc_BadOffer pm_BadOffer an_BadOffer (.ref cda_BadOffer) ct_BadOffer cc_BadOffer), ["self", "part"], in_BadOffer, ti_BadOffer, eF base, kb_BadOffer⟩
abbrev i_BadFare : Stmt := subS (top 21) 0
theorem kb_BadFare {kV dc pm ct : Value} {an : Option Addr} {cda cc : Addr} : ∀ me u : Value, bindArgs (PySem.W.ksFn "__init__" "BadFare.__init__" (defArgs i_BadFare) (defBody i_BadFare) (defScope i_BadFare) .none kV dc pm an (.ref cda) ct cc) ⟨[me], [("part", u)]⟩ = pure (((["self", "part"] : List Str)).zip [me, u]) := fun me u => rfl
theorem exj_BadFare {l : PySem.W.OpenLaw} {w : World} {K : PySem.W.Frag} {mg : Str → Option Value} {C_BadFare : Addr} (gm : mg "BadFare" = some (.ref C_BadFare)) (hx : HXof l.prog.main.file K C_BadFare i_BadFare "BadFare.__init__" "part")
    (z_thirdparty : PySem.W.nsIn K cStatics "thirdparty.any" = some none) (z_super : PySem.W.nsIn K mainGlobals "super" = some none) (z_top : (l.prog.main.scope.names.lookup ("super" : Str)).isSome = false) : ∀ base, ExJK l.prog w K mg base "BadFare" C_BadFare "part" := by
  obtain ⟨nm_BadFare, qn_BadFare, N_BadFare, fI_BadFare, cda_BadFare, cc_BadFare, bs_BadFare, bm_BadFare, sn_BadFare, su0_BadFare, ab_BadFare, col_BadFare, dd_BadFare, m0_BadFare, m1_BadFare, m2_BadFare, m3_BadFare, m5_BadFare, oc_BadFare, kV_BadFare, dc_BadFare, pm_BadFare, ct_BadFare, od_BadFare, an_BadFare, osl_BadFare, ccl_BadFare, cdd_BadFare, vs_BadFare, ccs_BadFare, cl_BadFare, cld_BadFare, csl_BadFare, x_BadFare, rv_BadFare, sa_BadFare, s_BadFare, t_BadFare, kk_BadFare, in_BadFare, ti_BadFare, su_BadFare, sv_BadFare, mr_BadFare, lk_BadFare, cd_BadFare, cf_BadFare, ci_BadFare, cc_BadFareh, nf_BadFare⟩ := hx
  have T_BadFare : OexC K C_BadFare := ⟨⟨_, _, _, _, _, _, _, _, _, _, _, _, _, _, _, x_BadFare, rv_BadFare⟩, sa_BadFare, s_BadFare, t_BadFare, kk_BadFare⟩
  have eF : ∀ base, FnOk l.prog w K mg base C8.CX0 1 fI_BadFare (PySem.W.ksFn "__init__" "BadFare.__init__" (defArgs i_BadFare) (defBody i_BadFare) (defScope i_BadFare) .none kV_BadFare dc_BadFare pm_BadFare an_BadFare (.ref cda_BadFare) ct_BadFare cc_BadFare) ["self", "part"] (spIni C_BadFare "part") := fun base =>
    ini_ok (k := 0) (q := "BadFare.__init__") rfl rfl (⟨T_BadFare, su_BadFare, sv_BadFare, mr_BadFare, z_thirdparty, ⟨_, _, _, lk_BadFare⟩, rfl, (let ⟨t, ht⟩ := cf_BadFare; ⟨_, _, _, _, _, t, cd_BadFare, ht, by rw [beq_self_eq_true]⟩), ⟨_, _, _, cc_BadFareh⟩, z_super, rfl, rfl, rfl, rfl, z_top⟩ : ExI _ _ _ _ _ _ _ _ _ _) ci_BadFare rfl (by decide) (fr_of (by decide +kernel)) (by decide +kernel) rfl rfl nf_BadFare (by decide) (by decide) (by decide) (by decide) (fun L => rfl) (fun L => rfl)
  have e0 : ∀ base, ExJ l.prog w K mg base "BadFare" C_BadFare "part" := fun base => ⟨gm, T_BadFare, fI_BadFare, _, ["self", "part"], in_BadFare, ti_BadFare, eF base, Binds.all fun us hl => match us, hl with | [_, _], _ => rfl⟩
  exact fun base => ⟨e0 base, fI_BadFare, (PySem.W.ksFn "__init__" "BadFare.__init__" (defArgs i_BadFare) (defBody i_BadFare) (defScope i_BadFare) .none kV_BadFare dc_BadFare pm_BadFare an_BadFare (.ref cda_BadFare) ct_BadFare cc_BadFare), ["self", "part"], in_BadFare, ti_BadFare, eF base, kb_BadFare⟩
abbrev i_NoRow : Stmt := subS (top 19) 0
theorem kb_NoRow {kV dc pm ct : Value} {an : Option Addr} {cda cc : Addr} : ∀ me u : Value, bindArgs (PySem.W.ksFn "__init__" "NoRow.__init__" (defArgs i_NoRow) (defBody i_NoRow) (defScope i_NoRow) .none kV dc pm an (.ref cda) ct cc) ⟨[me], [("at", u)]⟩ = pure (((["self", "at"] : List Str)).zip [me, u]) := fun me u => rfl
theorem exj_NoRow {l : PySem.W.OpenLaw} {w : World} {K : PySem.W.Frag} {mg : Str → Option Value} {C_NoRow : Addr} (gm : mg "NoRow" = some (.ref C_NoRow)) (hx : HXof l.prog.main.file K C_NoRow i_NoRow "NoRow.__init__" "at")
    (z_thirdparty : PySem.W.nsIn K cStatics "thirdparty.any" = some none) (z_super : PySem.W.nsIn K mainGlobals "super" = some none) (z_top : (l.prog.main.scope.names.lookup ("super" : Str)).isSome = false) : ∀ base, ExJK l.prog w K mg base "NoRow" C_NoRow "at" := by
  obtain ⟨nm_NoRow, qn_NoRow, N_NoRow, fI_NoRow, cda_NoRow, cc_NoRow, bs_NoRow, bm_NoRow, sn_NoRow, su0_NoRow, ab_NoRow, col_NoRow, dd_NoRow, m0_NoRow, m1_NoRow, m2_NoRow, m3_NoRow, m5_NoRow, oc_NoRow, kV_NoRow, dc_NoRow, pm_NoRow, ct_NoRow, od_NoRow, an_NoRow, osl_NoRow, ccl_NoRow, cdd_NoRow, vs_NoRow, ccs_NoRow, cl_NoRow, cld_NoRow, csl_NoRow, x_NoRow, rv_NoRow, sa_NoRow, s_NoRow, t_NoRow, kk_NoRow, in_NoRow, ti_NoRow, su_NoRow, sv_NoRow, mr_NoRow, lk_NoRow, cd_NoRow, cf_NoRow, ci_NoRow, cc_NoRowh, nf_NoRow⟩ := hx
  have T_NoRow : OexC K C_NoRow := ⟨⟨_, _, _, _, _, _, _, _, _, _, _, _, _, _, _, x_NoRow, rv_NoRow⟩, sa_NoRow, s_NoRow, t_NoRow, kk_NoRow⟩
  have eF : ∀ base, FnOk l.prog w K mg base C8.CX0 1 fI_NoRow (PySem.W.ksFn "__init__" "NoRow.__init__" (defArgs i_NoRow) (defBody i_NoRow) (defScope i_NoRow) .none kV_NoRow dc_NoRow pm_NoRow an_NoRow (.ref cda_NoRow) ct_NoRow cc_NoRow) ["self", "at"] (spIni C_NoRow "at") := fun base =>
    ini_ok (k := 0) (q := "NoRow.__init__") rfl rfl (⟨T_NoRow, su_NoRow, sv_NoRow, mr_NoRow, z_thirdparty, ⟨_, _, _, lk_NoRow⟩, rfl, (let ⟨t, ht⟩ := cf_NoRow; ⟨_, _, _, _, _, t, cd_NoRow, ht, by rw [beq_self_eq_true]⟩), ⟨_, _, _, cc_NoRowh⟩, z_super, rfl, rfl, rfl, rfl, z_top⟩ : ExI _ _ _ _ _ _ _ _ _ _) ci_NoRow rfl (by decide) (fr_of (by decide +kernel)) (by decide +kernel) rfl rfl nf_NoRow (by decide) (by decide) (by decide) (by decide) (fun L => rfl) (fun L => rfl)
  have e0 : ∀ base, ExJ l.prog w K mg base "NoRow" C_NoRow "at" := fun base => ⟨gm, T_NoRow, fI_NoRow, _, ["self", "at"], in_NoRow, ti_NoRow, eF base, Binds.all fun us hl => match us, hl with | [_, _], _ => rfl⟩
  exact fun base => ⟨e0 base, fI_NoRow, (PySem.W.ksFn "__init__" "NoRow.__init__" (defArgs i_NoRow) (defBody i_NoRow) (defScope i_NoRow) .none kV_NoRow dc_NoRow pm_NoRow an_NoRow (.ref cda_NoRow) ct_NoRow cc_NoRow), ["self", "at"], in_NoRow, ti_NoRow, eF base, kb_NoRow⟩
abbrev i_BadPrices : Stmt := subS (top 18) 0
theorem kb_BadPrices {kV dc pm ct : Value} {an : Option Addr} {cda cc : Addr} : ∀ me u : Value, bindArgs (PySem.W.ksFn "__init__" "BadPrices.__init__" (defArgs i_BadPrices) (defBody i_BadPrices) (defScope i_BadPrices) .none kV dc pm an (.ref cda) ct cc) ⟨[me], [("part", u)]⟩ = pure (((["self", "part"] : List Str)).zip [me, u]) := fun me u => rfl
theorem exj_BadPrices {l : PySem.W.OpenLaw} {w : World} {K : PySem.W.Frag} {mg : Str → Option Value} {C_BadPrices : Addr} (gm : mg "BadPrices" = some (.ref C_BadPrices)) (hx : HXof l.prog.main.file K C_BadPrices i_BadPrices "BadPrices.__init__" "part")
    (z_thirdparty : PySem.W.nsIn K cStatics "thirdparty.any" = some none) (z_super : PySem.W.nsIn K mainGlobals "super" = some none) (z_top : (l.prog.main.scope.names.lookup ("super" : Str)).isSome = false) : ∀ base, ExJK l.prog w K mg base "BadPrices" C_BadPrices "part" := by
  obtain ⟨nm_BadPrices, qn_BadPrices, N_BadPrices, fI_BadPrices, cda_BadPrices, cc_BadPrices, bs_BadPrices, bm_BadPrices, sn_BadPrices, su0_BadPrices, ab_BadPrices, col_BadPrices, dd_BadPrices, m0_BadPrices, m1_BadPrices, m2_BadPrices, m3_BadPrices, m5_BadPrices, oc_BadPrices, kV_BadPrices, dc_BadPrices, pm_BadPrices, ct_BadPrices, od_BadPrices, an_BadPrices, osl_BadPrices, ccl_BadPrices, cdd_BadPrices, vs_BadPrices, ccs_BadPrices, cl_BadPrices, cld_BadPrices, csl_BadPrices, x_BadPrices, rv_BadPrices, sa_BadPrices, s_BadPrices, t_BadPrices, kk_BadPrices, in_BadPrices, ti_BadPrices, su_BadPrices, sv_BadPrices, mr_BadPrices, lk_BadPrices, cd_BadPrices, cf_BadPrices, ci_BadPrices, cc_BadPricesh, nf_BadPrices⟩ := hx
  have T_BadPrices : OexC K C_BadPrices := ⟨⟨_, _, _, _, _, _, _, _, _, _, _, _, _, _, _, x_BadPrices, rv_BadPrices⟩, sa_BadPrices, s_BadPrices, t_BadPrices, kk_BadPrices⟩
  have eF : ∀ base, FnOk l.prog w K mg base C8.CX0 1 fI_BadPrices (PySem.W.ksFn "__init__" "BadPrices.__init__" (defArgs i_BadPrices) (defBody i_BadPrices) (defScope i_BadPrices) .none kV_BadPrices dc_BadPrices pm_BadPrices an_BadPrices (.ref cda_BadPrices) ct_BadPrices cc_BadPrices) ["self", "part"] (spIni C_BadPrices "part") := fun base =>
    ini_ok (k := 0) (q := "BadPrices.__init__") rfl rfl (⟨T_BadPrices, su_BadPrices, sv_BadPrices, mr_BadPrices, z_thirdparty, ⟨_, _, _, lk_BadPrices⟩, rfl, (let ⟨t, ht⟩ := cf_BadPrices; ⟨_, _, _, _, _, t, cd_BadPrices, ht, by rw [beq_self_eq_true]⟩), ⟨_, _, _, cc_BadPricesh⟩, z_super, rfl, rfl, rfl, rfl, z_top⟩ : ExI _ _ _ _ _ _ _ _ _ _) ci_BadPrices rfl (by decide) (fr_of (by decide +kernel)) (by decide +kernel) rfl rfl nf_BadPrices (by decide) (by decide) (by decide) (by decide) (fun L => rfl) (fun L => rfl)
  have e0 : ∀ base, ExJ l.prog w K mg base "BadPrices" C_BadPrices "part" := fun base => ⟨gm, T_BadPrices, fI_BadPrices, _, ["self", "part"], in_BadPrices, ti_BadPrices, eF base, Binds.all fun us hl => match us, hl with | [_, _], _ => rfl⟩
  exact fun base => ⟨e0 base, fI_BadPrices, (PySem.W.ksFn "__init__" "BadPrices.__init__" (defArgs i_BadPrices) (defBody i_BadPrices) (defScope i_BadPrices) .none kV_BadPrices dc_BadPrices pm_BadPrices an_BadPrices (.ref cda_BadPrices) ct_BadPrices cc_BadPrices), ["self", "part"], in_BadPrices, ti_BadPrices, eF base, kb_BadPrices⟩
abbrev i_NotNow : Stmt := subS (top 29) 0
theorem kb_NotNow {kV dc pm ct : Value} {an : Option Addr} {cda cc : Addr} : ∀ me u : Value, bindArgs (PySem.W.ksFn "__init__" "NotNow.__init__" (defArgs i_NotNow) (defBody i_NotNow) (defScope i_NotNow) .none kV dc pm an (.ref cda) ct cc) ⟨[me], [("word", u)]⟩ = pure (((["self", "word"] : List Str)).zip [me, u]) := fun me u => rfl
theorem exj_NotNow {l : PySem.W.OpenLaw} {w : World} {K : PySem.W.Frag} {mg : Str → Option Value} {C_NotNow : Addr} (gm : mg "NotNow" = some (.ref C_NotNow)) (hx : HXof l.prog.main.file K C_NotNow i_NotNow "NotNow.__init__" "word")
    (z_thirdparty : PySem.W.nsIn K cStatics "thirdparty.any" = some none) (z_super : PySem.W.nsIn K mainGlobals "super" = some none) (z_top : (l.prog.main.scope.names.lookup ("super" : Str)).isSome = false) : ∀ base, ExJK l.prog w K mg base "NotNow" C_NotNow "word" := by
  obtain ⟨nm_NotNow, qn_NotNow, N_NotNow, fI_NotNow, cda_NotNow, cc_NotNow, bs_NotNow, bm_NotNow, sn_NotNow, su0_NotNow, ab_NotNow, col_NotNow, dd_NotNow, m0_NotNow, m1_NotNow, m2_NotNow, m3_NotNow, m5_NotNow, oc_NotNow, kV_NotNow, dc_NotNow, pm_NotNow, ct_NotNow, od_NotNow, an_NotNow, osl_NotNow, ccl_NotNow, cdd_NotNow, vs_NotNow, ccs_NotNow, cl_NotNow, cld_NotNow, csl_NotNow, x_NotNow, rv_NotNow, sa_NotNow, s_NotNow, t_NotNow, kk_NotNow, in_NotNow, ti_NotNow, su_NotNow, sv_NotNow, mr_NotNow, lk_NotNow, cd_NotNow, cf_NotNow, ci_NotNow, cc_NotNowh, nf_NotNow⟩ := hx
  have T_NotNow : OexC K C_NotNow := ⟨⟨_, _, _, _, _, _, _, _, _, _, _, _, _, _, _, x_NotNow, rv_NotNow⟩, sa_NotNow, s_NotNow, t_NotNow, kk_NotNow⟩
  have eF : ∀ base, FnOk l.prog w K mg base C8.CX0 1 fI_NotNow (PySem.W.ksFn "__init__" "NotNow.__init__" (defArgs i_NotNow) (defBody i_NotNow) (defScope i_NotNow) .none kV_NotNow dc_NotNow pm_NotNow an_NotNow (.ref cda_NotNow) ct_NotNow cc_NotNow) ["self", "word"] (spIni C_NotNow "word") := fun base =>
    ini_ok (k := 0) (q := "NotNow.__init__") rfl rfl (⟨T_NotNow, su_NotNow, sv_NotNow, mr_NotNow, z_thirdparty, ⟨_, _, _, lk_NotNow⟩, rfl, (let ⟨t, ht⟩ := cf_NotNow; ⟨_, _, _, _, _, t, cd_NotNow, ht, by rw [beq_self_eq_true]⟩), ⟨_, _, _, cc_NotNowh⟩, z_super, rfl, rfl, rfl, rfl, z_top⟩ : ExI _ _ _ _ _ _ _ _ _ _) ci_NotNow rfl (by decide) (fr_of (by decide +kernel)) (by decide +kernel) rfl rfl nf_NotNow (by decide) (by decide) (by decide) (by decide) (fun L => rfl) (fun L => rfl)
  have e0 : ∀ base, ExJ l.prog w K mg base "NotNow" C_NotNow "word" := fun base => ⟨gm, T_NotNow, fI_NotNow, _, ["self", "word"], in_NotNow, ti_NotNow, eF base, Binds.all fun us hl => match us, hl with | [_, _], _ => rfl⟩
  exact fun base => ⟨e0 base, fI_NotNow, (PySem.W.ksFn "__init__" "NotNow.__init__" (defArgs i_NotNow) (defBody i_NotNow) (defScope i_NotNow) .none kV_NotNow dc_NotNow pm_NotNow an_NotNow (.ref cda_NotNow) ct_NotNow cc_NotNow), ["self", "word"], in_NotNow, ti_NotNow, eF base, kb_NotNow⟩
abbrev i_TooMany : Stmt := subS (top 27) 0
theorem kb_TooMany {kV dc pm ct : Value} {an : Option Addr} {cda cc : Addr} : ∀ me u : Value, bindArgs (PySem.W.ksFn "__init__" "TooMany.__init__" (defArgs i_TooMany) (defBody i_TooMany) (defScope i_TooMany) .none kV dc pm an (.ref cda) ct cc) ⟨[me], [("most", u)]⟩ = pure (((["self", "most"] : List Str)).zip [me, u]) := fun me u => rfl
theorem exj_TooMany {l : PySem.W.OpenLaw} {w : World} {K : PySem.W.Frag} {mg : Str → Option Value} {C_TooMany : Addr} (gm : mg "TooMany" = some (.ref C_TooMany)) (hx : HXof l.prog.main.file K C_TooMany i_TooMany "TooMany.__init__" "most")
    (z_thirdparty : PySem.W.nsIn K cStatics "thirdparty.any" = some none) (z_super : PySem.W.nsIn K mainGlobals "super" = some none) (z_top : (l.prog.main.scope.names.lookup ("super" : Str)).isSome = false) : ∀ base, ExJK l.prog w K mg base "TooMany" C_TooMany "most" := by
  obtain ⟨nm_TooMany, qn_TooMany, N_TooMany, fI_TooMany, cda_TooMany, cc_TooMany, bs_TooMany, bm_TooMany, sn_TooMany, su0_TooMany, ab_TooMany, col_TooMany, dd_TooMany, m0_TooMany, m1_TooMany, m2_TooMany, m3_TooMany, m5_TooMany, oc_TooMany, kV_TooMany, dc_TooMany, pm_TooMany, ct_TooMany, od_TooMany, an_TooMany, osl_TooMany, ccl_TooMany, cdd_TooMany, vs_TooMany, ccs_TooMany, cl_TooMany, cld_TooMany, csl_TooMany, x_TooMany, rv_TooMany, sa_TooMany, s_TooMany, t_TooMany, kk_TooMany, in_TooMany, ti_TooMany, su_TooMany, sv_TooMany, mr_TooMany, lk_TooMany, cd_TooMany, cf_TooMany, ci_TooMany, cc_TooManyh, nf_TooMany⟩ := hx
  have T_TooMany : OexC K C_TooMany := ⟨⟨_, _, _, _, _, _, _, _, _, _, _, _, _, _, _, x_TooMany, rv_TooMany⟩, sa_TooMany, s_TooMany, t_TooMany, kk_TooMany⟩
  have eF : ∀ base, FnOk l.prog w K mg base C8.CX0 1 fI_TooMany (PySem.W.ksFn "__init__" "TooMany.__init__" (defArgs i_TooMany) (defBody i_TooMany) (defScope i_TooMany) .none kV_TooMany dc_TooMany pm_TooMany an_TooMany (.ref cda_TooMany) ct_TooMany cc_TooMany) ["self", "most"] (spIni C_TooMany "most") := fun base =>
    ini_ok (k := 0) (q := "TooMany.__init__") rfl rfl (⟨T_TooMany, su_TooMany, sv_TooMany, mr_TooMany, z_thirdparty, ⟨_, _, _, lk_TooMany⟩, rfl, (let ⟨t, ht⟩ := cf_TooMany; ⟨_, _, _, _, _, t, cd_TooMany, ht, by rw [beq_self_eq_true]⟩), ⟨_, _, _, cc_TooManyh⟩, z_super, rfl, rfl, rfl, rfl, z_top⟩ : ExI _ _ _ _ _ _ _ _ _ _) ci_TooMany rfl (by decide) (fr_of (by decide +kernel)) (by decide +kernel) rfl rfl nf_TooMany (by decide) (by decide) (by decide) (by decide) (fun L => rfl) (fun L => rfl)
  have e0 : ∀ base, ExJ l.prog w K mg base "TooMany" C_TooMany "most" := fun base => ⟨gm, T_TooMany, fI_TooMany, _, ["self", "most"], in_TooMany, ti_TooMany, eF base, Binds.all fun us hl => match us, hl with | [_, _], _ => rfl⟩
  exact fun base => ⟨e0 base, fI_TooMany, (PySem.W.ksFn "__init__" "TooMany.__init__" (defArgs i_TooMany) (defBody i_TooMany) (defScope i_TooMany) .none kV_TooMany dc_TooMany pm_TooMany an_TooMany (.ref cda_TooMany) ct_TooMany cc_TooMany), ["self", "most"], in_TooMany, ti_TooMany, eF base, kb_TooMany⟩
abbrev i_BadReceipts : Stmt := subS (top 26) 0
theorem kb_BadReceipts {kV dc pm ct : Value} {an : Option Addr} {cda cc : Addr} : ∀ me u : Value, bindArgs (PySem.W.ksFn "__init__" "BadReceipts.__init__" (defArgs i_BadReceipts) (defBody i_BadReceipts) (defScope i_BadReceipts) .none kV dc pm an (.ref cda) ct cc) ⟨[me], [("at", u)]⟩ = pure (((["self", "at"] : List Str)).zip [me, u]) := fun me u => rfl
theorem exj_BadReceipts {l : PySem.W.OpenLaw} {w : World} {K : PySem.W.Frag} {mg : Str → Option Value} {C_BadReceipts : Addr} (gm : mg "BadReceipts" = some (.ref C_BadReceipts)) (hx : HXof l.prog.main.file K C_BadReceipts i_BadReceipts "BadReceipts.__init__" "at")
    (z_thirdparty : PySem.W.nsIn K cStatics "thirdparty.any" = some none) (z_super : PySem.W.nsIn K mainGlobals "super" = some none) (z_top : (l.prog.main.scope.names.lookup ("super" : Str)).isSome = false) : ∀ base, ExJK l.prog w K mg base "BadReceipts" C_BadReceipts "at" := by
  obtain ⟨nm_BadReceipts, qn_BadReceipts, N_BadReceipts, fI_BadReceipts, cda_BadReceipts, cc_BadReceipts, bs_BadReceipts, bm_BadReceipts, sn_BadReceipts, su0_BadReceipts, ab_BadReceipts, col_BadReceipts, dd_BadReceipts, m0_BadReceipts, m1_BadReceipts, m2_BadReceipts, m3_BadReceipts, m5_BadReceipts, oc_BadReceipts, kV_BadReceipts, dc_BadReceipts, pm_BadReceipts, ct_BadReceipts, od_BadReceipts, an_BadReceipts, osl_BadReceipts, ccl_BadReceipts, cdd_BadReceipts, vs_BadReceipts, ccs_BadReceipts, cl_BadReceipts, cld_BadReceipts, csl_BadReceipts, x_BadReceipts, rv_BadReceipts, sa_BadReceipts, s_BadReceipts, t_BadReceipts, kk_BadReceipts, in_BadReceipts, ti_BadReceipts, su_BadReceipts, sv_BadReceipts, mr_BadReceipts, lk_BadReceipts, cd_BadReceipts, cf_BadReceipts, ci_BadReceipts, cc_BadReceiptsh, nf_BadReceipts⟩ := hx
  have T_BadReceipts : OexC K C_BadReceipts := ⟨⟨_, _, _, _, _, _, _, _, _, _, _, _, _, _, _, x_BadReceipts, rv_BadReceipts⟩, sa_BadReceipts, s_BadReceipts, t_BadReceipts, kk_BadReceipts⟩
  have eF : ∀ base, FnOk l.prog w K mg base C8.CX0 1 fI_BadReceipts (PySem.W.ksFn "__init__" "BadReceipts.__init__" (defArgs i_BadReceipts) (defBody i_BadReceipts) (defScope i_BadReceipts) .none kV_BadReceipts dc_BadReceipts pm_BadReceipts an_BadReceipts (.ref cda_BadReceipts) ct_BadReceipts cc_BadReceipts) ["self", "at"] (spIni C_BadReceipts "at") := fun base =>
    ini_ok (k := 0) (q := "BadReceipts.__init__") rfl rfl (⟨T_BadReceipts, su_BadReceipts, sv_BadReceipts, mr_BadReceipts, z_thirdparty, ⟨_, _, _, lk_BadReceipts⟩, rfl, (let ⟨t, ht⟩ := cf_BadReceipts; ⟨_, _, _, _, _, t, cd_BadReceipts, ht, by rw [beq_self_eq_true]⟩), ⟨_, _, _, cc_BadReceiptsh⟩, z_super, rfl, rfl, rfl, rfl, z_top⟩ : ExI _ _ _ _ _ _ _ _ _ _) ci_BadReceipts rfl (by decide) (fr_of (by decide +kernel)) (by decide +kernel) rfl rfl nf_BadReceipts (by decide) (by decide) (by decide) (by decide) (fun L => rfl) (fun L => rfl)
  have e0 : ∀ base, ExJ l.prog w K mg base "BadReceipts" C_BadReceipts "at" := fun base => ⟨gm, T_BadReceipts, fI_BadReceipts, _, ["self", "at"], in_BadReceipts, ti_BadReceipts, eF base, Binds.all fun us hl => match us, hl with | [_, _], _ => rfl⟩
  exact fun base => ⟨e0 base, fI_BadReceipts, (PySem.W.ksFn "__init__" "BadReceipts.__init__" (defArgs i_BadReceipts) (defBody i_BadReceipts) (defScope i_BadReceipts) .none kV_BadReceipts dc_BadReceipts pm_BadReceipts an_BadReceipts (.ref cda_BadReceipts) ct_BadReceipts cc_BadReceipts), ["self", "at"], in_BadReceipts, ti_BadReceipts, eF base, kb_BadReceipts⟩
abbrev i_BadForecast : Stmt := subS (top 24) 0
theorem kb_BadForecast {kV dc pm ct : Value} {an : Option Addr} {cda cc : Addr} : ∀ me u : Value, bindArgs (PySem.W.ksFn "__init__" "BadForecast.__init__" (defArgs i_BadForecast) (defBody i_BadForecast) (defScope i_BadForecast) .none kV dc pm an (.ref cda) ct cc) ⟨[me], [("part", u)]⟩ = pure (((["self", "part"] : List Str)).zip [me, u]) := fun me u => rfl
theorem exj_BadForecast {l : PySem.W.OpenLaw} {w : World} {K : PySem.W.Frag} {mg : Str → Option Value} {C_BadForecast : Addr} (gm : mg "BadForecast" = some (.ref C_BadForecast)) (hx : HXof l.prog.main.file K C_BadForecast i_BadForecast "BadForecast.__init__" "part")
    (z_thirdparty : PySem.W.nsIn K cStatics "thirdparty.any" = some none) (z_super : PySem.W.nsIn K mainGlobals "super" = some none) (z_top : (l.prog.main.scope.names.lookup ("super" : Str)).isSome = false) : ∀ base, ExJK l.prog w K mg base "BadForecast" C_BadForecast "part" := by
  obtain ⟨nm_BadForecast, qn_BadForecast, N_BadForecast, fI_BadForecast, cda_BadForecast, cc_BadForecast, bs_BadForecast, bm_BadForecast, sn_BadForecast, su0_BadForecast, ab_BadForecast, col_BadForecast, dd_BadForecast, m0_BadForecast, m1_BadForecast, m2_BadForecast, m3_BadForecast, m5_BadForecast, oc_BadForecast, kV_BadForecast, dc_BadForecast, pm_BadForecast, ct_BadForecast, od_BadForecast, an_BadForecast, osl_BadForecast, ccl_BadForecast, cdd_BadForecast, vs_BadForecast, ccs_BadForecast, cl_BadForecast, cld_BadForecast, csl_BadForecast, x_BadForecast, rv_BadForecast, sa_BadForecast, s_BadForecast, t_BadForecast, kk_BadForecast, in_BadForecast, ti_BadForecast, su_BadForecast, sv_BadForecast, mr_BadForecast, lk_BadForecast, cd_BadForecast, cf_BadForecast, ci_BadForecast, cc_BadForecasth, nf_BadForecast⟩ := hx
  have T_BadForecast : OexC K C_BadForecast := ⟨⟨_, _, _, _, _, _, _, _, _, _, _, _, _, _, _, x_BadForecast, rv_BadForecast⟩, sa_BadForecast, s_BadForecast, t_BadForecast, kk_BadForecast⟩
  have eF : ∀ base, FnOk l.prog w K mg base C8.CX0 1 fI_BadForecast (PySem.W.ksFn "__init__" "BadForecast.__init__" (defArgs i_BadForecast) (defBody i_BadForecast) (defScope i_BadForecast) .none kV_BadForecast dc_BadForecast pm_BadForecast an_BadForecast (.ref cda_BadForecast) ct_BadForecast cc_BadForecast) ["self", "part"] (spIni C_BadForecast "part") := fun base =>
    ini_ok (k := 0) (q := "BadForecast.__init__") rfl rfl (⟨T_BadForecast, su_BadForecast, sv_BadForecast, mr_BadForecast, z_thirdparty, ⟨_, _, _, lk_BadForecast⟩, rfl, (let ⟨t, ht⟩ := cf_BadForecast; ⟨_, _, _, _, _, t, cd_BadForecast, ht, by rw [beq_self_eq_true]⟩), ⟨_, _, _, cc_BadForecasth⟩, z_super, rfl, rfl, rfl, rfl, z_top⟩ : ExI _ _ _ _ _ _ _ _ _ _) ci_BadForecast rfl (by decide) (fr_of (by decide +kernel)) (by decide +kernel) rfl rfl nf_BadForecast (by decide) (by decide) (by decide) (by decide) (fun L => rfl) (fun L => rfl)
  have e0 : ∀ base, ExJ l.prog w K mg base "BadForecast" C_BadForecast "part" := fun base => ⟨gm, T_BadForecast, fI_BadForecast, _, ["self", "part"], in_BadForecast, ti_BadForecast, eF base, Binds.all fun us hl => match us, hl with | [_, _], _ => rfl⟩
  exact fun base => ⟨e0 base, fI_BadForecast, (PySem.W.ksFn "__init__" "BadForecast.__init__" (defArgs i_BadForecast) (defBody i_BadForecast) (defScope i_BadForecast) .none kV_BadForecast dc_BadForecast pm_BadForecast an_BadForecast (.ref cda_BadForecast) ct_BadForecast cc_BadForecast), ["self", "part"], in_BadForecast, ti_BadForecast, eF base, kb_BadForecast⟩
abbrev i_BadTurns : Stmt := subS (top 38) 0
theorem kb_BadTurns {kV dc pm ct : Value} {an : Option Addr} {cda cc : Addr} : ∀ me u : Value, bindArgs (PySem.W.ksFn "__init__" "BadTurns.__init__" (defArgs i_BadTurns) (defBody i_BadTurns) (defScope i_BadTurns) .none kV dc pm an (.ref cda) ct cc) ⟨[me], [("part", u)]⟩ = pure (((["self", "part"] : List Str)).zip [me, u]) := fun me u => rfl
theorem exj_BadTurns {l : PySem.W.OpenLaw} {w : World} {K : PySem.W.Frag} {mg : Str → Option Value} {C_BadTurns : Addr} (gm : mg "BadTurns" = some (.ref C_BadTurns)) (hx : HXof l.prog.main.file K C_BadTurns i_BadTurns "BadTurns.__init__" "part")
    (z_thirdparty : PySem.W.nsIn K cStatics "thirdparty.any" = some none) (z_super : PySem.W.nsIn K mainGlobals "super" = some none) (z_top : (l.prog.main.scope.names.lookup ("super" : Str)).isSome = false) : ∀ base, ExJK l.prog w K mg base "BadTurns" C_BadTurns "part" := by
  obtain ⟨nm_BadTurns, qn_BadTurns, N_BadTurns, fI_BadTurns, cda_BadTurns, cc_BadTurns, bs_BadTurns, bm_BadTurns, sn_BadTurns, su0_BadTurns, ab_BadTurns, col_BadTurns, dd_BadTurns, m0_BadTurns, m1_BadTurns, m2_BadTurns, m3_BadTurns, m5_BadTurns, oc_BadTurns, kV_BadTurns, dc_BadTurns, pm_BadTurns, ct_BadTurns, od_BadTurns, an_BadTurns, osl_BadTurns, ccl_BadTurns, cdd_BadTurns, vs_BadTurns, ccs_BadTurns, cl_BadTurns, cld_BadTurns, csl_BadTurns, x_BadTurns, rv_BadTurns, sa_BadTurns, s_BadTurns, t_BadTurns, kk_BadTurns, in_BadTurns, ti_BadTurns, su_BadTurns, sv_BadTurns, mr_BadTurns, lk_BadTurns, cd_BadTurns, cf_BadTurns, ci_BadTurns, cc_BadTurnsh, nf_BadTurns⟩ := hx
  have T_BadTurns : OexC K C_BadTurns := ⟨⟨_, _, _, _, _, _, _, _, _, _, _, _, _, _, _, x_BadTurns, rv_BadTurns⟩, sa_BadTurns, s_BadTurns, t_BadTurns, kk_BadTurns⟩
  have eF : ∀ base, FnOk l.prog w K mg base C8.CX0 1 fI_BadTurns (PySem.W.ksFn "__init__" "BadTurns.__init__" (defArgs i_BadTurns) (defBody i_BadTurns) (defScope i_BadTurns) .none kV_BadTurns dc_BadTurns pm_BadTurns an_BadTurns (.ref cda_BadTurns) ct_BadTurns cc_BadTurns) ["self", "part"] (spIni C_BadTurns "part") := fun base =>
    ini_ok (k := 0) (q := "BadTurns.__init__") rfl rfl (⟨T_BadTurns, su_BadTurns, sv_BadTurns, mr_BadTurns, z_thirdparty, ⟨_, _, _, lk_BadTurns⟩, rfl, (let ⟨t, ht⟩ := cf_BadTurns; ⟨_, _, _, _, _, t, cd_BadTurns, ht, by rw [beq_self_eq_true]⟩), ⟨_, _, _, cc_BadTurnsh⟩, z_super, rfl, rfl, rfl, rfl, z_top⟩ : ExI _ _ _ _ _ _ _ _ _ _) ci_BadTurns rfl (by decide) (fr_of (by decide +kernel)) (by decide +kernel) rfl rfl nf_BadTurns (by decide) (by decide) (by decide) (by decide) (fun L => rfl) (fun L => rfl)
  have e0 : ∀ base, ExJ l.prog w K mg base "BadTurns" C_BadTurns "part" := fun base => ⟨gm, T_BadTurns, fI_BadTurns, _, ["self", "part"], in_BadTurns, ti_BadTurns, eF base, Binds.all fun us hl => match us, hl with | [_, _], _ => rfl⟩
  exact fun base => ⟨e0 base, fI_BadTurns, (PySem.W.ksFn "__init__" "BadTurns.__init__" (defArgs i_BadTurns) (defBody i_BadTurns) (defScope i_BadTurns) .none kV_BadTurns dc_BadTurns pm_BadTurns an_BadTurns (.ref cda_BadTurns) ct_BadTurns cc_BadTurns), ["self", "part"], in_BadTurns, ti_BadTurns, eF base, kb_BadTurns⟩
abbrev i_BadMarks : Stmt := subS (top 34) 0
theorem kb_BadMarks {kV dc pm ct : Value} {an : Option Addr} {cda cc : Addr} : ∀ me u : Value, bindArgs (PySem.W.ksFn "__init__" "BadMarks.__init__" (defArgs i_BadMarks) (defBody i_BadMarks) (defScope i_BadMarks) .none kV dc pm an (.ref cda) ct cc) ⟨[me], [("at", u)]⟩ = pure (((["self", "at"] : List Str)).zip [me, u]) := fun me u => rfl
theorem exj_BadMarks {l : PySem.W.OpenLaw} {w : World} {K : PySem.W.Frag} {mg : Str → Option Value} {C_BadMarks : Addr} (gm : mg "BadMarks" = some (.ref C_BadMarks)) (hx : HXof l.prog.main.file K C_BadMarks i_BadMarks "BadMarks.__init__" "at")
    (z_thirdparty : PySem.W.nsIn K cStatics "thirdparty.any" = some none) (z_super : PySem.W.nsIn K mainGlobals "super" = some none) (z_top : (l.prog.main.scope.names.lookup ("super" : Str)).isSome = false) : ∀ base, ExJK l.prog w K mg base "BadMarks" C_BadMarks "at" := by
  obtain ⟨nm_BadMarks, qn_BadMarks, N_BadMarks, fI_BadMarks, cda_BadMarks, cc_BadMarks, bs_BadMarks, bm_BadMarks, sn_BadMarks, su0_BadMarks, ab_BadMarks, col_BadMarks, dd_BadMarks, m0_BadMarks, m1_BadMarks, m2_BadMarks, m3_BadMarks, m5_BadMarks, oc_BadMarks, kV_BadMarks, dc_BadMarks, pm_BadMarks, ct_BadMarks, od_BadMarks, an_BadMarks, osl_BadMarks, ccl_BadMarks, cdd_BadMarks, vs_BadMarks, ccs_BadMarks, cl_BadMarks, cld_BadMarks, csl_BadMarks, x_BadMarks, rv_BadMarks, sa_BadMarks, s_BadMarks, t_BadMarks, kk_BadMarks, in_BadMarks, ti_BadMarks, su_BadMarks, sv_BadMarks, mr_BadMarks, lk_BadMarks, cd_BadMarks, cf_BadMarks, ci_BadMarks, cc_BadMarksh, nf_BadMarks⟩ := hx
  have T_BadMarks : OexC K C_BadMarks := ⟨⟨_, _, _, _, _, _, _, _, _, _, _, _, _, _, _, x_BadMarks, rv_BadMarks⟩, sa_BadMarks, s_BadMarks, t_BadMarks, kk_BadMarks⟩
  have eF : ∀ base, FnOk l.prog w K mg base C8.CX0 1 fI_BadMarks (PySem.W.ksFn "__init__" "BadMarks.__init__" (defArgs i_BadMarks) (defBody i_BadMarks) (defScope i_BadMarks) .none kV_BadMarks dc_BadMarks pm_BadMarks an_BadMarks (.ref cda_BadMarks) ct_BadMarks cc_BadMarks) ["self", "at"] (spIni C_BadMarks "at") := fun base =>
    ini_ok (k := 0) (q := "BadMarks.__init__") rfl rfl (⟨T_BadMarks, su_BadMarks, sv_BadMarks, mr_BadMarks, z_thirdparty, ⟨_, _, _, lk_BadMarks⟩, rfl, (let ⟨t, ht⟩ := cf_BadMarks; ⟨_, _, _, _, _, t, cd_BadMarks, ht, by rw [beq_self_eq_true]⟩), ⟨_, _, _, cc_BadMarksh⟩, z_super, rfl, rfl, rfl, rfl, z_top⟩ : ExI _ _ _ _ _ _ _ _ _ _) ci_BadMarks rfl (by decide) (fr_of (by decide +kernel)) (by decide +kernel) rfl rfl nf_BadMarks (by decide) (by decide) (by decide) (by decide) (fun L => rfl) (fun L => rfl)
  have e0 : ∀ base, ExJ l.prog w K mg base "BadMarks" C_BadMarks "at" := fun base => ⟨gm, T_BadMarks, fI_BadMarks, _, ["self", "at"], in_BadMarks, ti_BadMarks, eF base, Binds.all fun us hl => match us, hl with | [_, _], _ => rfl⟩
  exact fun base => ⟨e0 base, fI_BadMarks, (PySem.W.ksFn "__init__" "BadMarks.__init__" (defArgs i_BadMarks) (defBody i_BadMarks) (defScope i_BadMarks) .none kV_BadMarks dc_BadMarks pm_BadMarks an_BadMarks (.ref cda_BadMarks) ct_BadMarks cc_BadMarks), ["self", "at"], in_BadMarks, ti_BadMarks, eF base, kb_BadMarks⟩
abbrev i_BadText : Stmt := subS (top 33) 0
theorem kb_BadText {kV dc pm ct : Value} {an : Option Addr} {cda cc : Addr} : ∀ me u : Value, bindArgs (PySem.W.ksFn "__init__" "BadText.__init__" (defArgs i_BadText) (defBody i_BadText) (defScope i_BadText) .none kV dc pm an (.ref cda) ct cc) ⟨[me], [("line", u)]⟩ = pure (((["self", "line"] : List Str)).zip [me, u]) := fun me u => rfl
theorem exj_BadText {l : PySem.W.OpenLaw} {w : World} {K : PySem.W.Frag} {mg : Str → Option Value} {C_BadText : Addr} (gm : mg "BadText" = some (.ref C_BadText)) (hx : HXof l.prog.main.file K C_BadText i_BadText "BadText.__init__" "line")
    (z_thirdparty : PySem.W.nsIn K cStatics "thirdparty.any" = some none) (z_super : PySem.W.nsIn K mainGlobals "super" = some none) (z_top : (l.prog.main.scope.names.lookup ("super" : Str)).isSome = false) : ∀ base, ExJK l.prog w K mg base "BadText" C_BadText "line" := by
  obtain ⟨nm_BadText, qn_BadText, N_BadText, fI_BadText, cda_BadText, cc_BadText, bs_BadText, bm_BadText, sn_BadText, su0_BadText, ab_BadText, col_BadText, dd_BadText, m0_BadText, m1_BadText, m2_BadText, m3_BadText, m5_BadText, oc_BadText, kV_BadText, dc_BadText, pm_BadText, ct_BadText, od_BadText, an_BadText, osl_BadText, ccl_BadText, cdd_BadText, vs_BadText, ccs_BadText, cl_BadText, cld_BadText, csl_BadText, x_BadText, rv_BadText, sa_BadText, s_BadText, t_BadText, kk_BadText, in_BadText, ti_BadText, su_BadText, sv_BadText, mr_BadText, lk_BadText, cd_BadText, cf_BadText, ci_BadText, cc_BadTexth, nf_BadText⟩ := hx
  have T_BadText : OexC K C_BadText := ⟨⟨_, _, _, _, _, _, _, _, _, _, _, _, _, _, _, x_BadText, rv_BadText⟩, sa_BadText, s_BadText, t_BadText, kk_BadText⟩
  have eF : ∀ base, FnOk l.prog w K mg base C8.CX0 1 fI_BadText (PySem.W.ksFn "__init__" "BadText.__init__" (defArgs i_BadText) (defBody i_BadText) (defScope i_BadText) .none kV_BadText dc_BadText pm_BadText an_BadText (.ref cda_BadText) ct_BadText cc_BadText) ["self", "line"] (spIni C_BadText "line") := fun base =>
    ini_ok (k := 0) (q := "BadText.__init__") rfl rfl (⟨T_BadText, su_BadText, sv_BadText, mr_BadText, z_thirdparty, ⟨_, _, _, lk_BadText⟩, rfl, (let ⟨t, ht⟩ := cf_BadText; ⟨_, _, _, _, _, t, cd_BadText, ht, by rw [beq_self_eq_true]⟩), ⟨_, _, _, cc_BadTexth⟩, z_super, rfl, rfl, rfl, rfl, z_top⟩ : ExI _ _ _ _ _ _ _ _ _ _) ci_BadText rfl (by decide) (fr_of (by decide +kernel)) (by decide +kernel) rfl rfl nf_BadText (by decide) (by decide) (by decide) (by decide) (fun L => rfl) (fun L => rfl)
  have e0 : ∀ base, ExJ l.prog w K mg base "BadText" C_BadText "line" := fun base => ⟨gm, T_BadText, fI_BadText, _, ["self", "line"], in_BadText, ti_BadText, eF base, Binds.all fun us hl => match us, hl with | [_, _], _ => rfl⟩
  exact fun base => ⟨e0 base, fI_BadText, (PySem.W.ksFn "__init__" "BadText.__init__" (defArgs i_BadText) (defBody i_BadText) (defScope i_BadText) .none kV_BadText dc_BadText pm_BadText an_BadText (.ref cda_BadText) ct_BadText cc_BadText), ["self", "line"], in_BadText, ti_BadText, eF base, kb_BadText⟩
abbrev i_BadJournal : Stmt := subS (top 32) 0
theorem kb_BadJournal {kV dc pm ct : Value} {an : Option Addr} {cda cc : Addr} : ∀ me u : Value, bindArgs (PySem.W.ksFn "__init__" "BadJournal.__init__" (defArgs i_BadJournal) (defBody i_BadJournal) (defScope i_BadJournal) .none kV dc pm an (.ref cda) ct cc) ⟨[me], [("at", u)]⟩ = pure (((["self", "at"] : List Str)).zip [me, u]) := fun me u => rfl
theorem exj_BadJournal {l : PySem.W.OpenLaw} {w : World} {K : PySem.W.Frag} {mg : Str → Option Value} {C_BadJournal : Addr} (gm : mg "BadJournal" = some (.ref C_BadJournal)) (hx : HXof l.prog.main.file K C_BadJournal i_BadJournal "BadJournal.__init__" "at")
    (z_thirdparty : PySem.W.nsIn K cStatics "thirdparty.any" = some none) (z_super : PySem.W.nsIn K mainGlobals "super" = some none) (z_top : (l.prog.main.scope.names.lookup ("super" : Str)).isSome = false) : ∀ base, ExJK l.prog w K mg base "BadJournal" C_BadJournal "at" := by
  obtain ⟨nm_BadJournal, qn_BadJournal, N_BadJournal, fI_BadJournal, cda_BadJournal, cc_BadJournal, bs_BadJournal, bm_BadJournal, sn_BadJournal, su0_BadJournal, ab_BadJournal, col_BadJournal, dd_BadJournal, m0_BadJournal, m1_BadJournal, m2_BadJournal, m3_BadJournal, m5_BadJournal, oc_BadJournal, kV_BadJournal, dc_BadJournal, pm_BadJournal, ct_BadJournal, od_BadJournal, an_BadJournal, osl_BadJournal, ccl_BadJournal, cdd_BadJournal, vs_BadJournal, ccs_BadJournal, cl_BadJournal, cld_BadJournal, csl_BadJournal, x_BadJournal, rv_BadJournal, sa_BadJournal, s_BadJournal, t_BadJournal, kk_BadJournal, in_BadJournal, ti_BadJournal, su_BadJournal, sv_BadJournal, mr_BadJournal, lk_BadJournal, cd_BadJournal, cf_BadJournal, ci_BadJournal, cc_BadJournalh, nf_BadJournal⟩ := hx
  have T_BadJournal : OexC K C_BadJournal := ⟨⟨_, _, _, _, _, _, _, _, _, _, _, _, _, _, _, x_BadJournal, rv_BadJournal⟩, sa_BadJournal, s_BadJournal, t_BadJournal, kk_BadJournal⟩
  have eF : ∀ base, FnOk l.prog w K mg base C8.CX0 1 fI_BadJournal (PySem.W.ksFn "__init__" "BadJournal.__init__" (defArgs i_BadJournal) (defBody i_BadJournal) (defScope i_BadJournal) .none kV_BadJournal dc_BadJournal pm_BadJournal an_BadJournal (.ref cda_BadJournal) ct_BadJournal cc_BadJournal) ["self", "at"] (spIni C_BadJournal "at") := fun base =>
    ini_ok (k := 0) (q := "BadJournal.__init__") rfl rfl (⟨T_BadJournal, su_BadJournal, sv_BadJournal, mr_BadJournal, z_thirdparty, ⟨_, _, _, lk_BadJournal⟩, rfl, (let ⟨t, ht⟩ := cf_BadJournal; ⟨_, _, _, _, _, t, cd_BadJournal, ht, by rw [beq_self_eq_true]⟩), ⟨_, _, _, cc_BadJournalh⟩, z_super, rfl, rfl, rfl, rfl, z_top⟩ : ExI _ _ _ _ _ _ _ _ _ _) ci_BadJournal rfl (by decide) (fr_of (by decide +kernel)) (by decide +kernel) rfl rfl nf_BadJournal (by decide) (by decide) (by decide) (by decide) (fun L => rfl) (fun L => rfl)
  have e0 : ∀ base, ExJ l.prog w K mg base "BadJournal" C_BadJournal "at" := fun base => ⟨gm, T_BadJournal, fI_BadJournal, _, ["self", "at"], in_BadJournal, ti_BadJournal, eF base, Binds.all fun us hl => match us, hl with | [_, _], _ => rfl⟩
  exact fun base => ⟨e0 base, fI_BadJournal, (PySem.W.ksFn "__init__" "BadJournal.__init__" (defArgs i_BadJournal) (defBody i_BadJournal) (defScope i_BadJournal) .none kV_BadJournal dc_BadJournal pm_BadJournal an_BadJournal (.ref cda_BadJournal) ct_BadJournal cc_BadJournal), ["self", "at"], in_BadJournal, ti_BadJournal, eF base, kb_BadJournal⟩
theorem all_mk {l : PySem.W.OpenLaw} {w : World} {K : PySem.W.Frag} {h : Heap} {mg : Str → Option Value} {fa : Addr} {f0 f1 f2 f3 f4 f5 f6 f7 fL : Addr} {C_NoPlans : Addr} {C_BadRule : Addr} {C_BadSide : Addr} {C_BadNumber : Addr} {C_BadPlan : Addr} {C_BadCell : Addr} {C_BadWords : Addr} {C_BadStretch : Addr} {C_BadLimit : Addr} {C_BadLot : Addr} {C_NotSo : Addr} {C_BadHouse : Addr} {C_NothingDone : Addr} {C_OtherThings : Addr} {C_BadStrategy : Addr} {C_NoTurns : Addr} {C_NoRounds : Addr} {C_BadThing : Addr} {C_BadBook : Addr} {C_BadRules : Addr} {C_BadPlans : Addr} {C_BadRows : Addr} {C_BadRow : Addr} {C_BadBox : Addr} {C_NoRule : Addr} {C_BadOffer : Addr} {C_BadFare : Addr} {C_NoRow : Addr} {C_BadPrices : Addr} {C_NotNow : Addr} {C_TooMany : Addr} {C_BadReceipts : Addr} {C_BadForecast : Addr} {C_BadTurns : Addr} {C_BadMarks : Addr} {C_BadText : Addr} {C_BadJournal : Addr} {C_CornerError : Addr} {od0 an0 : Option Addr} {sl0 : Array (Option Value)} {oc0 kV0 dc0 pm0 cd0 ct0 : Value} {od1 an1 : Option Addr} {sl1 : Array (Option Value)} {oc1 kV1 dc1 pm1 cd1 ct1 : Value} {od2 an2 : Option Addr} {sl2 : Array (Option Value)} {oc2 kV2 dc2 pm2 cd2 ct2 : Value} {od3 an3 : Option Addr} {sl3 : Array (Option Value)} {oc3 kV3 dc3 pm3 cd3 ct3 : Value} {od4 an4 : Option Addr} {sl4 : Array (Option Value)} {oc4 kV4 dc4 pm4 cd4 ct4 : Value} {od5 an5 : Option Addr} {sl5 : Array (Option Value)} {oc5 kV5 dc5 pm5 cd5 ct5 : Value} {od6 an6 : Option Addr} {sl6 : Array (Option Value)} {oc6 kV6 dc6 pm6 cd6 ct6 : Value} {od7 an7 : Option Addr} {sl7 : Array (Option Value)} {oc7 kV7 dc7 pm7 cd7 ct7 : Value} {odL anL : Option Addr} {slL : Array (Option Value)} {ocL kVL dcL pmL cdL ctL : Value} (X : K.In h) (G : h.Ns mainGlobals mg) (hroom : Room 5 callerA)
    (a0 : PySem.W.nsIn K mainGlobals "_law_begun" = some (some (.ref f0))) (l0 : K.lookup f0 = some ⟨oc0, od0, .func (PySem.W.fnOf "_law_begun" "_law_begun" (defArgs s__law_begun) (defBody s__law_begun) (defScope s__law_begun) .none kV0 dc0 pm0 an0 cd0 ct0), sl0⟩) (c0 : PySem.W.codeIn K cd0 "_law_begun" = true) (k0 : PySem.W.keepIn K (.ref f0) = true)
    (a1 : PySem.W.nsIn K mainGlobals "_law_draw" = some (some (.ref f1))) (l1 : K.lookup f1 = some ⟨oc1, od1, .func (PySem.W.fnOf "_law_draw" "_law_draw" (defArgs s__law_draw) (defBody s__law_draw) (defScope s__law_draw) .none kV1 dc1 pm1 an1 cd1 ct1), sl1⟩) (c1 : PySem.W.codeIn K cd1 "_law_draw" = true) (k1 : PySem.W.keepIn K (.ref f1) = true)
    (a2 : PySem.W.nsIn K mainGlobals "_law_pick" = some (some (.ref f2))) (l2 : K.lookup f2 = some ⟨oc2, od2, .func (PySem.W.fnOf "_law_pick" "_law_pick" (defArgs s__law_pick) (defBody s__law_pick) (defScope s__law_pick) .none kV2 dc2 pm2 an2 cd2 ct2), sl2⟩) (c2 : PySem.W.codeIn K cd2 "_law_pick" = true) (k2 : PySem.W.keepIn K (.ref f2) = true)
    (a3 : PySem.W.nsIn K mainGlobals "_law_odd" = some (some (.ref f3))) (l3 : K.lookup f3 = some ⟨oc3, od3, .func (PySem.W.fnOf "_law_odd" "_law_odd" (defArgs s__law_odd) (defBody s__law_odd) (defScope s__law_odd) .none kV3 dc3 pm3 an3 cd3 ct3), sl3⟩) (c3 : PySem.W.codeIn K cd3 "_law_odd" = true) (k3 : PySem.W.keepIn K (.ref f3) = true)
    (a4 : PySem.W.nsIn K mainGlobals "_law_plain" = some (some (.ref f4))) (l4 : K.lookup f4 = some ⟨oc4, od4, .func (PySem.W.fnOf "_law_plain" "_law_plain" (defArgs s__law_plain) (defBody s__law_plain) (defScope s__law_plain) .none kV4 dc4 pm4 an4 cd4 ct4), sl4⟩) (c4 : PySem.W.codeIn K cd4 "_law_plain" = true) (k4 : PySem.W.keepIn K (.ref f4) = true)
    (a5 : PySem.W.nsIn K mainGlobals "_law_told" = some (some (.ref f5))) (l5 : K.lookup f5 = some ⟨oc5, od5, .func (PySem.W.fnOf "_law_told" "_law_told" (defArgs s__law_told) (defBody s__law_told) (defScope s__law_told) .none kV5 dc5 pm5 an5 cd5 ct5), sl5⟩) (c5 : PySem.W.codeIn K cd5 "_law_told" = true) (k5 : PySem.W.keepIn K (.ref f5) = true)
    (a6 : PySem.W.nsIn K mainGlobals "_law_marks" = some (some (.ref f6))) (l6 : K.lookup f6 = some ⟨oc6, od6, .func (PySem.W.fnOf "_law_marks" "_law_marks" (defArgs s__law_marks) (defBody s__law_marks) (defScope s__law_marks) .none kV6 dc6 pm6 an6 cd6 ct6), sl6⟩) (c6 : PySem.W.codeIn K cd6 "_law_marks" = true) (k6 : PySem.W.keepIn K (.ref f6) = true)
    (a7 : PySem.W.nsIn K mainGlobals "_law_named" = some (some (.ref f7))) (l7 : K.lookup f7 = some ⟨oc7, od7, .func (PySem.W.fnOf "_law_named" "_law_named" (defArgs s__law_named) (defBody s__law_named) (defScope s__law_named) .none kV7 dc7 pm7 an7 cd7 ct7), sl7⟩) (c7 : PySem.W.codeIn K cd7 "_law_named" = true) (k7 : PySem.W.keepIn K (.ref f7) = true)
    (aL : PySem.W.nsIn K mainGlobals "law" = some (some (.ref fL))) (lL : K.lookup fL = some ⟨ocL, odL, .func (PySem.W.fnOf "law" "law" (defArgs s_law) (defBody s_law) (defScope s_law) .none kVL dcL pmL anL cdL ctL), slL⟩) (cL : PySem.W.codeIn K cdL "law" = true)
    (z0 : PySem.W.nsIn K mainGlobals "ValueError" = some none)
    (z1 : PySem.W.nsIn K mainGlobals "abs" = some none)
    (z2 : PySem.W.nsIn K mainGlobals "int" = some none)
    (z3 : PySem.W.nsIn K mainGlobals "isinstance" = some none)
    (z4 : PySem.W.nsIn K mainGlobals "len" = some none)
    (z5 : PySem.W.nsIn K mainGlobals "list" = some none)
    (z6 : PySem.W.nsIn K mainGlobals "min" = some none)
    (z7 : PySem.W.nsIn K mainGlobals "range" = some none)
    (z8 : PySem.W.nsIn K mainGlobals "repr" = some none)
    (z9 : PySem.W.nsIn K mainGlobals "sorted" = some none)
    (g_NoPlans : PySem.W.nsIn K mainGlobals "NoPlans" = some (some (.ref C_NoPlans)))
    (kk_NoPlans : PySem.W.keepIn K (.ref C_NoPlans) = true)
    (q_NoPlans : PySem.W.excIn K C_NoPlans [.type "ValueError", .type "Exception", .type "BaseException", .type "object"] "ValueError.__new__" = true)
    (s_NoPlans : PySem.W.subIn K (.ref C_NoPlans) (.type "BaseException") = some true)
    (t_NoPlans : PySem.W.typeIn K (.ref C_NoPlans) = some (.type "type"))
    (g_BadRule : PySem.W.nsIn K mainGlobals "BadRule" = some (some (.ref C_BadRule)))
    (kk_BadRule : PySem.W.keepIn K (.ref C_BadRule) = true)
    (q_BadRule : PySem.W.excIn K C_BadRule [.type "ValueError", .type "Exception", .type "BaseException", .type "object"] "ValueError.__new__" = true)
    (s_BadRule : PySem.W.subIn K (.ref C_BadRule) (.type "BaseException") = some true)
    (t_BadRule : PySem.W.typeIn K (.ref C_BadRule) = some (.type "type"))
    (g_BadSide : PySem.W.nsIn K mainGlobals "BadSide" = some (some (.ref C_BadSide)))
    (kk_BadSide : PySem.W.keepIn K (.ref C_BadSide) = true)
    (q_BadSide : PySem.W.excIn K C_BadSide [.type "ValueError", .type "Exception", .type "BaseException", .type "object"] "ValueError.__new__" = true)
    (s_BadSide : PySem.W.subIn K (.ref C_BadSide) (.type "BaseException") = some true)
    (t_BadSide : PySem.W.typeIn K (.ref C_BadSide) = some (.type "type"))
    (g_BadNumber : PySem.W.nsIn K mainGlobals "BadNumber" = some (some (.ref C_BadNumber)))
    (kk_BadNumber : PySem.W.keepIn K (.ref C_BadNumber) = true)
    (q_BadNumber : PySem.W.excIn K C_BadNumber [.type "ValueError", .type "Exception", .type "BaseException", .type "object"] "ValueError.__new__" = true)
    (s_BadNumber : PySem.W.subIn K (.ref C_BadNumber) (.type "BaseException") = some true)
    (t_BadNumber : PySem.W.typeIn K (.ref C_BadNumber) = some (.type "type"))
    (g_BadPlan : PySem.W.nsIn K mainGlobals "BadPlan" = some (some (.ref C_BadPlan)))
    (kk_BadPlan : PySem.W.keepIn K (.ref C_BadPlan) = true)
    (q_BadPlan : PySem.W.excIn K C_BadPlan [.type "ValueError", .type "Exception", .type "BaseException", .type "object"] "ValueError.__new__" = true)
    (s_BadPlan : PySem.W.subIn K (.ref C_BadPlan) (.type "BaseException") = some true)
    (t_BadPlan : PySem.W.typeIn K (.ref C_BadPlan) = some (.type "type"))
    (g_BadCell : PySem.W.nsIn K mainGlobals "BadCell" = some (some (.ref C_BadCell)))
    (kk_BadCell : PySem.W.keepIn K (.ref C_BadCell) = true)
    (q_BadCell : PySem.W.excIn K C_BadCell [.type "ValueError", .type "Exception", .type "BaseException", .type "object"] "ValueError.__new__" = true)
    (s_BadCell : PySem.W.subIn K (.ref C_BadCell) (.type "BaseException") = some true)
    (t_BadCell : PySem.W.typeIn K (.ref C_BadCell) = some (.type "type"))
    (g_BadWords : PySem.W.nsIn K mainGlobals "BadWords" = some (some (.ref C_BadWords)))
    (kk_BadWords : PySem.W.keepIn K (.ref C_BadWords) = true)
    (q_BadWords : PySem.W.excIn K C_BadWords [.type "ValueError", .type "Exception", .type "BaseException", .type "object"] "ValueError.__new__" = true)
    (s_BadWords : PySem.W.subIn K (.ref C_BadWords) (.type "BaseException") = some true)
    (t_BadWords : PySem.W.typeIn K (.ref C_BadWords) = some (.type "type"))
    (g_BadStretch : PySem.W.nsIn K mainGlobals "BadStretch" = some (some (.ref C_BadStretch)))
    (kk_BadStretch : PySem.W.keepIn K (.ref C_BadStretch) = true)
    (q_BadStretch : PySem.W.excIn K C_BadStretch [.type "ValueError", .type "Exception", .type "BaseException", .type "object"] "ValueError.__new__" = true)
    (s_BadStretch : PySem.W.subIn K (.ref C_BadStretch) (.type "BaseException") = some true)
    (t_BadStretch : PySem.W.typeIn K (.ref C_BadStretch) = some (.type "type"))
    (g_BadLimit : PySem.W.nsIn K mainGlobals "BadLimit" = some (some (.ref C_BadLimit)))
    (kk_BadLimit : PySem.W.keepIn K (.ref C_BadLimit) = true)
    (q_BadLimit : PySem.W.excIn K C_BadLimit [.type "ValueError", .type "Exception", .type "BaseException", .type "object"] "ValueError.__new__" = true)
    (s_BadLimit : PySem.W.subIn K (.ref C_BadLimit) (.type "BaseException") = some true)
    (t_BadLimit : PySem.W.typeIn K (.ref C_BadLimit) = some (.type "type"))
    (g_BadLot : PySem.W.nsIn K mainGlobals "BadLot" = some (some (.ref C_BadLot)))
    (kk_BadLot : PySem.W.keepIn K (.ref C_BadLot) = true)
    (q_BadLot : PySem.W.excIn K C_BadLot [.type "ValueError", .type "Exception", .type "BaseException", .type "object"] "ValueError.__new__" = true)
    (s_BadLot : PySem.W.subIn K (.ref C_BadLot) (.type "BaseException") = some true)
    (t_BadLot : PySem.W.typeIn K (.ref C_BadLot) = some (.type "type"))
    (g_NotSo : PySem.W.nsIn K mainGlobals "NotSo" = some (some (.ref C_NotSo)))
    (kk_NotSo : PySem.W.keepIn K (.ref C_NotSo) = true)
    (q_NotSo : PySem.W.excIn K C_NotSo [.type "ValueError", .type "Exception", .type "BaseException", .type "object"] "ValueError.__new__" = true)
    (s_NotSo : PySem.W.subIn K (.ref C_NotSo) (.type "BaseException") = some true)
    (t_NotSo : PySem.W.typeIn K (.ref C_NotSo) = some (.type "type"))
    (g_BadHouse : PySem.W.nsIn K mainGlobals "BadHouse" = some (some (.ref C_BadHouse)))
    (kk_BadHouse : PySem.W.keepIn K (.ref C_BadHouse) = true)
    (q_BadHouse : PySem.W.excIn K C_BadHouse [.type "ValueError", .type "Exception", .type "BaseException", .type "object"] "ValueError.__new__" = true)
    (s_BadHouse : PySem.W.subIn K (.ref C_BadHouse) (.type "BaseException") = some true)
    (t_BadHouse : PySem.W.typeIn K (.ref C_BadHouse) = some (.type "type"))
    (g_NothingDone : PySem.W.nsIn K mainGlobals "NothingDone" = some (some (.ref C_NothingDone)))
    (kk_NothingDone : PySem.W.keepIn K (.ref C_NothingDone) = true)
    (q_NothingDone : PySem.W.excIn K C_NothingDone [.type "ValueError", .type "Exception", .type "BaseException", .type "object"] "ValueError.__new__" = true)
    (s_NothingDone : PySem.W.subIn K (.ref C_NothingDone) (.type "BaseException") = some true)
    (t_NothingDone : PySem.W.typeIn K (.ref C_NothingDone) = some (.type "type"))
    (g_OtherThings : PySem.W.nsIn K mainGlobals "OtherThings" = some (some (.ref C_OtherThings)))
    (kk_OtherThings : PySem.W.keepIn K (.ref C_OtherThings) = true)
    (q_OtherThings : PySem.W.excIn K C_OtherThings [.type "ValueError", .type "Exception", .type "BaseException", .type "object"] "ValueError.__new__" = true)
    (s_OtherThings : PySem.W.subIn K (.ref C_OtherThings) (.type "BaseException") = some true)
    (t_OtherThings : PySem.W.typeIn K (.ref C_OtherThings) = some (.type "type"))
    (g_BadStrategy : PySem.W.nsIn K mainGlobals "BadStrategy" = some (some (.ref C_BadStrategy)))
    (kk_BadStrategy : PySem.W.keepIn K (.ref C_BadStrategy) = true)
    (q_BadStrategy : PySem.W.excIn K C_BadStrategy [.type "ValueError", .type "Exception", .type "BaseException", .type "object"] "ValueError.__new__" = true)
    (s_BadStrategy : PySem.W.subIn K (.ref C_BadStrategy) (.type "BaseException") = some true)
    (t_BadStrategy : PySem.W.typeIn K (.ref C_BadStrategy) = some (.type "type"))
    (g_NoTurns : PySem.W.nsIn K mainGlobals "NoTurns" = some (some (.ref C_NoTurns)))
    (kk_NoTurns : PySem.W.keepIn K (.ref C_NoTurns) = true)
    (q_NoTurns : PySem.W.excIn K C_NoTurns [.type "ValueError", .type "Exception", .type "BaseException", .type "object"] "ValueError.__new__" = true)
    (s_NoTurns : PySem.W.subIn K (.ref C_NoTurns) (.type "BaseException") = some true)
    (t_NoTurns : PySem.W.typeIn K (.ref C_NoTurns) = some (.type "type"))
    (g_NoRounds : PySem.W.nsIn K mainGlobals "NoRounds" = some (some (.ref C_NoRounds)))
    (kk_NoRounds : PySem.W.keepIn K (.ref C_NoRounds) = true)
    (q_NoRounds : PySem.W.excIn K C_NoRounds [.type "ValueError", .type "Exception", .type "BaseException", .type "object"] "ValueError.__new__" = true)
    (s_NoRounds : PySem.W.subIn K (.ref C_NoRounds) (.type "BaseException") = some true)
    (t_NoRounds : PySem.W.typeIn K (.ref C_NoRounds) = some (.type "type"))
    (g_BadThing : PySem.W.nsIn K mainGlobals "BadThing" = some (some (.ref C_BadThing)))
    (hx_BadThing : HXof l.prog.main.file K C_BadThing i_BadThing "BadThing.__init__" "thing")
    (g_BadBook : PySem.W.nsIn K mainGlobals "BadBook" = some (some (.ref C_BadBook)))
    (hx_BadBook : HXof l.prog.main.file K C_BadBook i_BadBook "BadBook.__init__" "part")
    (g_BadRules : PySem.W.nsIn K mainGlobals "BadRules" = some (some (.ref C_BadRules)))
    (hx_BadRules : HXof l.prog.main.file K C_BadRules i_BadRules "BadRules.__init__" "at")
    (g_BadPlans : PySem.W.nsIn K mainGlobals "BadPlans" = some (some (.ref C_BadPlans)))
    (hx_BadPlans : HXof l.prog.main.file K C_BadPlans i_BadPlans "BadPlans.__init__" "at")
    (g_BadRows : PySem.W.nsIn K mainGlobals "BadRows" = some (some (.ref C_BadRows)))
    (hx_BadRows : HXof l.prog.main.file K C_BadRows i_BadRows "BadRows.__init__" "at")
    (g_BadRow : PySem.W.nsIn K mainGlobals "BadRow" = some (some (.ref C_BadRow)))
    (hx_BadRow : HXof l.prog.main.file K C_BadRow i_BadRow "BadRow.__init__" "part")
    (g_BadBox : PySem.W.nsIn K mainGlobals "BadBox" = some (some (.ref C_BadBox)))
    (hx_BadBox : HXof l.prog.main.file K C_BadBox i_BadBox "BadBox.__init__" "part")
    (g_NoRule : PySem.W.nsIn K mainGlobals "NoRule" = some (some (.ref C_NoRule)))
    (hx_NoRule : HXof l.prog.main.file K C_NoRule i_NoRule "NoRule.__init__" "at")
    (g_BadOffer : PySem.W.nsIn K mainGlobals "BadOffer" = some (some (.ref C_BadOffer)))
    (hx_BadOffer : HXof l.prog.main.file K C_BadOffer i_BadOffer "BadOffer.__init__" "part")
    (g_BadFare : PySem.W.nsIn K mainGlobals "BadFare" = some (some (.ref C_BadFare)))
    (hx_BadFare : HXof l.prog.main.file K C_BadFare i_BadFare "BadFare.__init__" "part")
    (g_NoRow : PySem.W.nsIn K mainGlobals "NoRow" = some (some (.ref C_NoRow)))
    (hx_NoRow : HXof l.prog.main.file K C_NoRow i_NoRow "NoRow.__init__" "at")
    (g_BadPrices : PySem.W.nsIn K mainGlobals "BadPrices" = some (some (.ref C_BadPrices)))
    (hx_BadPrices : HXof l.prog.main.file K C_BadPrices i_BadPrices "BadPrices.__init__" "part")
    (g_NotNow : PySem.W.nsIn K mainGlobals "NotNow" = some (some (.ref C_NotNow)))
    (hx_NotNow : HXof l.prog.main.file K C_NotNow i_NotNow "NotNow.__init__" "word")
    (g_TooMany : PySem.W.nsIn K mainGlobals "TooMany" = some (some (.ref C_TooMany)))
    (hx_TooMany : HXof l.prog.main.file K C_TooMany i_TooMany "TooMany.__init__" "most")
    (g_BadReceipts : PySem.W.nsIn K mainGlobals "BadReceipts" = some (some (.ref C_BadReceipts)))
    (hx_BadReceipts : HXof l.prog.main.file K C_BadReceipts i_BadReceipts "BadReceipts.__init__" "at")
    (g_BadForecast : PySem.W.nsIn K mainGlobals "BadForecast" = some (some (.ref C_BadForecast)))
    (hx_BadForecast : HXof l.prog.main.file K C_BadForecast i_BadForecast "BadForecast.__init__" "part")
    (g_BadTurns : PySem.W.nsIn K mainGlobals "BadTurns" = some (some (.ref C_BadTurns)))
    (hx_BadTurns : HXof l.prog.main.file K C_BadTurns i_BadTurns "BadTurns.__init__" "part")
    (g_BadMarks : PySem.W.nsIn K mainGlobals "BadMarks" = some (some (.ref C_BadMarks)))
    (hx_BadMarks : HXof l.prog.main.file K C_BadMarks i_BadMarks "BadMarks.__init__" "at")
    (g_BadText : PySem.W.nsIn K mainGlobals "BadText" = some (some (.ref C_BadText)))
    (hx_BadText : HXof l.prog.main.file K C_BadText i_BadText "BadText.__init__" "line")
    (g_BadJournal : PySem.W.nsIn K mainGlobals "BadJournal" = some (some (.ref C_BadJournal)))
    (hx_BadJournal : HXof l.prog.main.file K C_BadJournal i_BadJournal "BadJournal.__init__" "at")
    (g_CornerError : PySem.W.nsIn K mainGlobals "CornerError" = some (some (.ref C_CornerError)))
    (kk_CornerError : PySem.W.keepIn K (.ref C_CornerError) = true)
    (q_CornerError : PySem.W.excIn K C_CornerError [.type "ValueError", .type "Exception", .type "BaseException", .type "object"] "ValueError.__new__" = true)
    (s_CornerError : PySem.W.subIn K (.ref C_CornerError) (.type "BaseException") = some true)
    (t_CornerError : PySem.W.typeIn K (.ref C_CornerError) = some (.type "type"))
    (z_thirdparty : PySem.W.nsIn K cStatics "thirdparty.any" = some none) (z_super : PySem.W.nsIn K mainGlobals "super" = some none) (z_top : (l.prog.main.scope.names.lookup ("super" : Str)).isSome = false)
    (ec_CornerError : ExcC K C_CornerError)
    (ec_BadPlan : ExcC K C_BadPlan)
    (ec_BadPlans : ExcC K C_BadPlans)
    (ec_BadNumber : ExcC K C_BadNumber)
    (ec_BadSide : ExcC K C_BadSide)
    (ec_BadRule : ExcC K C_BadRule)
    (ec_BadRules : ExcC K C_BadRules)
    (ec_BadBook : ExcC K C_BadBook)
    (ec_BadThing : ExcC K C_BadThing)
    (ec_NoPlans : ExcC K C_NoPlans)
    (ec_NoRule : ExcC K C_NoRule)
    (ec_BadLot : ExcC K C_BadLot)
    (ec_BadLimit : ExcC K C_BadLimit)
    (ec_BadStretch : ExcC K C_BadStretch)
    (ec_BadBox : ExcC K C_BadBox)
    (ec_BadRow : ExcC K C_BadRow)
    (ec_BadRows : ExcC K C_BadRows)
    (ec_BadPrices : ExcC K C_BadPrices)
    (ec_NoRow : ExcC K C_NoRow)
    (ec_BadWords : ExcC K C_BadWords)
    (ec_BadFare : ExcC K C_BadFare)
    (ec_BadOffer : ExcC K C_BadOffer)
    (ec_BadCell : ExcC K C_BadCell)
    (ec_BadForecast : ExcC K C_BadForecast)
    (ec_BadStrategy : ExcC K C_BadStrategy)
    (ec_BadReceipts : ExcC K C_BadReceipts)
    (ec_TooMany : ExcC K C_TooMany)
    (ec_OtherThings : ExcC K C_OtherThings)
    (ec_NotNow : ExcC K C_NotNow)
    (ec_NothingDone : ExcC K C_NothingDone)
    (ec_BadHouse : ExcC K C_BadHouse)
    (ec_BadJournal : ExcC K C_BadJournal)
    (ec_BadText : ExcC K C_BadText)
    (ec_BadMarks : ExcC K C_BadMarks)
    (ec_NotSo : ExcC K C_NotSo)
    (ec_NoRounds : ExcC K C_NoRounds)
    (ec_NoTurns : ExcC K C_NoTurns)
    (ec_BadTurns : ExcC K C_BadTurns)
    (ktA : kitAll K [(("CornerError" : Str), C_CornerError), (("BadPlan" : Str), C_BadPlan), (("BadPlans" : Str), C_BadPlans), (("BadNumber" : Str), C_BadNumber), (("BadSide" : Str), C_BadSide), (("BadRule" : Str), C_BadRule), (("BadRules" : Str), C_BadRules), (("BadBook" : Str), C_BadBook), (("BadThing" : Str), C_BadThing), (("NoPlans" : Str), C_NoPlans), (("NoRule" : Str), C_NoRule), (("BadLot" : Str), C_BadLot), (("BadLimit" : Str), C_BadLimit), (("BadStretch" : Str), C_BadStretch), (("BadBox" : Str), C_BadBox), (("BadRow" : Str), C_BadRow), (("BadRows" : Str), C_BadRows), (("BadPrices" : Str), C_BadPrices), (("NoRow" : Str), C_NoRow), (("BadWords" : Str), C_BadWords), (("BadFare" : Str), C_BadFare), (("BadOffer" : Str), C_BadOffer), (("BadCell" : Str), C_BadCell), (("BadForecast" : Str), C_BadForecast), (("BadStrategy" : Str), C_BadStrategy), (("BadReceipts" : Str), C_BadReceipts), (("TooMany" : Str), C_TooMany), (("OtherThings" : Str), C_OtherThings), (("NotNow" : Str), C_NotNow), (("NothingDone" : Str), C_NothingDone), (("BadHouse" : Str), C_BadHouse), (("BadJournal" : Str), C_BadJournal), (("BadText" : Str), C_BadText), (("BadMarks" : Str), C_BadMarks), (("NotSo" : Str), C_NotSo), (("NoRounds" : Str), C_NoRounds), (("NoTurns" : Str), C_NoTurns), (("BadTurns" : Str), C_BadTurns)] = true) (knV : PySem.W.kitOne K (.type "NoneType") (.type "ValueError") = some false)
    (xf_BadPlans : XfC K C_BadPlans) (nff_BadPlans : PySem.W.findIn K (.ref C_BadPlans) "at" = some none)
    (xf_BadRules : XfC K C_BadRules) (nff_BadRules : PySem.W.findIn K (.ref C_BadRules) "at" = some none)
    (xf_BadBook : XfC K C_BadBook) (nff_BadBook : PySem.W.findIn K (.ref C_BadBook) "part" = some none)
    (xf_BadThing : XfC K C_BadThing) (nff_BadThing : PySem.W.findIn K (.ref C_BadThing) "thing" = some none)
    (xf_NoRule : XfC K C_NoRule) (nff_NoRule : PySem.W.findIn K (.ref C_NoRule) "at" = some none)
    (xf_BadBox : XfC K C_BadBox) (nff_BadBox : PySem.W.findIn K (.ref C_BadBox) "part" = some none)
    (xf_BadRow : XfC K C_BadRow) (nff_BadRow : PySem.W.findIn K (.ref C_BadRow) "part" = some none)
    (xf_BadRows : XfC K C_BadRows) (nff_BadRows : PySem.W.findIn K (.ref C_BadRows) "at" = some none)
    (xf_BadPrices : XfC K C_BadPrices) (nff_BadPrices : PySem.W.findIn K (.ref C_BadPrices) "part" = some none)
    (xf_NoRow : XfC K C_NoRow) (nff_NoRow : PySem.W.findIn K (.ref C_NoRow) "at" = some none)
    (xf_BadFare : XfC K C_BadFare) (nff_BadFare : PySem.W.findIn K (.ref C_BadFare) "part" = some none)
    (xf_BadOffer : XfC K C_BadOffer) (nff_BadOffer : PySem.W.findIn K (.ref C_BadOffer) "part" = some none)
    (xf_BadForecast : XfC K C_BadForecast) (nff_BadForecast : PySem.W.findIn K (.ref C_BadForecast) "part" = some none)
    (xf_BadReceipts : XfC K C_BadReceipts) (nff_BadReceipts : PySem.W.findIn K (.ref C_BadReceipts) "at" = some none)
    (xf_TooMany : XfC K C_TooMany) (nff_TooMany : PySem.W.findIn K (.ref C_TooMany) "most" = some none)
    (xf_NotNow : XfC K C_NotNow) (nff_NotNow : PySem.W.findIn K (.ref C_NotNow) "word" = some none)
    (xf_BadJournal : XfC K C_BadJournal) (nff_BadJournal : PySem.W.findIn K (.ref C_BadJournal) "at" = some none)
    (xf_BadText : XfC K C_BadText) (nff_BadText : PySem.W.findIn K (.ref C_BadText) "line" = some none)
    (xf_BadMarks : XfC K C_BadMarks) (nff_BadMarks : PySem.W.findIn K (.ref C_BadMarks) "at" = some none)
    (xf_BadTurns : XfC K C_BadTurns) (nff_BadTurns : PySem.W.findIn K (.ref C_BadTurns) "part" = some none)
    (hfa : mg "law" = some (.ref fa)) (hD : LawD) : LawS l.prog w K mg [] fa 63 := by
  have e := hfa.symm.trans (PySem.W.mg_of X G aL)
  cases e
  have T : Txt mg := ⟨PySem.W.mg_none_of X G z0, PySem.W.mg_none_of X G z1, PySem.W.mg_none_of X G z2, PySem.W.mg_none_of X G z3, PySem.W.mg_none_of X G z4, PySem.W.mg_none_of X G z5, PySem.W.mg_none_of X G z6, PySem.W.mg_none_of X G z7, PySem.W.mg_none_of X G z8, PySem.W.mg_none_of X G z9⟩
  have e_NoPlans : ExP K mg "NoPlans" C_NoPlans := ⟨PySem.W.mg_of X G g_NoPlans, kk_NoPlans, q_NoPlans, s_NoPlans, t_NoPlans⟩
  have e_BadRule : ExP K mg "BadRule" C_BadRule := ⟨PySem.W.mg_of X G g_BadRule, kk_BadRule, q_BadRule, s_BadRule, t_BadRule⟩
  have e_BadSide : ExP K mg "BadSide" C_BadSide := ⟨PySem.W.mg_of X G g_BadSide, kk_BadSide, q_BadSide, s_BadSide, t_BadSide⟩
  have e_BadNumber : ExP K mg "BadNumber" C_BadNumber := ⟨PySem.W.mg_of X G g_BadNumber, kk_BadNumber, q_BadNumber, s_BadNumber, t_BadNumber⟩
  have e_BadPlan : ExP K mg "BadPlan" C_BadPlan := ⟨PySem.W.mg_of X G g_BadPlan, kk_BadPlan, q_BadPlan, s_BadPlan, t_BadPlan⟩
  have e_BadCell : ExP K mg "BadCell" C_BadCell := ⟨PySem.W.mg_of X G g_BadCell, kk_BadCell, q_BadCell, s_BadCell, t_BadCell⟩
  have e_BadWords : ExP K mg "BadWords" C_BadWords := ⟨PySem.W.mg_of X G g_BadWords, kk_BadWords, q_BadWords, s_BadWords, t_BadWords⟩
  have e_BadStretch : ExP K mg "BadStretch" C_BadStretch := ⟨PySem.W.mg_of X G g_BadStretch, kk_BadStretch, q_BadStretch, s_BadStretch, t_BadStretch⟩
  have e_BadLimit : ExP K mg "BadLimit" C_BadLimit := ⟨PySem.W.mg_of X G g_BadLimit, kk_BadLimit, q_BadLimit, s_BadLimit, t_BadLimit⟩
  have e_BadLot : ExP K mg "BadLot" C_BadLot := ⟨PySem.W.mg_of X G g_BadLot, kk_BadLot, q_BadLot, s_BadLot, t_BadLot⟩
  have e_NotSo : ExP K mg "NotSo" C_NotSo := ⟨PySem.W.mg_of X G g_NotSo, kk_NotSo, q_NotSo, s_NotSo, t_NotSo⟩
  have e_BadHouse : ExP K mg "BadHouse" C_BadHouse := ⟨PySem.W.mg_of X G g_BadHouse, kk_BadHouse, q_BadHouse, s_BadHouse, t_BadHouse⟩
  have e_NothingDone : ExP K mg "NothingDone" C_NothingDone := ⟨PySem.W.mg_of X G g_NothingDone, kk_NothingDone, q_NothingDone, s_NothingDone, t_NothingDone⟩
  have e_OtherThings : ExP K mg "OtherThings" C_OtherThings := ⟨PySem.W.mg_of X G g_OtherThings, kk_OtherThings, q_OtherThings, s_OtherThings, t_OtherThings⟩
  have e_BadStrategy : ExP K mg "BadStrategy" C_BadStrategy := ⟨PySem.W.mg_of X G g_BadStrategy, kk_BadStrategy, q_BadStrategy, s_BadStrategy, t_BadStrategy⟩
  have e_NoTurns : ExP K mg "NoTurns" C_NoTurns := ⟨PySem.W.mg_of X G g_NoTurns, kk_NoTurns, q_NoTurns, s_NoTurns, t_NoTurns⟩
  have e_NoRounds : ExP K mg "NoRounds" C_NoRounds := ⟨PySem.W.mg_of X G g_NoRounds, kk_NoRounds, q_NoRounds, s_NoRounds, t_NoRounds⟩
  have e_BadThing := exj_BadThing (l := l) (w := w) (PySem.W.mg_of X G g_BadThing) hx_BadThing z_thirdparty z_super z_top
  have e_BadBook := exj_BadBook (l := l) (w := w) (PySem.W.mg_of X G g_BadBook) hx_BadBook z_thirdparty z_super z_top
  have e_BadRules := exj_BadRules (l := l) (w := w) (PySem.W.mg_of X G g_BadRules) hx_BadRules z_thirdparty z_super z_top
  have e_BadPlans := exj_BadPlans (l := l) (w := w) (PySem.W.mg_of X G g_BadPlans) hx_BadPlans z_thirdparty z_super z_top
  have e_BadRows := exj_BadRows (l := l) (w := w) (PySem.W.mg_of X G g_BadRows) hx_BadRows z_thirdparty z_super z_top
  have e_BadRow := exj_BadRow (l := l) (w := w) (PySem.W.mg_of X G g_BadRow) hx_BadRow z_thirdparty z_super z_top
  have e_BadBox := exj_BadBox (l := l) (w := w) (PySem.W.mg_of X G g_BadBox) hx_BadBox z_thirdparty z_super z_top
  have e_NoRule := exj_NoRule (l := l) (w := w) (PySem.W.mg_of X G g_NoRule) hx_NoRule z_thirdparty z_super z_top
  have e_BadOffer := exj_BadOffer (l := l) (w := w) (PySem.W.mg_of X G g_BadOffer) hx_BadOffer z_thirdparty z_super z_top
  have e_BadFare := exj_BadFare (l := l) (w := w) (PySem.W.mg_of X G g_BadFare) hx_BadFare z_thirdparty z_super z_top
  have e_NoRow := exj_NoRow (l := l) (w := w) (PySem.W.mg_of X G g_NoRow) hx_NoRow z_thirdparty z_super z_top
  have e_BadPrices := exj_BadPrices (l := l) (w := w) (PySem.W.mg_of X G g_BadPrices) hx_BadPrices z_thirdparty z_super z_top
  have e_NotNow := exj_NotNow (l := l) (w := w) (PySem.W.mg_of X G g_NotNow) hx_NotNow z_thirdparty z_super z_top
  have e_TooMany := exj_TooMany (l := l) (w := w) (PySem.W.mg_of X G g_TooMany) hx_TooMany z_thirdparty z_super z_top
  have e_BadReceipts := exj_BadReceipts (l := l) (w := w) (PySem.W.mg_of X G g_BadReceipts) hx_BadReceipts z_thirdparty z_super z_top
  have e_BadForecast := exj_BadForecast (l := l) (w := w) (PySem.W.mg_of X G g_BadForecast) hx_BadForecast z_thirdparty z_super z_top
  have e_BadTurns := exj_BadTurns (l := l) (w := w) (PySem.W.mg_of X G g_BadTurns) hx_BadTurns z_thirdparty z_super z_top
  have e_BadMarks := exj_BadMarks (l := l) (w := w) (PySem.W.mg_of X G g_BadMarks) hx_BadMarks z_thirdparty z_super z_top
  have e_BadText := exj_BadText (l := l) (w := w) (PySem.W.mg_of X G g_BadText) hx_BadText z_thirdparty z_super z_top
  have e_BadJournal := exj_BadJournal (l := l) (w := w) (PySem.W.mg_of X G g_BadJournal) hx_BadJournal z_thirdparty z_super z_top
  have e_CornerError : ExP K mg "CornerError" C_CornerError := ⟨PySem.W.mg_of X G g_CornerError, kk_CornerError, q_CornerError, s_CornerError, t_CornerError⟩
  have hEK : EKN K mg subE EOWN := ekN_mk2 (L := [(("CornerError" : Str), C_CornerError), (("BadPlan" : Str), C_BadPlan), (("BadPlans" : Str), C_BadPlans), (("BadNumber" : Str), C_BadNumber), (("BadSide" : Str), C_BadSide), (("BadRule" : Str), C_BadRule), (("BadRules" : Str), C_BadRules), (("BadBook" : Str), C_BadBook), (("BadThing" : Str), C_BadThing), (("NoPlans" : Str), C_NoPlans), (("NoRule" : Str), C_NoRule), (("BadLot" : Str), C_BadLot), (("BadLimit" : Str), C_BadLimit), (("BadStretch" : Str), C_BadStretch), (("BadBox" : Str), C_BadBox), (("BadRow" : Str), C_BadRow), (("BadRows" : Str), C_BadRows), (("BadPrices" : Str), C_BadPrices), (("NoRow" : Str), C_NoRow), (("BadWords" : Str), C_BadWords), (("BadFare" : Str), C_BadFare), (("BadOffer" : Str), C_BadOffer), (("BadCell" : Str), C_BadCell), (("BadForecast" : Str), C_BadForecast), (("BadStrategy" : Str), C_BadStrategy), (("BadReceipts" : Str), C_BadReceipts), (("TooMany" : Str), C_TooMany), (("OtherThings" : Str), C_OtherThings), (("NotNow" : Str), C_NotNow), (("NothingDone" : Str), C_NothingDone), (("BadHouse" : Str), C_BadHouse), (("BadJournal" : Str), C_BadJournal), (("BadText" : Str), C_BadText), (("BadMarks" : Str), C_BadMarks), (("NotSo" : Str), C_NotSo), (("NoRounds" : Str), C_NoRounds), (("NoTurns" : Str), C_NoTurns), (("BadTurns" : Str), C_BadTurns)]) ktA (List.forall_mem_cons.mpr ⟨⟨PySem.W.mg_of X G g_CornerError, ec_CornerError⟩, (List.forall_mem_cons.mpr ⟨⟨PySem.W.mg_of X G g_BadPlan, ec_BadPlan⟩, (List.forall_mem_cons.mpr ⟨⟨PySem.W.mg_of X G g_BadPlans, ec_BadPlans⟩, (List.forall_mem_cons.mpr ⟨⟨PySem.W.mg_of X G g_BadNumber, ec_BadNumber⟩, (List.forall_mem_cons.mpr ⟨⟨PySem.W.mg_of X G g_BadSide, ec_BadSide⟩, (List.forall_mem_cons.mpr ⟨⟨PySem.W.mg_of X G g_BadRule, ec_BadRule⟩, (List.forall_mem_cons.mpr ⟨⟨PySem.W.mg_of X G g_BadRules, ec_BadRules⟩, (List.forall_mem_cons.mpr ⟨⟨PySem.W.mg_of X G g_BadBook, ec_BadBook⟩, (List.forall_mem_cons.mpr ⟨⟨PySem.W.mg_of X G g_BadThing, ec_BadThing⟩, (List.forall_mem_cons.mpr ⟨⟨PySem.W.mg_of X G g_NoPlans, ec_NoPlans⟩, (List.forall_mem_cons.mpr ⟨⟨PySem.W.mg_of X G g_NoRule, ec_NoRule⟩, (List.forall_mem_cons.mpr ⟨⟨PySem.W.mg_of X G g_BadLot, ec_BadLot⟩, (List.forall_mem_cons.mpr ⟨⟨PySem.W.mg_of X G g_BadLimit, ec_BadLimit⟩, (List.forall_mem_cons.mpr ⟨⟨PySem.W.mg_of X G g_BadStretch, ec_BadStretch⟩, (List.forall_mem_cons.mpr ⟨⟨PySem.W.mg_of X G g_BadBox, ec_BadBox⟩, (List.forall_mem_cons.mpr ⟨⟨PySem.W.mg_of X G g_BadRow, ec_BadRow⟩, (List.forall_mem_cons.mpr ⟨⟨PySem.W.mg_of X G g_BadRows, ec_BadRows⟩, (List.forall_mem_cons.mpr ⟨⟨PySem.W.mg_of X G g_BadPrices, ec_BadPrices⟩, (List.forall_mem_cons.mpr ⟨⟨PySem.W.mg_of X G g_NoRow, ec_NoRow⟩, (List.forall_mem_cons.mpr ⟨⟨PySem.W.mg_of X G g_BadWords, ec_BadWords⟩, (List.forall_mem_cons.mpr ⟨⟨PySem.W.mg_of X G g_BadFare, ec_BadFare⟩, (List.forall_mem_cons.mpr ⟨⟨PySem.W.mg_of X G g_BadOffer, ec_BadOffer⟩, (List.forall_mem_cons.mpr ⟨⟨PySem.W.mg_of X G g_BadCell, ec_BadCell⟩, (List.forall_mem_cons.mpr ⟨⟨PySem.W.mg_of X G g_BadForecast, ec_BadForecast⟩, (List.forall_mem_cons.mpr ⟨⟨PySem.W.mg_of X G g_BadStrategy, ec_BadStrategy⟩, (List.forall_mem_cons.mpr ⟨⟨PySem.W.mg_of X G g_BadReceipts, ec_BadReceipts⟩, (List.forall_mem_cons.mpr ⟨⟨PySem.W.mg_of X G g_TooMany, ec_TooMany⟩, (List.forall_mem_cons.mpr ⟨⟨PySem.W.mg_of X G g_OtherThings, ec_OtherThings⟩, (List.forall_mem_cons.mpr ⟨⟨PySem.W.mg_of X G g_NotNow, ec_NotNow⟩, (List.forall_mem_cons.mpr ⟨⟨PySem.W.mg_of X G g_NothingDone, ec_NothingDone⟩, (List.forall_mem_cons.mpr ⟨⟨PySem.W.mg_of X G g_BadHouse, ec_BadHouse⟩, (List.forall_mem_cons.mpr ⟨⟨PySem.W.mg_of X G g_BadJournal, ec_BadJournal⟩, (List.forall_mem_cons.mpr ⟨⟨PySem.W.mg_of X G g_BadText, ec_BadText⟩, (List.forall_mem_cons.mpr ⟨⟨PySem.W.mg_of X G g_BadMarks, ec_BadMarks⟩, (List.forall_mem_cons.mpr ⟨⟨PySem.W.mg_of X G g_NotSo, ec_NotSo⟩, (List.forall_mem_cons.mpr ⟨⟨PySem.W.mg_of X G g_NoRounds, ec_NoRounds⟩, (List.forall_mem_cons.mpr ⟨⟨PySem.W.mg_of X G g_NoTurns, ec_NoTurns⟩, (List.forall_mem_cons.mpr ⟨⟨PySem.W.mg_of X G g_BadTurns, ec_BadTurns⟩, (fun _ h => absurd h List.not_mem_nil)⟩)⟩)⟩)⟩)⟩)⟩)⟩)⟩)⟩)⟩)⟩)⟩)⟩)⟩)⟩)⟩)⟩)⟩)⟩)⟩)⟩)⟩)⟩)⟩)⟩)⟩)⟩)⟩)⟩)⟩)⟩)⟩)⟩)⟩)⟩)⟩)⟩)⟩) knV
  have hEF : EFn K mg fldE := efn_mk (L := [("BadPlans", "at", C_BadPlans), ("BadRules", "at", C_BadRules), ("BadBook", "part", C_BadBook), ("BadThing", "thing", C_BadThing), ("NoRule", "at", C_NoRule), ("BadBox", "part", C_BadBox), ("BadRow", "part", C_BadRow), ("BadRows", "at", C_BadRows), ("BadPrices", "part", C_BadPrices), ("NoRow", "at", C_NoRow), ("BadFare", "part", C_BadFare), ("BadOffer", "part", C_BadOffer), ("BadForecast", "part", C_BadForecast), ("BadReceipts", "at", C_BadReceipts), ("TooMany", "most", C_TooMany), ("NotNow", "word", C_NotNow), ("BadJournal", "at", C_BadJournal), ("BadText", "line", C_BadText), ("BadMarks", "at", C_BadMarks), ("BadTurns", "part", C_BadTurns)]) (List.forall_mem_cons.mpr ⟨⟨PySem.W.mg_of X G g_BadPlans, xf_BadPlans, nff_BadPlans⟩, (List.forall_mem_cons.mpr ⟨⟨PySem.W.mg_of X G g_BadRules, xf_BadRules, nff_BadRules⟩, (List.forall_mem_cons.mpr ⟨⟨PySem.W.mg_of X G g_BadBook, xf_BadBook, nff_BadBook⟩, (List.forall_mem_cons.mpr ⟨⟨PySem.W.mg_of X G g_BadThing, xf_BadThing, nff_BadThing⟩, (List.forall_mem_cons.mpr ⟨⟨PySem.W.mg_of X G g_NoRule, xf_NoRule, nff_NoRule⟩, (List.forall_mem_cons.mpr ⟨⟨PySem.W.mg_of X G g_BadBox, xf_BadBox, nff_BadBox⟩, (List.forall_mem_cons.mpr ⟨⟨PySem.W.mg_of X G g_BadRow, xf_BadRow, nff_BadRow⟩, (List.forall_mem_cons.mpr ⟨⟨PySem.W.mg_of X G g_BadRows, xf_BadRows, nff_BadRows⟩, (List.forall_mem_cons.mpr ⟨⟨PySem.W.mg_of X G g_BadPrices, xf_BadPrices, nff_BadPrices⟩, (List.forall_mem_cons.mpr ⟨⟨PySem.W.mg_of X G g_NoRow, xf_NoRow, nff_NoRow⟩, (List.forall_mem_cons.mpr ⟨⟨PySem.W.mg_of X G g_BadFare, xf_BadFare, nff_BadFare⟩, (List.forall_mem_cons.mpr ⟨⟨PySem.W.mg_of X G g_BadOffer, xf_BadOffer, nff_BadOffer⟩, (List.forall_mem_cons.mpr ⟨⟨PySem.W.mg_of X G g_BadForecast, xf_BadForecast, nff_BadForecast⟩, (List.forall_mem_cons.mpr ⟨⟨PySem.W.mg_of X G g_BadReceipts, xf_BadReceipts, nff_BadReceipts⟩, (List.forall_mem_cons.mpr ⟨⟨PySem.W.mg_of X G g_TooMany, xf_TooMany, nff_TooMany⟩, (List.forall_mem_cons.mpr ⟨⟨PySem.W.mg_of X G g_NotNow, xf_NotNow, nff_NotNow⟩, (List.forall_mem_cons.mpr ⟨⟨PySem.W.mg_of X G g_BadJournal, xf_BadJournal, nff_BadJournal⟩, (List.forall_mem_cons.mpr ⟨⟨PySem.W.mg_of X G g_BadText, xf_BadText, nff_BadText⟩, (List.forall_mem_cons.mpr ⟨⟨PySem.W.mg_of X G g_BadMarks, xf_BadMarks, nff_BadMarks⟩, (List.forall_mem_cons.mpr ⟨⟨PySem.W.mg_of X G g_BadTurns, xf_BadTurns, nff_BadTurns⟩, (fun _ h => absurd h List.not_mem_nil)⟩)⟩)⟩)⟩)⟩)⟩)⟩)⟩)⟩)⟩)⟩)⟩)⟩)⟩)⟩)⟩)⟩)⟩)⟩)⟩)
  have F__law_begun : Fg K mg "_law_begun" s__law_begun := ⟨f0, _, PySem.W.mg_of X G a0, fun_mk (st := s__law_begun) l0 c0 k0⟩
  have F__law_draw : Fg K mg "_law_draw" s__law_draw := ⟨f1, _, PySem.W.mg_of X G a1, fun_mk (st := s__law_draw) l1 c1 k1⟩
  have F__law_pick : Fg K mg "_law_pick" s__law_pick := ⟨f2, _, PySem.W.mg_of X G a2, fun_mk (st := s__law_pick) l2 c2 k2⟩
  have F__law_odd : Fg K mg "_law_odd" s__law_odd := ⟨f3, _, PySem.W.mg_of X G a3, fun_mk (st := s__law_odd) l3 c3 k3⟩
  have F__law_plain : Fg K mg "_law_plain" s__law_plain := ⟨f4, _, PySem.W.mg_of X G a4, fun_mk (st := s__law_plain) l4 c4 k4⟩
  have F__law_told : Fg K mg "_law_told" s__law_told := ⟨f5, _, PySem.W.mg_of X G a5, fun_mk (st := s__law_told) l5 c5 k5⟩
  have F__law_marks : Fg K mg "_law_marks" s__law_marks := ⟨f6, _, PySem.W.mg_of X G a6, fun_mk (st := s__law_marks) l6 c6 k6⟩
  have F__law_named : Fg K mg "_law_named" s__law_named := ⟨f7, _, PySem.W.mg_of X G a7, fun_mk (st := s__law_named) l7 c7 k7⟩
  have k__law_begun := fun (base : Heap) (hT : ∀ p ∈ ([] : List (Addr × Addr)), TabB base mg p.1 p.2) => Dw.k__law_begun (P := l.prog) (w := w) (base := base) F__law_begun T
  have k__law_draw := fun (base : Heap) (hT : ∀ p ∈ ([] : List (Addr × Addr)), TabB base mg p.1 p.2) => Dw.k__law_draw (P := l.prog) (w := w) (base := base) F__law_draw T
  have k__law_pick := fun (base : Heap) (hT : ∀ p ∈ ([] : List (Addr × Addr)), TabB base mg p.1 p.2) => Dw.k__law_pick (P := l.prog) (w := w) (base := base) (Ts := []) F__law_pick T (k__law_draw base hT)
  have k__law_odd := fun (base : Heap) (hT : ∀ p ∈ ([] : List (Addr × Addr)), TabB base mg p.1 p.2) => Dw.k__law_odd (P := l.prog) (w := w) (base := base) (Ts := []) F__law_odd T (k__law_pick base hT)
  have k__law_plain := fun (base : Heap) (hT : ∀ p ∈ ([] : List (Addr × Addr)), TabB base mg p.1 p.2) => Dw.k__law_plain (P := l.prog) (w := w) (base := base) F__law_plain T e_NoPlans e_BadRule e_BadSide e_BadNumber e_BadPlan e_BadCell e_BadWords e_BadStretch e_BadLimit e_BadLot e_NotSo e_BadHouse e_NothingDone e_OtherThings e_BadStrategy e_NoTurns e_NoRounds
  have k__law_told := fun (base : Heap) (hT : ∀ p ∈ ([] : List (Addr × Addr)), TabB base mg p.1 p.2) => Dw.k__law_told (P := l.prog) (w := w) (base := base) F__law_told T (e_BadThing base) (e_BadBook base) (e_BadRules base) (e_BadPlans base) (e_BadRows base) (e_BadRow base) (e_BadBox base) (e_NoRule base) (e_BadOffer base) (e_BadFare base) (e_NoRow base) (e_BadPrices base) (e_NotNow base) (e_TooMany base) (e_BadReceipts base) (e_BadForecast base) (e_BadTurns base) (e_BadMarks base) (e_BadText base) (e_BadJournal base)
  have k__law_marks := fun (base : Heap) (hT : ∀ p ∈ ([] : List (Addr × Addr)), TabB base mg p.1 p.2) => Dw.k__law_marks (P := l.prog) (w := w) (base := base) F__law_marks T e_BadNumber (e_BadPlans base) e_BadPlan (e_BadRules base) e_BadRule e_BadSide e_NoPlans (e_BadThing base) (e_BadBook base) e_BadLimit e_BadLot (e_NoRule base) (e_BadRow base) (e_BadBox base) e_BadStretch (e_NoRow base) (e_BadPrices base) (e_BadRows base) (e_BadOffer base) (e_BadFare base) e_BadWords e_BadStrategy (e_BadForecast base) e_BadCell e_OtherThings (e_TooMany base) (e_BadReceipts base) e_BadHouse e_NothingDone (e_NotNow base) (e_BadMarks base) (e_BadText base) (e_BadJournal base) (e_BadTurns base) e_NoTurns e_NoRounds e_NotSo hEK
  have k__law_named := fun (base : Heap) (hT : ∀ p ∈ ([] : List (Addr × Addr)), TabB base mg p.1 p.2) => Dw.k__law_named (P := l.prog) (w := w) (base := base) F__law_named T (e_BadBook base) (e_BadRules base) (e_BadPlans base) (e_BadBox base) (e_NoRule base) (e_BadThing base) (e_BadPrices base) (e_BadRows base) (e_BadRow base) (e_BadOffer base) (e_BadFare base) (e_NoRow base) (e_TooMany base) (e_BadReceipts base) (e_BadForecast base) (e_BadText base) (e_BadJournal base) (e_NotNow base) (e_BadTurns base) (e_BadMarks base) hEF
  exact g_law (Ts := []) lL cL hroom T (fun _ h => absurd h List.not_mem_nil) (fun base _ _ hT => (k__law_odd base hT)) (fun base _ _ hT => (k__law_plain base hT)) (fun base _ _ hT => (k__law_told base hT)) (fun base _ _ hT => (k__law_marks base hT)) (fun base _ _ hT => (k__law_named base hT)) (fun base _ _ hT => k__law_begun base hT) e_CornerError hEK hD
end Dw
set_option Elab.async false
set_option linter.all false
set_option maxRecDepth 100000
open PySem PySem.W PyProof.Rows
set_option maxHeartbeats 0
local macro_rules | `(tactic| o_head $H) => `(tactic| (refine holds_open (q := Hd.vw) (loose := Hd.ls) (Xt := Hd.Xt) (XP := XL Hd.vw []) (Yf := Hook.obs (kmHook Hd.h0.heap_1 Hd.asl Hd.ek [])) (Ya := Hook.val (kmHook Hd.h0.heap_1 Hd.asl Hd.ek [])) (YP := Hook.says (kmHook Hd.h0.heap_1 Hd.asl Hd.ek [])) (N := 18788) Hd.left (Hook.of (kmHook Hd.h0.heap_1 Hd.asl Hd.ek [])) (Hook.keeps (kmHook Hd.h0.heap_1 Hd.asl Hd.ek [])) (fun s e => xl_of s (Bool.and_eq_true_iff.mp e).1) XL.keeps (by rfl) (by rfl) (by rfl) (fun s e => recFacts_of (Bool.and_eq_true_iff.mp e).2) (by rfl) (by first | assumption | decide +kernel) (by decide +kernel) ⟨rfl, rfl, rfl, rfl, rfl, by decide +kernel⟩ ?hw ?hc))
theorem PySem.Challenge.cw_cornerplans_k01_errors_by_hand_holds : PySem.Challenge.rw_cornerplans_k01_errors_by_hand.Holds := by
  w_on; o_law; o_head Hook.none; (case hw => w_witness2)
  k_fill
  refine Cn.walk_S (l := PySem.Challenge.rw_cornerplans_k01_errors_by_hand) (n := 63) rfl (by decide) rfl (fun w h Y => PySem.W.km_in_of Y) (fun _ => by first | rfl | decide +kernel) (by first | rfl | decide +kernel) ?F
  case F =>
    intro w mg fa h Y KX G hmg
    refine ⟨[], (fun _ h => absurd h List.not_mem_nil), (fun _ h => absurd h List.not_mem_nil), (fun _ h => absurd h List.not_mem_nil), ?_⟩
    refine' Dw.all_mk KX G ⟨rfl, by decide, by decide⟩ ?a0 ?l0 ?c0 ?k0 ?a1 ?l1 ?c1 ?k1 ?a2 ?l2 ?c2 ?k2 ?a3 ?l3 ?c3 ?k3 ?a4 ?l4 ?c4 ?k4 ?a5 ?l5 ?c5 ?k5 ?a6 ?l6 ?c6 ?k6 ?a7 ?l7 ?c7 ?k7 ?aL ?lL ?cL ?z0 ?z1 ?z2 ?z3 ?z4 ?z5 ?z6 ?z7 ?z8 ?z9 ?g_NoPlans ?kk_NoPlans ?q_NoPlans ?s_NoPlans ?t_NoPlans ?g_BadRule ?kk_BadRule ?q_BadRule ?s_BadRule ?t_BadRule ?g_BadSide ?kk_BadSide ?q_BadSide ?s_BadSide ?t_BadSide ?g_BadNumber ?kk_BadNumber ?q_BadNumber ?s_BadNumber ?t_BadNumber ?g_BadPlan ?kk_BadPlan ?q_BadPlan ?s_BadPlan ?t_BadPlan ?g_BadCell ?kk_BadCell ?q_BadCell ?s_BadCell ?t_BadCell ?g_BadWords ?kk_BadWords ?q_BadWords ?s_BadWords ?t_BadWords ?g_BadStretch ?kk_BadStretch ?q_BadStretch ?s_BadStretch ?t_BadStretch ?g_BadLimit ?kk_BadLimit ?q_BadLimit ?s_BadLimit ?t_BadLimit ?g_BadLot ?kk_BadLot ?q_BadLot ?s_BadLot ?t_BadLot ?g_NotSo ?kk_NotSo ?q_NotSo ?s_NotSo ?t_NotSo ?g_BadHouse ?kk_BadHouse ?q_BadHouse ?s_BadHouse ?t_BadHouse ?g_NothingDone ?kk_NothingDone ?q_NothingDone ?s_NothingDone ?t_NothingDone ?g_OtherThings ?kk_OtherThings ?q_OtherThings ?s_OtherThings ?t_OtherThings ?g_BadStrategy ?kk_BadStrategy ?q_BadStrategy ?s_BadStrategy ?t_BadStrategy ?g_NoTurns ?kk_NoTurns ?q_NoTurns ?s_NoTurns ?t_NoTurns ?g_NoRounds ?kk_NoRounds ?q_NoRounds ?s_NoRounds ?t_NoRounds ?g_BadThing ?hx_BadThing ?g_BadBook ?hx_BadBook ?g_BadRules ?hx_BadRules ?g_BadPlans ?hx_BadPlans ?g_BadRows ?hx_BadRows ?g_BadRow ?hx_BadRow ?g_BadBox ?hx_BadBox ?g_NoRule ?hx_NoRule ?g_BadOffer ?hx_BadOffer ?g_BadFare ?hx_BadFare ?g_NoRow ?hx_NoRow ?g_BadPrices ?hx_BadPrices ?g_NotNow ?hx_NotNow ?g_TooMany ?hx_TooMany ?g_BadReceipts ?hx_BadReceipts ?g_BadForecast ?hx_BadForecast ?g_BadTurns ?hx_BadTurns ?g_BadMarks ?hx_BadMarks ?g_BadText ?hx_BadText ?g_BadJournal ?hx_BadJournal ?g_CornerError ?kk_CornerError ?q_CornerError ?s_CornerError ?t_CornerError ?z_thirdparty ?z_super ?z_top ?ec_CornerError ?ec_BadPlan ?ec_BadPlans ?ec_BadNumber ?ec_BadSide ?ec_BadRule ?ec_BadRules ?ec_BadBook ?ec_BadThing ?ec_NoPlans ?ec_NoRule ?ec_BadLot ?ec_BadLimit ?ec_BadStretch ?ec_BadBox ?ec_BadRow ?ec_BadRows ?ec_BadPrices ?ec_NoRow ?ec_BadWords ?ec_BadFare ?ec_BadOffer ?ec_BadCell ?ec_BadForecast ?ec_BadStrategy ?ec_BadReceipts ?ec_TooMany ?ec_OtherThings ?ec_NotNow ?ec_NothingDone ?ec_BadHouse ?ec_BadJournal ?ec_BadText ?ec_BadMarks ?ec_NotSo ?ec_NoRounds ?ec_NoTurns ?ec_BadTurns ?ktA ?knV ?xf_BadPlans ?nff_BadPlans ?xf_BadRules ?nff_BadRules ?xf_BadBook ?nff_BadBook ?xf_BadThing ?nff_BadThing ?xf_NoRule ?nff_NoRule ?xf_BadBox ?nff_BadBox ?xf_BadRow ?nff_BadRow ?xf_BadRows ?nff_BadRows ?xf_BadPrices ?nff_BadPrices ?xf_NoRow ?nff_NoRow ?xf_BadFare ?nff_BadFare ?xf_BadOffer ?nff_BadOffer ?xf_BadForecast ?nff_BadForecast ?xf_BadReceipts ?nff_BadReceipts ?xf_TooMany ?nff_TooMany ?xf_NotNow ?nff_NotNow ?xf_BadJournal ?nff_BadJournal ?xf_BadText ?nff_BadText ?xf_BadMarks ?nff_BadMarks ?xf_BadTurns ?nff_BadTurns hmg Dw.law_d
    (case a0 => k_is)
    (case l0 => k_is)
    (case c0 => k_is)
    (case k0 => k_is)
    (case a1 => k_is)
    (case l1 => k_is)
    (case c1 => k_is)
    (case k1 => k_is)
    (case a2 => k_is)
    (case l2 => k_is)
    (case c2 => k_is)
    (case k2 => k_is)
    (case a3 => k_is)
    (case l3 => k_is)
    (case c3 => k_is)
    (case k3 => k_is)
    (case a4 => k_is)
    (case l4 => k_is)
    (case c4 => k_is)
    (case k4 => k_is)
    (case a5 => k_is)
    (case l5 => k_is)
    (case c5 => k_is)
    (case k5 => k_is)
    (case a6 => k_is)
    (case l6 => k_is)
    (case c6 => k_is)
    (case k6 => k_is)
    (case a7 => k_is)
    (case l7 => k_is)
    (case c7 => k_is)
    (case k7 => k_is)
    (case aL => k_is)
    (case lL => k_is)
    (case cL => k_is)
    (case z0 => k_is)
    (case z1 => k_is)
    (case z2 => k_is)
    (case z3 => k_is)
    (case z4 => k_is)
    (case z5 => k_is)
    (case z6 => k_is)
    (case z7 => k_is)
    (case z8 => k_is)
    (case z9 => k_is)
    (case g_NoPlans => k_is)
    (case kk_NoPlans => k_is)
    (case q_NoPlans => k_exc)
    (case s_NoPlans => k_is)
    (case t_NoPlans => k_is)
    (case g_BadRule => k_is)
    (case kk_BadRule => k_is)
    (case q_BadRule => k_exc)
    (case s_BadRule => k_is)
    (case t_BadRule => k_is)
    (case g_BadSide => k_is)
    (case kk_BadSide => k_is)
    (case q_BadSide => k_exc)
    (case s_BadSide => k_is)
    (case t_BadSide => k_is)
    (case g_BadNumber => k_is)
    (case kk_BadNumber => k_is)
    (case q_BadNumber => k_exc)
    (case s_BadNumber => k_is)
    (case t_BadNumber => k_is)
    (case g_BadPlan => k_is)
    (case kk_BadPlan => k_is)
    (case q_BadPlan => k_exc)
    (case s_BadPlan => k_is)
    (case t_BadPlan => k_is)
    (case g_BadCell => k_is)
    (case kk_BadCell => k_is)
    (case q_BadCell => k_exc)
    (case s_BadCell => k_is)
    (case t_BadCell => k_is)
    (case g_BadWords => k_is)
    (case kk_BadWords => k_is)
    (case q_BadWords => k_exc)
    (case s_BadWords => k_is)
    (case t_BadWords => k_is)
    (case g_BadStretch => k_is)
    (case kk_BadStretch => k_is)
    (case q_BadStretch => k_exc)
    (case s_BadStretch => k_is)
    (case t_BadStretch => k_is)
    (case g_BadLimit => k_is)
    (case kk_BadLimit => k_is)
    (case q_BadLimit => k_exc)
    (case s_BadLimit => k_is)
    (case t_BadLimit => k_is)
    (case g_BadLot => k_is)
    (case kk_BadLot => k_is)
    (case q_BadLot => k_exc)
    (case s_BadLot => k_is)
    (case t_BadLot => k_is)
    (case g_NotSo => k_is)
    (case kk_NotSo => k_is)
    (case q_NotSo => k_exc)
    (case s_NotSo => k_is)
    (case t_NotSo => k_is)
    (case g_BadHouse => k_is)
    (case kk_BadHouse => k_is)
    (case q_BadHouse => k_exc)
    (case s_BadHouse => k_is)
    (case t_BadHouse => k_is)
    (case g_NothingDone => k_is)
    (case kk_NothingDone => k_is)
    (case q_NothingDone => k_exc)
    (case s_NothingDone => k_is)
    (case t_NothingDone => k_is)
    (case g_OtherThings => k_is)
    (case kk_OtherThings => k_is)
    (case q_OtherThings => k_exc)
    (case s_OtherThings => k_is)
    (case t_OtherThings => k_is)
    (case g_BadStrategy => k_is)
    (case kk_BadStrategy => k_is)
    (case q_BadStrategy => k_exc)
    (case s_BadStrategy => k_is)
    (case t_BadStrategy => k_is)
    (case g_NoTurns => k_is)
    (case kk_NoTurns => k_is)
    (case q_NoTurns => k_exc)
    (case s_NoTurns => k_is)
    (case t_NoTurns => k_is)
    (case g_NoRounds => k_is)
    (case kk_NoRounds => k_is)
    (case q_NoRounds => k_exc)
    (case s_NoRounds => k_is)
    (case t_NoRounds => k_is)
    (case g_BadThing => k_is)
    (case hx_BadThing => exact ⟨_, _, _, _, _, _, _, _, _, _, _, _, _, _, _, _, _, _, _, _, _, _, _, _, _, _, _, _, _, _, _, _, _, by k_is, by decide +kernel, by k_is, by k_is, by k_is, by k_is, by k_is, by k_is, by ks_is, by k_is, by k_is, by k_is, by k_is, by exact ⟨_, rfl⟩, by k_is, by k_is, by k_is⟩)
    (case g_BadBook => k_is)
    (case hx_BadBook => exact ⟨_, _, _, _, _, _, _, _, _, _, _, _, _, _, _, _, _, _, _, _, _, _, _, _, _, _, _, _, _, _, _, _, _, by k_is, by decide +kernel, by k_is, by k_is, by k_is, by k_is, by k_is, by k_is, by ks_is, by k_is, by k_is, by k_is, by k_is, by exact ⟨_, rfl⟩, by k_is, by k_is, by k_is⟩)
    (case g_BadRules => k_is)
    (case hx_BadRules => exact ⟨_, _, _, _, _, _, _, _, _, _, _, _, _, _, _, _, _, _, _, _, _, _, _, _, _, _, _, _, _, _, _, _, _, by k_is, by decide +kernel, by k_is, by k_is, by k_is, by k_is, by k_is, by k_is, by ks_is, by k_is, by k_is, by k_is, by k_is, by exact ⟨_, rfl⟩, by k_is, by k_is, by k_is⟩)
    (case g_BadPlans => k_is)
    (case hx_BadPlans => exact ⟨_, _, _, _, _, _, _, _, _, _, _, _, _, _, _, _, _, _, _, _, _, _, _, _, _, _, _, _, _, _, _, _, _, by k_is, by decide +kernel, by k_is, by k_is, by k_is, by k_is, by k_is, by k_is, by ks_is, by k_is, by k_is, by k_is, by k_is, by exact ⟨_, rfl⟩, by k_is, by k_is, by k_is⟩)
    (case g_BadRows => k_is)
    (case hx_BadRows => exact ⟨_, _, _, _, _, _, _, _, _, _, _, _, _, _, _, _, _, _, _, _, _, _, _, _, _, _, _, _, _, _, _, _, _, by k_is, by decide +kernel, by k_is, by k_is, by k_is, by k_is, by k_is, by k_is, by ks_is, by k_is, by k_is, by k_is, by k_is, by exact ⟨_, rfl⟩, by k_is, by k_is, by k_is⟩)
    (case g_BadRow => k_is)
    (case hx_BadRow => exact ⟨_, _, _, _, _, _, _, _, _, _, _, _, _, _, _, _, _, _, _, _, _, _, _, _, _, _, _, _, _, _, _, _, _, by k_is, by decide +kernel, by k_is, by k_is, by k_is, by k_is, by k_is, by k_is, by ks_is, by k_is, by k_is, by k_is, by k_is, by exact ⟨_, rfl⟩, by k_is, by k_is, by k_is⟩)
    (case g_BadBox => k_is)
    (case hx_BadBox => exact ⟨_, _, _, _, _, _, _, _, _, _, _, _, _, _, _, _, _, _, _, _, _, _, _, _, _, _, _, _, _, _, _, _, _, by k_is, by decide +kernel, by k_is, by k_is, by k_is, by k_is, by k_is, by k_is, by ks_is, by k_is, by k_is, by k_is, by k_is, by exact ⟨_, rfl⟩, by k_is, by k_is, by k_is⟩)
    (case g_NoRule => k_is)
    (case hx_NoRule => exact ⟨_, _, _, _, _, _, _, _, _, _, _, _, _, _, _, _, _, _, _, _, _, _, _, _, _, _, _, _, _, _, _, _, _, by k_is, by decide +kernel, by k_is, by k_is, by k_is, by k_is, by k_is, by k_is, by ks_is, by k_is, by k_is, by k_is, by k_is, by exact ⟨_, rfl⟩, by k_is, by k_is, by k_is⟩)
    (case g_BadOffer => k_is)
    (case hx_BadOffer => exact ⟨_, _, _, _, _, _, _, _, _, _, _, _, _, _, _, _, _, _, _, _, _, _, _, _, _, _, _, _, _, _, _, _, _, by k_is, by decide +kernel, by k_is, by k_is, by k_is, by k_is, by k_is, by k_is, by ks_is, by k_is, by k_is, by k_is, by k_is, by exact ⟨_, rfl⟩, by k_is, by k_is, by k_is⟩)
    (case g_BadFare => k_is)
    (case hx_BadFare => exact ⟨_, _, _, _, _, _, _, _, _, _, _, _, _, _, _, _, _, _, _, _, _, _, _, _, _, _, _, _, _, _, _, _, _, by k_is, by decide +kernel, by k_is, by k_is, by k_is, by k_is, by k_is, by k_is, by ks_is, by k_is, by k_is, by k_is, by k_is, by exact ⟨_, rfl⟩, by k_is, by k_is, by k_is⟩)
    (case g_NoRow => k_is)
    (case hx_NoRow => exact ⟨_, _, _, _, _, _, _, _, _, _, _, _, _, _, _, _, _, _, _, _, _, _, _, _, _, _, _, _, _, _, _, _, _, by k_is, by decide +kernel, by k_is, by k_is, by k_is, by k_is, by k_is, by k_is, by ks_is, by k_is, by k_is, by k_is, by k_is, by exact ⟨_, rfl⟩, by k_is, by k_is, by k_is⟩)
    (case g_BadPrices => k_is)
    (case hx_BadPrices => exact ⟨_, _, _, _, _, _, _, _, _, _, _, _, _, _, _, _, _, _, _, _, _, _, _, _, _, _, _, _, _, _, _, _, _, by k_is, by decide +kernel, by k_is, by k_is, by k_is, by k_is, by k_is, by k_is, by ks_is, by k_is, by k_is, by k_is, by k_is, by exact ⟨_, rfl⟩, by k_is, by k_is, by k_is⟩)
    (case g_NotNow => k_is)
    (case hx_NotNow => exact ⟨_, _, _, _, _, _, _, _, _, _, _, _, _, _, _, _, _, _, _, _, _, _, _, _, _, _, _, _, _, _, _, _, _, by k_is, by decide +kernel, by k_is, by k_is, by k_is, by k_is, by k_is, by k_is, by ks_is, by k_is, by k_is, by k_is, by k_is, by exact ⟨_, rfl⟩, by k_is, by k_is, by k_is⟩)
    (case g_TooMany => k_is)
    (case hx_TooMany => exact ⟨_, _, _, _, _, _, _, _, _, _, _, _, _, _, _, _, _, _, _, _, _, _, _, _, _, _, _, _, _, _, _, _, _, by k_is, by decide +kernel, by k_is, by k_is, by k_is, by k_is, by k_is, by k_is, by ks_is, by k_is, by k_is, by k_is, by k_is, by exact ⟨_, rfl⟩, by k_is, by k_is, by k_is⟩)
    (case g_BadReceipts => k_is)
    (case hx_BadReceipts => exact ⟨_, _, _, _, _, _, _, _, _, _, _, _, _, _, _, _, _, _, _, _, _, _, _, _, _, _, _, _, _, _, _, _, _, by k_is, by decide +kernel, by k_is, by k_is, by k_is, by k_is, by k_is, by k_is, by ks_is, by k_is, by k_is, by k_is, by k_is, by exact ⟨_, rfl⟩, by k_is, by k_is, by k_is⟩)
    (case g_BadForecast => k_is)
    (case hx_BadForecast => exact ⟨_, _, _, _, _, _, _, _, _, _, _, _, _, _, _, _, _, _, _, _, _, _, _, _, _, _, _, _, _, _, _, _, _, by k_is, by decide +kernel, by k_is, by k_is, by k_is, by k_is, by k_is, by k_is, by ks_is, by k_is, by k_is, by k_is, by k_is, by exact ⟨_, rfl⟩, by k_is, by k_is, by k_is⟩)
    (case g_BadTurns => k_is)
    (case hx_BadTurns => exact ⟨_, _, _, _, _, _, _, _, _, _, _, _, _, _, _, _, _, _, _, _, _, _, _, _, _, _, _, _, _, _, _, _, _, by k_is, by decide +kernel, by k_is, by k_is, by k_is, by k_is, by k_is, by k_is, by ks_is, by k_is, by k_is, by k_is, by k_is, by exact ⟨_, rfl⟩, by k_is, by k_is, by k_is⟩)
    (case g_BadMarks => k_is)
    (case hx_BadMarks => exact ⟨_, _, _, _, _, _, _, _, _, _, _, _, _, _, _, _, _, _, _, _, _, _, _, _, _, _, _, _, _, _, _, _, _, by k_is, by decide +kernel, by k_is, by k_is, by k_is, by k_is, by k_is, by k_is, by ks_is, by k_is, by k_is, by k_is, by k_is, by exact ⟨_, rfl⟩, by k_is, by k_is, by k_is⟩)
    (case g_BadText => k_is)
    (case hx_BadText => exact ⟨_, _, _, _, _, _, _, _, _, _, _, _, _, _, _, _, _, _, _, _, _, _, _, _, _, _, _, _, _, _, _, _, _, by k_is, by decide +kernel, by k_is, by k_is, by k_is, by k_is, by k_is, by k_is, by ks_is, by k_is, by k_is, by k_is, by k_is, by exact ⟨_, rfl⟩, by k_is, by k_is, by k_is⟩)
    (case g_BadJournal => k_is)
    (case hx_BadJournal => exact ⟨_, _, _, _, _, _, _, _, _, _, _, _, _, _, _, _, _, _, _, _, _, _, _, _, _, _, _, _, _, _, _, _, _, by k_is, by decide +kernel, by k_is, by k_is, by k_is, by k_is, by k_is, by k_is, by ks_is, by k_is, by k_is, by k_is, by k_is, by exact ⟨_, rfl⟩, by k_is, by k_is, by k_is⟩)
    (case g_CornerError => k_is)
    (case kk_CornerError => k_is)
    (case q_CornerError => k_exc)
    (case s_CornerError => k_is)
    (case t_CornerError => k_is)
    (case z_thirdparty => k_is)
    (case z_super => k_is)
    (case z_top => rfl)
    (case ec_CornerError => exact ⟨by k_is, by k_is, by k_is, by k_is, by k_is, by k_is, by k_is, by k_is⟩)
    (case ec_BadPlan => exact ⟨by k_is, by k_is, by k_is, by k_is, by k_is, by k_is, by k_is, by k_is⟩)
    (case ec_BadPlans => exact ⟨by k_is, by k_is, by k_is, by k_is, by k_is, by k_is, by k_is, by k_is⟩)
    (case ec_BadNumber => exact ⟨by k_is, by k_is, by k_is, by k_is, by k_is, by k_is, by k_is, by k_is⟩)
    (case ec_BadSide => exact ⟨by k_is, by k_is, by k_is, by k_is, by k_is, by k_is, by k_is, by k_is⟩)
    (case ec_BadRule => exact ⟨by k_is, by k_is, by k_is, by k_is, by k_is, by k_is, by k_is, by k_is⟩)
    (case ec_BadRules => exact ⟨by k_is, by k_is, by k_is, by k_is, by k_is, by k_is, by k_is, by k_is⟩)
    (case ec_BadBook => exact ⟨by k_is, by k_is, by k_is, by k_is, by k_is, by k_is, by k_is, by k_is⟩)
    (case ec_BadThing => exact ⟨by k_is, by k_is, by k_is, by k_is, by k_is, by k_is, by k_is, by k_is⟩)
    (case ec_NoPlans => exact ⟨by k_is, by k_is, by k_is, by k_is, by k_is, by k_is, by k_is, by k_is⟩)
    (case ec_NoRule => exact ⟨by k_is, by k_is, by k_is, by k_is, by k_is, by k_is, by k_is, by k_is⟩)
    (case ec_BadLot => exact ⟨by k_is, by k_is, by k_is, by k_is, by k_is, by k_is, by k_is, by k_is⟩)
    (case ec_BadLimit => exact ⟨by k_is, by k_is, by k_is, by k_is, by k_is, by k_is, by k_is, by k_is⟩)
    (case ec_BadStretch => exact ⟨by k_is, by k_is, by k_is, by k_is, by k_is, by k_is, by k_is, by k_is⟩)
    (case ec_BadBox => exact ⟨by k_is, by k_is, by k_is, by k_is, by k_is, by k_is, by k_is, by k_is⟩)
    (case ec_BadRow => exact ⟨by k_is, by k_is, by k_is, by k_is, by k_is, by k_is, by k_is, by k_is⟩)
    (case ec_BadRows => exact ⟨by k_is, by k_is, by k_is, by k_is, by k_is, by k_is, by k_is, by k_is⟩)
    (case ec_BadPrices => exact ⟨by k_is, by k_is, by k_is, by k_is, by k_is, by k_is, by k_is, by k_is⟩)
    (case ec_NoRow => exact ⟨by k_is, by k_is, by k_is, by k_is, by k_is, by k_is, by k_is, by k_is⟩)
    (case ec_BadWords => exact ⟨by k_is, by k_is, by k_is, by k_is, by k_is, by k_is, by k_is, by k_is⟩)
    (case ec_BadFare => exact ⟨by k_is, by k_is, by k_is, by k_is, by k_is, by k_is, by k_is, by k_is⟩)
    (case ec_BadOffer => exact ⟨by k_is, by k_is, by k_is, by k_is, by k_is, by k_is, by k_is, by k_is⟩)
    (case ec_BadCell => exact ⟨by k_is, by k_is, by k_is, by k_is, by k_is, by k_is, by k_is, by k_is⟩)
    (case ec_BadForecast => exact ⟨by k_is, by k_is, by k_is, by k_is, by k_is, by k_is, by k_is, by k_is⟩)
    (case ec_BadStrategy => exact ⟨by k_is, by k_is, by k_is, by k_is, by k_is, by k_is, by k_is, by k_is⟩)
    (case ec_BadReceipts => exact ⟨by k_is, by k_is, by k_is, by k_is, by k_is, by k_is, by k_is, by k_is⟩)
    (case ec_TooMany => exact ⟨by k_is, by k_is, by k_is, by k_is, by k_is, by k_is, by k_is, by k_is⟩)
    (case ec_OtherThings => exact ⟨by k_is, by k_is, by k_is, by k_is, by k_is, by k_is, by k_is, by k_is⟩)
    (case ec_NotNow => exact ⟨by k_is, by k_is, by k_is, by k_is, by k_is, by k_is, by k_is, by k_is⟩)
    (case ec_NothingDone => exact ⟨by k_is, by k_is, by k_is, by k_is, by k_is, by k_is, by k_is, by k_is⟩)
    (case ec_BadHouse => exact ⟨by k_is, by k_is, by k_is, by k_is, by k_is, by k_is, by k_is, by k_is⟩)
    (case ec_BadJournal => exact ⟨by k_is, by k_is, by k_is, by k_is, by k_is, by k_is, by k_is, by k_is⟩)
    (case ec_BadText => exact ⟨by k_is, by k_is, by k_is, by k_is, by k_is, by k_is, by k_is, by k_is⟩)
    (case ec_BadMarks => exact ⟨by k_is, by k_is, by k_is, by k_is, by k_is, by k_is, by k_is, by k_is⟩)
    (case ec_NotSo => exact ⟨by k_is, by k_is, by k_is, by k_is, by k_is, by k_is, by k_is, by k_is⟩)
    (case ec_NoRounds => exact ⟨by k_is, by k_is, by k_is, by k_is, by k_is, by k_is, by k_is, by k_is⟩)
    (case ec_NoTurns => exact ⟨by k_is, by k_is, by k_is, by k_is, by k_is, by k_is, by k_is, by k_is⟩)
    (case ec_BadTurns => exact ⟨by k_is, by k_is, by k_is, by k_is, by k_is, by k_is, by k_is, by k_is⟩)
    (case ktA => kernel_rfl)
    (case knV => kernel_rfl)
    (case xf_BadPlans => exact ⟨by k_is, by k_is, by k_is, by k_is⟩)
    (case nff_BadPlans => k_is)
    (case xf_BadRules => exact ⟨by k_is, by k_is, by k_is, by k_is⟩)
    (case nff_BadRules => k_is)
    (case xf_BadBook => exact ⟨by k_is, by k_is, by k_is, by k_is⟩)
    (case nff_BadBook => k_is)
    (case xf_BadThing => exact ⟨by k_is, by k_is, by k_is, by k_is⟩)
    (case nff_BadThing => k_is)
    (case xf_NoRule => exact ⟨by k_is, by k_is, by k_is, by k_is⟩)
    (case nff_NoRule => k_is)
    (case xf_BadBox => exact ⟨by k_is, by k_is, by k_is, by k_is⟩)
    (case nff_BadBox => k_is)
    (case xf_BadRow => exact ⟨by k_is, by k_is, by k_is, by k_is⟩)
    (case nff_BadRow => k_is)
    (case xf_BadRows => exact ⟨by k_is, by k_is, by k_is, by k_is⟩)
    (case nff_BadRows => k_is)
    (case xf_BadPrices => exact ⟨by k_is, by k_is, by k_is, by k_is⟩)
    (case nff_BadPrices => k_is)
    (case xf_NoRow => exact ⟨by k_is, by k_is, by k_is, by k_is⟩)
    (case nff_NoRow => k_is)
    (case xf_BadFare => exact ⟨by k_is, by k_is, by k_is, by k_is⟩)
    (case nff_BadFare => k_is)
    (case xf_BadOffer => exact ⟨by k_is, by k_is, by k_is, by k_is⟩)
    (case nff_BadOffer => k_is)
    (case xf_BadForecast => exact ⟨by k_is, by k_is, by k_is, by k_is⟩)
    (case nff_BadForecast => k_is)
    (case xf_BadReceipts => exact ⟨by k_is, by k_is, by k_is, by k_is⟩)
    (case nff_BadReceipts => k_is)
    (case xf_TooMany => exact ⟨by k_is, by k_is, by k_is, by k_is⟩)
    (case nff_TooMany => k_is)
    (case xf_NotNow => exact ⟨by k_is, by k_is, by k_is, by k_is⟩)
    (case nff_NotNow => k_is)
    (case xf_BadJournal => exact ⟨by k_is, by k_is, by k_is, by k_is⟩)
    (case nff_BadJournal => k_is)
    (case xf_BadText => exact ⟨by k_is, by k_is, by k_is, by k_is⟩)
    (case nff_BadText => k_is)
    (case xf_BadMarks => exact ⟨by k_is, by k_is, by k_is, by k_is⟩)
    (case nff_BadMarks => k_is)
    (case xf_BadTurns => exact ⟨by k_is, by k_is, by k_is, by k_is⟩)
    (case nff_BadTurns => k_is)
